import PyProof.Rows.All
import Wide.All
import OpenK.AllK
import Wide.FinOn
import Lean
import PyProof.EqAt
import PyProof.EqKinds
import PyProof.TupleCall
import PySem.Challenge.RW_ringheaps_k04_whole_any_ground_text
set_option Elab.async false
set_option linter.all false
set_option maxRecDepth 100000
namespace L2
open PySem PySem.Spec PyProof.Rows
abbrev ja:=Sum Int Str
def Xb:ja->Value->Bool
 | .inl k,v=>Value.isInt k v
 | .inr x,v=>Value.isStrOf x v
def RY (w:World):ja->Int
 | .inl k=>hashInt k
 | .inr x=>hashStr w x
theorem js:∀{k:ja} {v:Value},Xb k v=true->(∃i t,k=Sum.inl i/\v=Value.int i t)\/(∃x t,k=Sum.inr x/\v=Value.str x t)
 | .inl i,v,h=>by
   obtain⟨t,e⟩:=Value.isInt_shape (k:=i) (v:=v) h
   exact .inl ⟨i,t,rfl,e⟩
 | .inr x,v,h=>by
   obtain⟨t,e⟩:=Value.isStrOf_shape (x:=x) (v:=v) h
   exact .inr ⟨x,t,rfl,e⟩
theorem vm (i:Int) (t:Tok):Xb (.inl i) (.int i t)=true:=by simp [Xb,Value.isInt]
theorem vk (x:Str) (t:Tok):Xb (.inr x) (.str x t)=true:=by simp [Xb,Value.isStrOf]
theorem Ko (a b:Int):decide ((Sum.inl a:ja)=Sum.inl b)=(a==b):=by
 by_cases e:a=b
 . subst e;simp
 . have h:¬(Sum.inl a:ja)=Sum.inl b:=λq=>e (Sum.inl.inj q)
   rw[decide_eq_false h]
   exact(beq_eq_false_iff_ne.mpr e).symm
theorem Kl (a b:Str):decide ((Sum.inr a:ja)=Sum.inr b)=decide (a=b):=by
 by_cases e:a=b
 . subst e;simp
 . have h:¬(Sum.inr a:ja)=Sum.inr b:=λq=>e (Sum.inr.inj q)
   rw[decide_eq_false h,decide_eq_false e]
theorem Kn (a:Int) (b:Str):decide ((Sum.inl a:ja)=Sum.inr b)=false:=decide_eq_false (λq=>nomatch q)
theorem Km (a:Str) (b:Int):decide ((Sum.inr a:ja)=Sum.inl b)=false:=decide_eq_false (λq=>nomatch q)
def jB (prog:Program) (w:World):PySem.KeyKind prog w ja where
 is:=Xb
 hash:=RY w
 inj:=λv a b ha hb=>by
   rcases js ha with ⟨i,t,rfl,rfl⟩ | ⟨x,t,rfl,rfl⟩
   . rcases js hb with ⟨j,u,rfl,e⟩ | ⟨y,u,rfl,e⟩
     . injection e with e1 _;rw[e1]
     . exact nomatch e
   . rcases js hb with ⟨j,u,rfl,e⟩ | ⟨y,u,rfl,e⟩
     . exact nomatch e
     . injection e with e1 _;rw[e1]
 byValue:=λk v h=>by
   rcases js h with ⟨i,t,rfl,rfl⟩ | ⟨x,t,rfl,rfl⟩<;>rfl
 pyHash:=λhv h=>by
   rcases js hv with ⟨i,t,rfl,rfl⟩ | ⟨x,t,rfl,rfl⟩
   . exact wpAny_pyHash_int h
   . exact wpAny_pyHash_str h
 eqBool:=λhu hv h=>by
   rcases js hu with ⟨i,t,rfl,rfl⟩ | ⟨x,t,rfl,rfl⟩
   . rcases js hv with ⟨j,u,rfl,rfl⟩ | ⟨y,u,rfl,rfl⟩
     . rw[Ko]at h;exact wpAny_eqBool_int h
     . rw[Kn]at h;exact SeqAt.EqAt.int_str i t y u _ _ _ _ h
   . rcases js hv with ⟨j,u,rfl,rfl⟩ | ⟨y,u,rfl,rfl⟩
     . rw[Km]at h;exact SeqAt.EqAt.str_int x t j u _ _ _ _ h
     . rw[Kl]at h;exact wpAny_eqBool_str h
 «strs»:=λk x t v h=>by
   rcases js h with ⟨i,u,rfl,e⟩ | ⟨y,u,rfl,e⟩
   . exact nomatch e
   . injection e with e1 _
     subst e1
     cases v<;>rfl
theorem WG (prog:Program) (w:World) (i:Int) (t:Tok):(jB prog w).is (.inl i) (.int i t)=true:=vm i t
theorem WF (prog:Program) (w:World) (x:Str) (t:Tok):(jB prog w).is (.inr x) (.str x t)=true:=vk x t
end L2
namespace L2
open PySem PySem.Spec PyProof.Rows
inductive V where
 | non | bl (b:Bool) | int (i:Int) | str (x:Str) | byt (b:Array UInt8) | flt (b:UInt64) | ref (a:Addr) | ty (n:String)
 deriving DecidableEq
def qN:V->Value->Prop
 | .non,u=>u=Value.none
 | .bl b,u=>u=Value.bool b
 | .int i,u=>∃t,u=Value.int i t
 | .str x,u=>∃t,u=Value.str x t
 | .byt b,u=>∃t,u=Value.bytes b t
 | .flt b,u=>∃t,u=Value.float b t
 | .ref a,u=>u=Value.ref a
 | .ty n,u=>u=Value.type n
abbrev qD:List V->List Value->Prop:=Paired qN
theorem qD.length {xs:List V} {us:List Value} (r:qD xs us):xs.length=us.length:=Paired.length r
theorem qD.get:∀{xs:List V} {us:List Value} {i:Nat} {x:V},qD xs us->xs[i]?=some x->∃u,us[i]?=some u/\qN x u
 | _,_,_,_,.nil,e=>by simp at e
 | _,_,0,_,.cons r _,e=>by simp at e;subst e;exact⟨_,rfl,r⟩
 | _,_,i+1,x,.cons _ t,e=>by
   obtain⟨u,h1,h2⟩:=qD.get (i:=i) (x:=x) t (by simpa using e)
   exact⟨u,by simpa using h1,h2⟩
theorem qD.set {x:V} {u:Value} (r:qN x u):∀{xs:List V} {us:List Value} (i:Nat),qD xs us->qD (xs.set i x) (us.set i u)
 | _,_,_,.nil=>.nil
 | _,_,0,.cons _ t=>.cons r t
 | _,_,i+1,.cons q t=>.cons q (qD.set r i t)
theorem qD.append:∀{xs ys:List V} {us ws:List Value},qD xs us->qD ys ws->qD (xs++ys) (us++ws)
 | _,_,_,_,.nil,s=>s
 | _,_,_,_,.cons r t,s=>.cons r (qD.append t s)
theorem qD.take:∀{xs:List V} {us:List Value} (n:Nat),qD xs us->qD (xs.take n) (us.take n)
 | _,_,0,_=>.nil
 | _,_,_+1,.nil=>.nil
 | _,_,n+1,.cons r t=>.cons r (qD.take n t)
theorem qD.drop:∀{xs:List V} {us:List Value} (n:Nat),qD xs us->qD (xs.drop n) (us.drop n)
 | _,_,0,r=>r
 | _,_,_+1,.nil=>.nil
 | _,_,n+1,.cons _ t=>qD.drop n t
theorem qD.none_of:∀{xs:List V} {us:List Value} {i:Nat},qD xs us->xs[i]?=none->us[i]?=none:=λ{xs us i} r e=>by
 have h1:=r.length
 have h2:xs.length<=i:=List.getElem?_eq_none_iff.mp e
 exact List.getElem?_eq_none_iff.mpr (by omega)
def JF:Option V->Option Value->Prop
 | some v,some u=>qN v u
 | none,none=>True
 | _,_=>False
def KV {κ:Type}:List (κ×V)->List (κ×Value)->Prop:=Paired λ(p:κ×V) (q:κ×Value)=>p.1=q.1/\qN p.2 q.2
def kV:ja->V
 | .inl i=>.int i
 | .inr x=>.str x
inductive HO where
 | lst (xs:List V)
 | tup (xs:List V)
 | dK (kvs:List (ja×V)) | dT (kvs:List (List ja×V))
 | set (S:Int->Bool) (n:Nat)
 | ins (C dx:Addr) (fs:List (Str×V))
 | own (x:Addr)
 | xd (fs:List (Str×V))
 | met (f x:Addr)
 | rng (lo hi:Int)
 | frz (o:Obj) (u:HO)
 | tbl (ps:Array Value)
 | ext (φ:Heap->Prop)
abbrev Hp:=Addr->Option HO
def upd (H:Hp) (a:Addr) (o:HO):Hp:=λb=>if b=a then some o else H b
theorem qd {H:Hp} {a:Addr} {o:HO}:upd H a o a=some o:=by unfold upd;rw[if_pos rfl]
theorem qg {H:Hp} {a b:Addr} {o:HO} (h:b≠a):upd H a o b=H b:=by unfold upd;rw[if_neg h]
theorem jx {H:Hp} {a:Addr} {o u:HO}:upd (upd H a o) a u=upd H a u:=by
 funext b;unfold upd;split<;>rfl
theorem Gu {H:Hp} {a b:Addr} {o u:HO} (h:H a=some o) (h':H b=some u) (d:o≠u):a≠b:=by
 intro e;subst e;rw[h]at h';exact d (Option.some.inj h')
theorem qt {H:Hp} {a b:Addr} {o:HO} (h:H a=some o) (h':H b=none):a≠b:=by
 intro e;subst e;rw[h]at h';cases h'
def Nb (ps:Array Value) (oc:Obj):Prop:=∃(q:Str) (t:Tok) (vs:Array Value) (t':Tok),ps[0]?=some (.str q t)/\oc.data=.fields vs/\vs[1]?=some (.str q t')
section
variable (P:Program) (w:World)
def qI (H:Hp) (h:Heap) (a:Addr):HO->Prop
 | .lst xs=>xs.length<=sizeLine/\∃(its:List Value) (n:Nat),qD xs its/\h.get? a=some {cls:=.type "list",data:=.seq its.toArray n}
 | .tup xs=>xs.length<=sizeLine/\∃its:List Value,qD xs its/\IsTup h a its.toArray
 | .dK kvs=>kvs.length<=sizeLine/\(a==sysModules)=false/\∃vs,KV kvs vs/\h.DictOf (jB P w) a vs
 | .dT kvs=>kvs.length<=sizeLine/\(a==sysModules)=false/\∃xs:List (List ja×Addr×Value),
     Paired (λ(p:List ja×V) (q:List ja×Addr×Value)=>p.1=q.1/\H q.2.1=some (.tup (p.1.map kV))/\qN p.2 q.2.2) kvs xs/\
     ∃o es ep,h.get? a=some o/\o.ExactDict/\o.data=.dict es ep/\es.toList=xs.map (entryOfKey (tupleKind (jB P w)))/\(xs.map (·.1)).Nodup
 | .set S n=>h.SetOf (intKind P w) a S n
 | .ins C dx fs=>H dx=some (.own a)/\fs.length<=1000/\dx≠a/\h.get? a=some (PySem.W.instObj C dx)/\
     ∃mA,h.Ns1 dx mA/\(∀f,JF (fs.lookup f) (mA f))/\PySem.Within mA (fs.map (·.1))
 | .own _=>∃o,h.get? a=some o
 | .xd fs=>∃mA,h.Ns1 a mA/\∀f,JF (fs.lookup f) (mA f)
 | .rng lo hi=>∃t u v,h.get? a=some {cls:=.type "range",data:=.fields #[.int lo t,.int hi u,.int 1 v]}
 | .frz o u=>h.get? a=some o/\qI H h a u
 | .tbl ps=>∃ts:Array Value,h.get? a=some {cls:=.none,data:=.fields ts}/\TriplesOk ts.toList/\∀pos cv,codeAmong pos ts.toList=some cv->∃c oc,cv=.ref c/\H c=some (.frz oc (.own a))/\Nb ps oc
 | .met f x=>h.get? a=some (PySem.W.methodObj (.ref f) (.ref x))
 | .ext φ=>φ h/\(∃o,h.get? a=some o)/\∀h1 h2:Heap,φ h1->(∀o,h1.get? a=some o->h2.get? a=some o)->φ h2
def JJ (H:Hp) (h:Heap):Prop:=∀a o,H a=some o->qI P w H h a o
end
section
variable {P:Program} {w:World} {H H':Hp} {h h':Heap} {a:Addr} {o:HO}
theorem qI.lt (x:qI P w H h a o):a < h.objs.size:=by
 cases o with
 | lst xs=>obtain⟨_,_,_,_,e⟩:=x;exact Heap.lt_size e
 | tup xs=>obtain⟨_,_,_,p⟩:=x;exact p.lt
 | dK kvs=>obtain⟨_,_,_,_,o,_,_,e,_⟩:=x;exact Heap.lt_size e
 | dT kvs=>obtain⟨_,_,_,_,o,_,_,e,_⟩:=x;exact Heap.lt_size e
 | set S n=>obtain⟨o,_,_,_,e,_⟩:=x;exact Heap.lt_size e
 | ins C dx fs=>obtain⟨_,_,_,e,_⟩:=x;exact Heap.lt_size e
 | own y=>obtain⟨_,e⟩:=x;exact Heap.lt_size e
 | xd fs=>obtain⟨_,⟨_,_,_,e,_⟩,_⟩:=x;exact Heap.lt_size e
 | rng lo hi=>obtain⟨_,_,_,e⟩:=x;exact Heap.lt_size e
 | frz ob u=>obtain⟨e,_⟩:=x;exact Heap.lt_size e
 | tbl ps=>obtain⟨_,e,_⟩:=x;exact Heap.lt_size e
 | met f y=>exact Heap.lt_size (show h.get? a=some _ from x)
 | ext φ=>obtain⟨_,⟨_,e⟩,_⟩:=x;exact Heap.lt_size e
theorem Paired.mapP {α β:Type} {F G:α->β->Prop}:∀{l₁:List α} {l₂:List β},Paired F l₁ l₂->(∀a b,F a b->G a b)->Paired G l₁ l₂
 | _,_,.nil,_=>.nil
 | _,_,.cons r t,f=>.cons (f _ _ r) (Paired.mapP t f)
theorem qI.stay (x:qI P w H h a o) (k:∀b u,(b=a\/H b=some (.own a))->h.get? b=some u->h'.get? b=some u)
   (ho:∀b,H b=some (.own a)->H' b=some (.own a)) (ht:∀b xs,H b=some (.tup xs)->H' b=some (.tup xs)) (hf:∀b o,H b=some (.frz o (.own a))->H' b=some (.frz o (.own a)):=by exact λ_ _ q=>q):qI P w H' h' a o:=by
 induction o with
 | lst xs=>obtain⟨z,its,n,r,e⟩:=x;exact⟨z,its,n,r,k _ _ (.inl rfl) e⟩
 | tup xs=>obtain⟨z,its,r,ob,e,c⟩:=x;exact⟨z,its,r,ob,k _ _ (.inl rfl) e,c⟩
 | dK kvs=>obtain⟨z,y,vs,r,ob,es,ep,e,c⟩:=x;exact⟨z,y,vs,r,ob,es,ep,k _ _ (.inl rfl) e,c⟩
 | dT kvs=>
   obtain⟨z,y,xs,r,ob,es,ep,e,c⟩:=x
   exact⟨z,y,xs,Paired.mapP r λp q z=>⟨z.1,ht _ _ z.2.1,z.2.2⟩,ob,es,ep,k _ _ (.inl rfl) e,c⟩
 | set S n=>obtain⟨ob,es,ep,t,e,c⟩:=x;exact⟨ob,es,ep,t,k _ _ (.inl rfl) e,c⟩
 | ins C dx fs=>
   obtain⟨d,z,ne,e,mA,⟨od,es,ep,e2,c⟩,r⟩:=x
   exact⟨ho _ d,z,ne,k _ _ (.inl rfl) e,mA,⟨od,es,ep,k _ _ (.inr d) e2,c⟩,r⟩
 | own y=>obtain⟨ob,e⟩:=x;exact⟨ob,k _ _ (.inl rfl) e⟩
 | xd fs=>obtain⟨mA,⟨od,es,ep,e,c⟩,r⟩:=x;exact⟨mA,⟨od,es,ep,k _ _ (.inl rfl) e,c⟩,r⟩
 | rng lo hi=>obtain⟨t,u,v,e⟩:=x;exact⟨t,u,v,k _ _ (.inl rfl) e⟩
 | frz ob u ih=>obtain⟨e,q⟩:=x;exact⟨k _ _ (.inl rfl) e,ih q⟩
 | tbl ps=>
   obtain⟨ts,e,tr,cs⟩:=x
   exact⟨ts,k a _ (.inl rfl) e,tr,λpos cv q=>let ⟨c,oc,e1,e2,e3⟩:=cs pos cv q;⟨c,oc,e1,hf c oc e2,e3⟩⟩
 | met f y=>
   have e:h.get? a=some (PySem.W.methodObj (.ref f) (.ref y)):=x
   show h'.get? a=some (PySem.W.methodObj (.ref f) (.ref y))
   exact k a _ (.inl rfl) e
 | ext φ=>obtain⟨p,⟨o,e⟩,st⟩:=x;exact⟨st _ _ p λo q=>k _ _ (.inl rfl) q,⟨o,k _ _ (.inl rfl) e⟩,st⟩
theorem JJ.lt (x:JJ P w H h) (e:H a=some o):a < h.objs.size:=(x a o e).lt
theorem JJ.fresh (x:JJ P w H h) (e:h.objs.size<=a):H a=none:=by
 cases q:H a with
 | none=>rfl
 | some u=>exact absurd (Nat.lt_of_lt_of_le (x.lt q) e) (Nat.lt_irrefl _)
theorem JJ.kept (x:JJ P w H h) (k:∀b u,h.get? b=some u->h'.get? b=some u):JJ P w H h':=λa o e=>
 (x a o e).stay (λb u _ q=>k b u q) (λ_ q=>q) λ_ _ q=>q
theorem JJ.laid (x:JJ P w H h) (k:∀b u,h.get? b=some u->h'.get? b=some u) (hp:h.objs.size<=a) (new:qI P w (upd H a o) h' a o):JJ P w (upd H a o) h':=λb u e=>by
 have hn:=x.fresh hp
 by_cases hb:b=a
 . subst hb;rw[qd]at e;cases e;exact new
 . rw[qg hb]at e
   exact(x b u e).stay (λc v _ q=>k c v q) (λc q=>by rw[qg (qt q hn)];exact q) (λc xs q=>by rw[qg (qt q hn)];exact q) (λc o q=>by rw[qg (qt q hn)];exact q)
end
def Rd (H:Hp) (a:Addr) (u:HO):Prop:=H a=some u\/∃o,H a=some (.frz o u)
theorem Rd.ok {P:Program} {w:World} {H:Hp} {h:Heap} {a:Addr} {u:HO} (r:Rd H a u) (x:JJ P w H h):qI P w H h a u:=by
 rcases r with r | ⟨o,r⟩
 . exact x a u r
 . obtain⟨_,q⟩:=x a _ r
   exact q
def KI:Option HO->Prop
 | some (.lst _)=>True
 | some (.dK _)=>True
 | some (.dT _)=>True
 | some (.set _ _)=>True
 | some (.ins _ _ _)=>True
 | some (.ext _)=>True
 | _=>False
section
variable {P:Program} {w:World} {H:Hp} {h h':Heap} {x e:Addr} {o':HO}
theorem JJ.write (ok:JJ P w H h) (mu:KI (H x)) (he:e=x\/H e=some (.own x)) (k:∀b u,b≠e->h.get? b=some u->h'.get? b=some u) (heo:∃u,h'.get? e=some u)
   (new:qI P w (upd H x o') h' x o'):JJ P w (upd H x o') h':=λb u q=>by
 have nown:∀c y,H c=some (.own y)->c≠x:=λc y r z=>by subst z;rw[r]at mu;exact mu
 have ntup:∀c xs,H c=some (.tup xs)->c≠x:=λc xs r z=>by subst z;rw[r]at mu;exact mu
 by_cases hb:b=x
 . subst hb;rw[qd]at q;cases q;exact new
 . rw[qg hb]at q
   by_cases hbe:b=e
   . have q':H b=some (.own x):=by
       rcases he with z | z
       . exact absurd (hbe.trans z) hb
       . rw[hbe];exact z
     rw[q]at q';cases q'
     obtain⟨v,hv⟩:=heo
     exact⟨v,by rw[hbe];exact hv⟩
   . refine(ok b u q).stay (λc v hc r=>k c v ?_ r) (λc r=>by rw[qg (nown c b r)];exact r) (λc xs r=>by rw[qg (ntup c xs r)];exact r) (λc o r=>by rw[qg (λz=>by subst z;rw[r]at mu;exact mu)];exact r)
     rcases hc with rfl | hc
     . exact hbe
     . rintro rfl
       rcases he with z | z
       . exact nown c b hc z
       . rw[hc]at z;cases z;exact hb rfl
end
structure Un (fs ex:List Addr) (H H':Hp) (h h':Heap):Prop where
 keep:∀b o,h.get? b=some o->H b=none->b∉fs->b∉ex->h'.get? b=some o
 slot:∀b o,h.get? b=some o->H b=none->b∈fs->b∉ex->∃sl,h'.get? b=some {o with slots:=sl}
 free:∀b o,h.get? b=some o->H b=none->b∉ex->H' b=none
 there:∀b o,h.get? b=some o->b∉ex->∃o',h'.get? b=some o'
 tups:∀b xs,H b=some (.tup xs)->H' b=some (.tup xs)
 frzs:∀b o u,H b=some (.frz o u)->H' b=some (.frz o u)
 tbls:∀b ps,H b=some (.tbl ps)->∃more,H' b=some (.tbl (ps++more))
section
variable {fs fs' ex ex':List Addr} {H H1 H2:Hp} {h h1 h2 h':Heap} {a x e:Addr} {o:HO}
theorem Un.any (u:Un fs ex H H1 h h1) {b:Addr} {ob:Obj} (q:h.get? b=some ob) (n:H b=none) (hx:b∉ex):∃sl,h1.get? b=some {ob with slots:=sl}:=by
 by_cases hb:b∈fs
 . exact u.slot b ob q n hb hx
 . exact⟨ob.slots,u.keep b ob q n hb hx⟩
theorem Un.kept (k:∀b u,h.get? b=some u->h'.get? b=some u):Un fs ex H H h h':=
 ⟨λb ob q _ _ _=>k b ob q,λb ob q _ _ _=>⟨ob.slots,k b ob q⟩,λ_ _ _ n _=>n,λb ob q _=>⟨ob,k b ob q⟩,λ_ _ q=>q,λ_ _ _ q=>q,λ_ ps q=>⟨#[],by rw[q];simp⟩⟩
theorem Un.refl:Un fs ex H H h h:=Un.kept λ_ _ q=>q
theorem Un.laid (k:∀b u,h.get? b=some u->h'.get? b=some u) (hp:h.objs.size<=a) (hn:H a=none):Un fs ex H (upd H a o) h h' where
 keep:=λb u q _ _ _=>k b u q
 slot:=λb u q _ _ _=>⟨u.slots,k b u q⟩
 free:=λb u q n _=>by rw[qg (Nat.ne_of_lt (Nat.lt_of_lt_of_le (Heap.lt_size q) hp))];exact n
 there:=λb u q _=>⟨u,k b u q⟩
 tups:=λb xs q=>by rw[qg (qt q hn)];exact q
 frzs:=λb u xs q=>by rw[qg (qt q hn)];exact q
 tbls:=λb ps q=>⟨#[],by rw[qg (qt q hn),q];simp⟩
theorem Un.write (mu:KI (H x)) (he:e=x\/H e=some (.own x)) (k:∀b u,b≠e->h.get? b=some u->h'.get? b=some u) (heo:∃u,h'.get? e=some u):Un fs ex H (upd H x o) h h':=by
 have hx:∀b,H b=none->b≠x:=λb n z=>by subst z;rw[n]at mu;exact mu
 have hb:∀b,H b=none->b≠e:=λb n z=>by
   subst z
   rcases he with r | r
   . exact hx b n r
   . rw[n]at r;cases r
 have hm:∀b u,H b=some u->¬KI (some u)->b≠x:=λb u q nm z=>by subst z;rw[q]at mu;exact nm mu
 refine⟨λb u q n _ _=>k b u (hb b n) q,λb u q n _ _=>⟨u.slots,k b u (hb b n) q⟩,λb u q n _=>by rw[qg (hx b n)];exact n,λb u q _=>?_,
   λb xs q=>by rw[qg (hm b _ q λz=>z)];exact q,λb u xs q=>by rw[qg (hm b _ q λz=>z)];exact q,λb ps q=>⟨#[],by rw[qg (hm b _ q λz=>z),q];simp⟩⟩
 by_cases hbe:b=e
 . subst hbe;exact heo
 . exact⟨u,k b u hbe q⟩
end
def G9 (h:Heap) (H:Hp):List Addr:=(List.range h.objs.size).filter λa=>(H a).isSome
def XJ (h:Heap) (H:Hp):Heap:=PySem.W.hideAll h (G9 h H)
theorem vw (h:Heap) (H:Hp):(XJ h H).objs.size=h.objs.size:=PySem.W.hideAll_size _ _
theorem yZ {h:Heap} {H:Hp} {b:Addr} {o:Obj} (e:h.get? b=some o) (n:H b=none):(XJ h H).get? b=some o:=
 PySem.W.hideAll_get _ e λhm=>by
   have q:(H b).isSome=true:=(List.mem_filter.mp hm).2
   rw[n]at q;simp at q
theorem wB {h:Heap} {H:Hp} {b:Addr} {o:Obj} (e:(XJ h H).get? b=some o):h.get? b=some o/\H b=none:=by
 have e':h.get? b=some o:=PySem.W.of_hideAll (G9 h H) e
 refine⟨e',?_⟩
 cases q:H b with
 | none=>rfl
 | some x=>
   have hm:b∈G9 h H:=List.mem_filter.mpr ⟨List.mem_range.mpr (Heap.lt_size e'),by simp [q]⟩
   have z:(XJ h H).get? b=none:=PySem.W.hideAll_none (G9 h H) hm
   rw[z]at e;cases e
def wT (g h:Heap) (L:Addr):List (Addr×Obj):=(List.range h.objs.size).filterMap λa=>if a=L\/(g.get? a).isSome=true then none else (h.get? a).map λo=>(a,o)
def rest (g h:Heap) (L d:Addr):List (Addr×Obj):=(wT g h L).filter λp=>decide (p.1≠d)
end L2
namespace L2
open PySem PySem.Spec PyProof.Rows
structure Mod (K:PySem.W.Frag) (mg:Str->Option Value) (base:Heap):Prop where
 kin:K.In base
 glob:base.Ns mainGlobals mg
 blt:∃mb,base.Ns builtinsNs mb/\∀x:Str,x≠"__name__"->mb x=bootBuiltins x
 nolimit:base.NoLimit
structure Cx where
 prog:Program
 w:World
 K:PySem.W.Frag
 mg:Str->Option Value
 base:Heap
 A:Around
 N:List Str
 s₀:Shared
 H₀:Hp
 env:Env
 outer:List Env
 stack:List Env
 ex:List Addr
 fn:Str->Bool
 calm:Bool
 pn:List (Addr×Obj)
 xe:Value->Shared->Prop
def zH (l:List Env):List Addr:=l.filterMap (·.frame)
abbrev Cx.fs (X:Cx):List Addr:=zH X.outer
def Kw (sc:Scope) (x:Str):Prop:=sc.names.lookup x=some .local\/sc.names.lookup x=some .cell\/sc.names.lookup x=some .free
def KN (sc:Scope) (x:Str):Prop:=sc.names.lookup x=some .local\/sc.names.lookup x=some .cell
def R7 (env:Env) (h:Heap) (m:Str->Option Value) (x:Str) (u:Value):Prop:=
 (env.kindOf x=some .local/\m x=some u)\/((env.kindOf x=some .cell\/env.kindOf x=some .free)/\∃c,env.cells.lookup x=some c/\h.IsCell c (some u))
structure Cx.Ok (X:Cx):Prop where
 mod:Mod X.K X.mg X.base
 kind:X.env.scope.kind=.function
 glob:X.env.globals=mainGlobals
 blt:X.env.builtins=builtinsNs
 above:X.s₀.heap.objs.size<=X.env.locals
 inj:∀x y c,X.env.cells.lookup x=some c->X.env.cells.lookup y=some c->x=y
 has:∀x,(X.env.kindOf x=some .cell\/X.env.kindOf x=some .free)->∃c,X.env.cells.lookup x=some c
 cab:∀x c,X.fn x=true->X.env.cells.lookup x=some c->X.s₀.heap.objs.size<=c
 hd:X.calm=true->X.A.handled=none
 frames:X.A.frames=some X.stack
 stk:X.stack=X.outer\/(X.stack=X.env::X.outer/\X.env.frame=some X.env.locals)
 exf:∀b∈X.ex,b≠X.env.locals/\∀x c,X.env.cells.lookup x=some c->c≠b
 bs:∀b o,X.base.get? b=some o->X.s₀.heap.get? b=some o/\X.H₀ b=none
 bsz:X.base.objs.size<=X.s₀.heap.objs.size
 noex:∀b o,X.base.get? b=some o->b∉X.ex
 exfs:∀b∈X.ex,b∉X.fs
 funs:X.s₀.heap.FunFrames X.base X.outer
 frf:∀b∈X.fs,X.H₀ b=none
structure qx (X:Cx) (pins:List (Addr×Obj)) (σ:List (Option V)) (H:Hp) (s:Shared):Prop where
 ok:X.Ok
 os:s.os=X.s₀.os
 bare:AllBare s.gens
 base:Un X.fs X.ex X.H₀ H X.s₀.heap s.heap
 loc:∃m,s.heap.Ns X.env.locals m/\∀(i:Nat) (x:Str) (v:V),X.N[i]?=some x->σ[i]?=some (some v)->Kw X.env.scope x->∃u,qN v u/\R7 X.env s.heap m x u
 cell:∀x c,X.env.cells.lookup x=some c->∃v,s.heap.IsCell c v
 free:H X.env.locals=none
 freeC:∀x c,X.env.cells.lookup x=some c->H c=none\/(X.fn x=false/\∃o,H c=some (.frz o (.frz o (.own 0))))
 pin:∀p∈X.pn++pins,s.heap.get? p.1=some p.2/\H p.1=none/\p.1≠X.env.locals/\p.1∉X.fs/\∀v,p.2.data≠.cell v
 hok:JJ X.prog X.w H s.heap
 len:σ.length=X.N.length
section
variable {X:Cx} {pins:List (Addr×Obj)} {σ:List (Option V)} {H H':Hp} {s:Shared} {h':Heap}
theorem Cx.Ok.nofr (ok:X.Ok) {b:Addr} {o:Obj} (e:X.base.get? b=some o):b∉X.fs:=λhb=>by
 have:=(ok.funs.mem hb).1
 rw[e]at this;cases this
theorem qx.bs (I:qx X pins σ H s):∀b o,X.base.get? b=some o->s.heap.get? b=some o/\H b=none:=λb o e=>
 ⟨I.base.keep b o (I.ok.bs b o e).1 (I.ok.bs b o e).2 (I.ok.nofr e) (I.ok.noex b o e),I.base.free b o (I.ok.bs b o e).1 (I.ok.bs b o e).2 (I.ok.noex b o e)⟩
theorem qx.bk (I:qx X pins σ H s):∀b o,X.base.get? b=some o->s.heap.get? b=some o:=λb o e=>(I.bs b o e).1
theorem qx.mod (I:qx X pins σ H s):Mod X.K X.mg X.base:=I.ok.mod
theorem qx.kIn (I:qx X pins σ H s):X.K.In s.heap:=I.ok.mod.kin.keeps I.bk
theorem qx.lt (I:qx X pins σ H s):X.env.locals < s.heap.objs.size:=let ⟨_,hn,_⟩:=I.loc;hn.lt
theorem qx.sz (I:qx X pins σ H s):X.s₀.heap.objs.size<=s.heap.objs.size:=Nat.le_trans I.ok.above (Nat.le_of_lt I.lt)
theorem qx.nofs (I:qx X pins σ H s) {a:Addr} (h:s.heap.objs.size<=a):a∉X.fs:=λhb=>by
 obtain⟨_,o,ho,_⟩:=I.ok.funs.mem hb
 exact absurd (Nat.lt_of_lt_of_le (Heap.lt_size ho) (Nat.le_trans I.sz h)) (Nat.lt_irrefl _)
theorem qx.cne (I:qx X pins σ H s):∀x c,X.env.cells.lookup x=some c->c≠X.env.locals:=λx c e z=>by
 obtain⟨v,o,ho,hd⟩:=I.cell x c e
 obtain⟨m,⟨o',es,ep,ho',hd',_⟩,_⟩:=I.loc
 rw[z,ho']at ho;cases ho;rw[hd']at hd;cases hd
theorem qx.funs (I:qx X pins σ H s):s.heap.FunFrames X.base X.outer:=by
 have all:∀(l:List Env),(∀b∈zH l,b∈X.fs)->X.s₀.heap.FunFrames X.base l->s.heap.FunFrames X.base l:=by
   intro l
   induction l with
   | nil=>intro _ _;trivial
   | cons env r ih=>
     intro hs hl
     obtain⟨hk,⟨L,o,hf,hn,ho,hd⟩,hr⟩:=hl
     have hL:L∈X.fs:=hs L (by unfold zH;rw[List.filterMap_cons,hf];exact List.mem_cons_self)
     obtain⟨sl,e⟩:=I.base.slot L o ho (I.ok.frf L hL) hL λz=>I.ok.exfs L z hL
     exact⟨hk,⟨L,_,hf,hn,e,hd⟩,ih (λb hb=>hs b (by unfold zH;rw[List.filterMap_cons,hf];exact List.mem_cons_of_mem _ hb)) hr⟩
 exact all X.outer (λ_ hb=>hb) I.ok.funs
theorem qx.stack (I:qx X pins σ H s):s.heap.FunFrames X.base X.stack:=by
 rcases I.ok.stk with e | ⟨e,hf⟩
 . rw[e];exact I.funs
 . rw[e]
   obtain⟨m,hn,_⟩:=I.loc
   refine .cons (by rw[I.ok.kind];decide) hf hn ?_ I.funs
   exact Heap.get?_none_of_le (Nat.le_trans I.ok.bsz I.ok.above)
theorem qx.stkSub (I:qx X pins σ H s):∀b∈zH X.stack,b∈X.env.locals::X.fs:=λb hb=>by
 rcases I.ok.stk with e | ⟨e,hf⟩
 . rw[e]at hb;exact List.mem_cons_of_mem _ hb
 . rw[e]at hb
   unfold zH at hb
   rw[List.filterMap_cons,hf]at hb
   exact hb
theorem qx.stkFree (I:qx X pins σ H s):∀b∈zH X.stack,H b=none:=λb hb=>by
 rcases List.mem_cons.mp (I.stkSub b hb) with e | hb
 . rw[e];exact I.free
 . obtain⟨_,o,ho,_⟩:=I.ok.funs.mem hb
   exact I.base.free b o ho (I.ok.frf b hb) λz=>I.ok.exfs b z hb
theorem qx.step {g':Array GenState} {t':Nat} {d':Drawn} {ch:List Addr} (I:qx X pins σ H s)
   (hch:∀b∈ch,(b∈X.ex\/X.s₀.heap.objs.size<=b)/\b≠X.env.locals/\(∀x c,X.env.cells.lookup x=some c->c≠b)/\∀p∈X.pn++pins,p.1≠b)
   (keep:∀b o,b≠X.env.locals->b∉X.fs->b∉ch->s.heap.get? b=some o->H b=none->h'.get? b=some o)
   (slot:∀b o,b≠X.env.locals->b∈X.fs->b∉ch->s.heap.get? b=some o->H b=none->∃sl,h'.get? b=some {o with slots:=sl}) (free:∀b o,b∉ch->s.heap.get? b=some o->H b=none->H' b=none)
   (there:∀b o,b∉ch->s.heap.get? b=some o->∃o',h'.get? b=some o')
   (tups:∀b xs,H b=some (.tup xs)->H' b=some (.tup xs)) (frzs:∀b o u,H b=some (.frz o u)->H' b=some (.frz o u)) (tbls:∀b ps,H b=some (.tbl ps)->∃more,H' b=some (.tbl (ps++more)))
   (ns:∀m,s.heap.Ns X.env.locals m->h'.Ns X.env.locals m) (hok:JJ X.prog X.w H' h') (hg:AllBare g'):
   qx X pins σ H' {s with heap:=h',gens:=g',drawn:=d',toks:=t'}:=by
 have neL:∀b o,X.s₀.heap.get? b=some o->b≠X.env.locals:=λb o e=>Nat.ne_of_lt (Nat.lt_of_lt_of_le (Heap.lt_size e) I.ok.above)
 have neC:∀b o,X.s₀.heap.get? b=some o->b∉X.ex->b∉ch:=λb o e hx hb=>by
   rcases(hch b hb).1 with z | z
   . exact hx z
   . exact absurd (Nat.lt_of_lt_of_le (Heap.lt_size e) z) (Nat.lt_irrefl _)
 have cellK:∀x c,X.env.cells.lookup x=some c->∀v,s.heap.IsCell c v->h'.IsCell c v:=λx c e v ⟨o,ho,hd⟩=>by
   have nch:c∉ch:=λz=>(hch c z).2.2.1 x c e rfl
   rcases I.freeC x c e with fc | ⟨_,oc,fc⟩
   . by_cases hc:c∈X.fs
     . obtain⟨sl,q⟩:=slot c o (I.cne x c e) hc nch ho fc
       exact⟨_,q,hd⟩
     . exact⟨o,keep c o (I.cne x c e) hc nch ho fc,hd⟩
   . obtain⟨e1,_⟩:=(show qI X.prog X.w H s.heap c (.frz oc (.frz oc (.own 0))) from I.hok c _ fc)
     obtain⟨e2,_⟩:=(show qI X.prog X.w H' h' c (.frz oc (.frz oc (.own 0))) from hok c _ (frzs c oc _ fc))
     rw[ho]at e1
     cases e1
     exact⟨o,e2,hd⟩
 refine⟨I.ok,I.os,hg,⟨λb o e n hb hx=>?_,λb o e n hb hx=>?_,λb o e n hx=>?_,λb o e hx=>?_,λb xs e=>tups b xs (I.base.tups b xs e),λb o xs e=>frzs b o xs (I.base.frzs b o xs e),λb ps e=>?_⟩,?_,λx c e=>?_,?_,λx c e=>?_,λp hp=>?_,hok,I.len⟩
 . exact keep b o (neL b o e) hb (neC b o e hx) (I.base.keep b o e n hb hx) (I.base.free b o e n hx)
 . obtain⟨sl,e1⟩:=I.base.slot b o e n hb hx
   obtain⟨sl',e2⟩:=slot b _ (neL b o e) hb (neC b o e hx) e1 (I.base.free b o e n hx)
   exact⟨sl',e2⟩
 . obtain⟨o',e1⟩:=I.base.there b o e hx
   exact free b o' (neC b o e hx) e1 (I.base.free b o e n hx)
 . obtain⟨o',e1⟩:=I.base.there b o e hx
   exact there b o' (neC b o e hx) e1
 . obtain⟨m1,e1⟩:=I.base.tbls b ps e
   obtain⟨m2,e2⟩:=tbls b _ e1
   exact⟨m1++m2,by rw[e2,Array.append_assoc]⟩
 . obtain⟨m,hn,hl⟩:=I.loc
   refine⟨m,ns m hn,λi x v e1 e2 e3=>?_⟩
   obtain⟨u,r,l⟩:=hl i x v e1 e2 e3
   refine⟨u,r,?_⟩
   rcases l with l | ⟨k,c,e,z⟩
   . exact .inl l
   . exact .inr ⟨k,c,e,cellK x c e _ z⟩
 . obtain⟨v,z⟩:=I.cell x c e
   exact⟨v,cellK x c e v z⟩
 . obtain⟨m,⟨o,_,_,ho,_⟩,_⟩:=I.loc
   exact free _ o (λz=>(hch _ z).2.1 rfl) ho I.free
 . obtain⟨v,o,ho,hd⟩:=I.cell x c e
   rcases I.freeC x c e with fc | ⟨fx,oc,fc⟩
   . exact .inl (free c o (λz=>(hch c z).2.2.1 x c e rfl) ho fc)
   . exact .inr ⟨fx,oc,frzs c oc _ fc⟩
 . obtain⟨e,n,ne,nf,d⟩:=I.pin p hp
   have nch:p.1∉ch:=λz=>(hch p.1 z).2.2.2 p hp rfl
   exact⟨keep p.1 p.2 ne nf nch e n,free p.1 p.2 nch e n,ne,nf,d⟩
theorem qx.un {t':Nat} (I:qx X pins σ H s) (u:Un X.fs [] H H' s.heap h') (hok:JJ X.prog X.w H' h'):qx X pins σ H' {s with heap:=h',toks:=t'}:=by
 obtain⟨m,⟨o,es,ep,ho,r⟩,_⟩:=id I.loc
 obtain⟨sl,hL⟩:=u.any ho I.free (by simp)
 exact I.step (g':=s.gens) (d':=s.drawn) (ch:=[]) (λ_ z=>nomatch z) (λb o _ hb _ e n=>u.keep b o e n hb (by simp)) (λb o _ hb _ e n=>u.slot b o e n hb (by simp)) (λb o _ e n=>u.free b o e n (by simp)) (λb o _ e=>u.there b o e (by simp)) u.tups u.frzs u.tbls (λm' hm=>by
   obtain⟨o',es',ep',ho',r'⟩:=hm
   rw[ho]at ho';cases ho'
   exact⟨_,es',ep',hL,r'⟩) hok I.bare
theorem qx.call {g':Array GenState} {t':Nat} {d':Drawn} {ch:List Addr} (I:qx X pins σ H s) (u:Un (zH X.stack) ch H H' s.heap h') (hok:JJ X.prog X.w H' h') (hg:AllBare g')
   (hch:∀b∈ch,(b∈X.ex\/X.s₀.heap.objs.size<=b)/\b≠X.env.locals/\(∀x c,X.env.cells.lookup x=some c->c≠b)/\∀p∈X.pn++pins,p.1≠b):
   qx X pins σ H' {s with heap:=h',gens:=g',drawn:=d',toks:=t'}:=by
 obtain⟨m,⟨o,es,ep,ho,r⟩,_⟩:=id I.loc
 obtain⟨sl,hL⟩:=u.any ho I.free λz=>(hch _ z).2.1 rfl
 exact I.step (ch:=ch) hch (λb o hL hb hc e n=>u.keep b o e n (λz=>(List.mem_cons.mp (I.stkSub b z)).elim hL hb) hc) (λb o _ _ hc e n=>u.any e n hc) (λb o hc e n=>u.free b o e n hc) (λb o hc e=>u.there b o e hc) u.tups u.frzs u.tbls (λm' hm=>by
   obtain⟨o',es',ep',ho',r'⟩:=hm
   rw[ho]at ho';cases ho'
   exact⟨_,es',ep',hL,r'⟩) hok hg
theorem qx.turned {t':Nat} {it:Addr} (I:qx X pins σ H s) (k:∀b o,b≠it->s.heap.get? b=some o->h'.get? b=some o) (hn:H it=none) (hL:it≠X.env.locals)
   (h1:it∈X.ex\/X.s₀.heap.objs.size<=it) (h2:∀x c,X.env.cells.lookup x=some c->c≠it) (h3:∀p∈X.pn++pins,p.1≠it):qx X pins σ H {s with heap:=h',toks:=t'}:=by
 have nit:∀b u,H b=some u->b≠it:=λb u e z=>by rw[z,hn]at e;cases e
 refine I.step (g':=s.gens) (d':=s.drawn) (ch:=[it]) (λb hb=>?_) (λb o _ _ hc e _=>k b o (λz=>hc (by simp [z])) e) (λb o _ _ hc e _=>⟨o.slots,k b o (λz=>hc (by simp [z])) e⟩) (λ_ _ _ _ n=>n)
   (λb o hc e=>⟨o,k b o (λz=>hc (by simp [z])) e⟩) (λ_ _ e=>e) (λ_ _ _ e=>e) (λb ps e=>⟨#[],by rw[e];simp⟩) (λm hm=>?_) (λb u e=>?_) I.bare
 . have e:b=it:=by simpa using hb
   subst e
   exact⟨h1,hL,h2,h3⟩
 . obtain⟨o,es,ep,ho,r⟩:=hm
   exact⟨o,es,ep,k _ o (Ne.symm hL) ho,r⟩
 . refine(I.hok b u e).stay (λc v hc q=>k c v ?_ q) (λ_ q=>q) λ_ _ q=>q
   rcases hc with z | z
   . rw[z];exact nit b u e
   . exact nit c _ z
theorem qx.tok (I:qx X pins σ H s) (t:Nat):qx X pins σ H {s with toks:=t}:=I.un (h':=s.heap) (t':=t) Un.refl I.hok
theorem qx.kept {t':Nat} (I:qx X pins σ H s) (k:∀b u,s.heap.get? b=some u->h'.get? b=some u):qx X pins σ H {s with heap:=h',toks:=t'}:=I.un (Un.kept k) (I.hok.kept k)
theorem qx.laid {a:Addr} {o:HO} {t':Nat} (I:qx X pins σ H s) (k:∀b u,s.heap.get? b=some u->h'.get? b=some u) (hp:s.heap.objs.size<=a) (new:qI X.prog X.w (upd H a o) h' a o):
   qx X pins σ (upd H a o) {s with heap:=h',toks:=t'}:=I.un (Un.laid k hp (I.hok.fresh hp)) (I.hok.laid k hp new)
theorem qx.write {x e:Addr} {o:HO} {t':Nat} (I:qx X pins σ H s) (mu:KI (H x)) (he:e=x\/H e=some (.own x)) (k:∀b u,b≠e->s.heap.get? b=some u->h'.get? b=some u) (heo:∃u,h'.get? e=some u)
   (new:qI X.prog X.w (upd H x o) h' x o):qx X pins σ (upd H x o) {s with heap:=h',toks:=t'}:=I.un (Un.write mu he k heo) (I.hok.write mu he k heo new)
theorem qx.pins_of {pins':List (Addr×Obj)} (I:qx X pins σ H s) (h:∀p∈pins',s.heap.get? p.1=some p.2/\H p.1=none/\p.1≠X.env.locals/\p.1∉X.fs/\∀v,p.2.data≠.cell v):qx X pins' σ H s:=
 ⟨I.ok,I.os,I.bare,I.base,I.loc,I.cell,I.free,I.freeC,λp hp=>(List.mem_append.mp hp).elim (λz=>I.pin p (List.mem_append_left _ z)) (h p),I.hok,I.len⟩
theorem Ym {N:List Str} (hN:N.Nodup) {i j:Nat} {x:Str} (a:N[i]?=some x) (b:N[j]?=some x):i=j:=by
 obtain⟨h1,e1⟩:=List.getElem?_eq_some_iff.mp a
 obtain⟨h2,e2⟩:=List.getElem?_eq_some_iff.mp b
 exact(List.getElem_inj hN).mp (e1.trans e2.symm)
theorem YR {M:Model} {A:Around} {E:Value->Shared->Prop} {i:Nat} {x:Str} {v:V} {u:Value} {Q:Unit->Shared->Prop} (I:qx X pins σ H s) (hN:X.N.Nodup) (hi:X.N[i]?=some x) (hx:KN X.env.scope x) (r:qN v u)
   (h:∀s',qx X pins (σ.set i (some v)) H s'->(∃a,Heap.SameBut a s.heap s'.heap/\(a=X.env.locals\/X.env.cells.lookup x=some a))->Q () s') (hf:X.fn x=true\/X.env.scope.names.lookup x=some .local:=by first | exact .inl rfl | exact .inr rfl | assumption):wpAny M A (storeName X.env x u) Q E s:=by
 obtain⟨m,hn,hl⟩:=id I.loc
 have hcls:(X.env.scope.kind==.class || (X.env.scope.kind==.module&&X.env.locals != X.env.globals))=false:=by rw[I.ok.kind];rfl
 have hiσ:i < σ.length:=by rw[I.len];exact(List.getElem?_eq_some_iff.mp hi).1
 have cne:=I.cne
 have tracked:∀{a:Addr} {h':Heap},(∃o,s.heap.get? a=some o/\H a=none)->Heap.SameBut a s.heap h'->JJ X.prog X.w H h':=λ{a h'} ha hs b ob e=>by
   obtain⟨_,_,hfree⟩:=ha
   refine(I.hok b ob e).stay (λc w' hc q=>(hs.2 c ?_).trans q) (λ_ q=>q) λ_ _ q=>q
   rintro rfl
   rcases hc with rfl | hc
   . rw[hfree]at e;cases e
   . rw[hfree]at hc;cases hc
 rcases hx with hk | hk
 . refine wpAny_storeName_local hk hn (λh' hn' hs=>?_) hcls
   obtain⟨oL,_,_,hoL,_⟩:=id hn
   refine h _ ⟨I.ok,I.os,I.bare,⟨λb o e n hb hx=>?_,λb o e n hb hx=>?_,I.base.free,λb o e hx=>?_,I.base.tups,I.base.frzs,I.base.tbls⟩,⟨_,hn',λj y v' e1 e2 e3=>?_⟩,λy c e=>?_,I.free,I.freeC,λp hp=>?_,tracked ⟨oL,hoL,I.free⟩ hs,by simpa using I.len⟩ ⟨_,hs,.inl rfl⟩
   . exact(hs.2 b (Nat.ne_of_lt (Nat.lt_of_lt_of_le (Heap.lt_size e) I.ok.above))).trans (I.base.keep b o e n hb hx)
   . obtain⟨sl,e1⟩:=I.base.slot b o e n hb hx
     exact⟨sl,(hs.2 b (Nat.ne_of_lt (Nat.lt_of_lt_of_le (Heap.lt_size e) I.ok.above))).trans e1⟩
   . obtain⟨o',e1⟩:=I.base.there b o e hx
     exact⟨o',(hs.2 b (Nat.ne_of_lt (Nat.lt_of_lt_of_le (Heap.lt_size e) I.ok.above))).trans e1⟩
   . by_cases hj:j=i
     . subst hj
       rw[hi]at e1;cases e1
       rw[List.getElem?_set_self hiσ]at e2
       cases e2
       exact⟨u,r,.inl ⟨hk,by simp⟩⟩
     . rw[List.getElem?_set_ne (Ne.symm hj)]at e2
       obtain⟨u',r',q⟩:=hl j y v' e1 e2 e3
       refine⟨u',r',?_⟩
       rcases q with ⟨k,e⟩ | ⟨k,c,e,z⟩
       . refine .inl ⟨k,?_⟩
         have:y≠x:=λe=>hj (Ym hN e1 (e▸hi))
         simp [this,e]
       . exact .inr ⟨k,c,e,z.sameBut hs (cne y c e)⟩
   . obtain⟨w',z⟩:=I.cell y c e
     exact⟨w',z.sameBut hs (cne y c e)⟩
   . obtain⟨e,n,ne,nf,d⟩:=I.pin p hp
     exact⟨(hs.2 p.1 ne).trans e,n,ne,nf,d⟩
 . have hfn:X.fn x=true:=by
     rcases hf with z | z
     . exact z
     . rw[z]at hk;cases hk
   obtain⟨c,hc⟩:=I.ok.has x (.inl hk)
   obtain⟨w',z⟩:=I.cell x c hc
   refine wpAny_storeName_cell I.ok.kind hk hc z (λh' hc' hs=>?_)
   obtain⟨oc,hoc,hocd⟩:=id z
   have fcn:H c=none:=(I.freeC x c hc).elim id λz=>by rw[hfn]at z;cases z.1
   refine h {s with heap:=h'} ⟨I.ok,I.os,I.bare,⟨λb o e n hb hx=>?_,λb o e n hb hx=>?_,I.base.free,λb o e hx=>?_,I.base.tups,I.base.frzs,I.base.tbls⟩,⟨m,hn.sameBut hs (Ne.symm (cne x c hc)),λj y v' e1 e2 e3=>?_⟩,λy c' e=>?_,I.free,I.freeC,λp hp=>?_,tracked ⟨oc,hoc,fcn⟩ hs,by simpa using I.len⟩ ⟨c,hs,.inr hc⟩
   . exact(hs.2 b (Nat.ne_of_lt (Nat.lt_of_lt_of_le (Heap.lt_size e) (I.ok.cab x c hfn hc)))).trans (I.base.keep b o e n hb hx)
   . obtain⟨sl,e1⟩:=I.base.slot b o e n hb hx
     exact⟨sl,(hs.2 b (Nat.ne_of_lt (Nat.lt_of_lt_of_le (Heap.lt_size e) (I.ok.cab x c hfn hc)))).trans e1⟩
   . obtain⟨o',e1⟩:=I.base.there b o e hx
     exact⟨o',(hs.2 b (Nat.ne_of_lt (Nat.lt_of_lt_of_le (Heap.lt_size e) (I.ok.cab x c hfn hc)))).trans e1⟩
   . by_cases hj:j=i
     . subst hj
       rw[hi]at e1;cases e1
       rw[List.getElem?_set_self hiσ]at e2
       cases e2
       exact⟨u,r,.inr ⟨.inl hk,c,hc,hc'⟩⟩
     . rw[List.getElem?_set_ne (Ne.symm hj)]at e2
       obtain⟨u',r',q⟩:=hl j y v' e1 e2 e3
       refine⟨u',r',?_⟩
       rcases q with q | ⟨k,c',e,z'⟩
       . exact .inl q
       . refine .inr ⟨k,c',e,z'.sameBut hs ?_⟩
         rintro rfl
         exact hj (Ym hN e1 (I.ok.inj _ _ _ e hc▸hi))
   . by_cases hcc:c'=c
     . subst hcc;exact⟨_,hc'⟩
     . obtain⟨w2,z2⟩:=I.cell y c' e
       exact⟨w2,z2.sameBut hs hcc⟩
   . obtain⟨e,n,ne,nf,d⟩:=I.pin p hp
     refine⟨(hs.2 p.1 ?_).trans e,n,ne,nf,d⟩
     intro q
     rw[q,hoc]at e
     have q':oc=p.2:=Option.some.inj e
     exact d w' (by rw[<-q'];exact hocd)
theorem z5 {M:Model} {A:Around} {E:Value->Shared->Prop} {i:Nat} {x:Str} {v:V} {u:Value} {Q:Unit->Shared->Prop} (I:qx X pins σ H s) (hN:X.N.Nodup) (hi:X.N[i]?=some x) (hx:KN X.env.scope x) (r:qN v u)
   (h:∀s',qx X pins (σ.set i (some v)) H s'->Q () s') (hf:X.fn x=true\/X.env.scope.names.lookup x=some .local:=by first | exact .inl rfl | exact .inr rfl | assumption):wpAny M A (storeName X.env x u) Q E s:=
 YR I hN hi hx r (λs' I' _=>h s' I') hf
theorem qx.call' {s':Shared} {ch:List Addr} (I:qx X pins σ H s) (ho:s'.os=s.os) (u:Un (zH X.stack) ch H H' s.heap s'.heap) (hok:JJ X.prog X.w H' s'.heap) (hg:AllBare s'.gens)
   (hch:∀b∈ch,(b∈X.ex\/X.s₀.heap.objs.size<=b)/\b≠X.env.locals/\(∀x c,X.env.cells.lookup x=some c->c≠b)/\∀p∈X.pn++pins,p.1≠b):qx X pins σ H' s':=by
 obtain⟨h',g',d',t',o'⟩:=s'
 have e:o'=s.os:=ho
 subst e
 exact I.call (g':=g') (t':=t') (d':=d') u hok hg hch
end
abbrev XK:=Value->Option Addr->Hp->Prop
abbrev St:=List (Option V)
abbrev VK:=V->Hp->Prop
abbrev TE:=St->Hp->VK->Prop
abbrev TT:=St->Hp->(Bool->Hp->Prop)->Prop
abbrev TA:=St->Hp->(List V->Hp->Prop)->Prop
structure QS where
 nx:St->Hp->Prop
 rt:VK
 bk:St->Hp->Prop:=λ_ _=>False
 ct:St->Hp->Prop:=λ_ _=>False
abbrev TS:=QS->St->Hp->Prop
def EP (X:Cx) (pins:List (Addr×Obj)) (σ:St) (Q:VK) (u:Value) (s':Shared):Prop:=∃v H',qx X pins σ H' s'/\qN v u/\Q v H'
def TP (X:Cx) (pins:List (Addr×Obj)) (σ:St) (Q:Bool->Hp->Prop) (b:Bool) (s':Shared):Prop:=∃H',qx X pins σ H' s'/\Q b H'
def AP (X:Cx) (pins:List (Addr×Obj)) (σ:St) (Q:List V->Hp->Prop) (us:List Value) (s':Shared):Prop:=∃vs H',qx X pins σ H' s'/\qD vs us/\Q vs H'
def SP (X:Cx) (pins:List (Addr×Obj)) (D:QS) (f:Flow) (s':Shared):Prop:=
 match f with
 | .next=>∃σ' H',qx X pins σ' H' s'/\D.nx σ' H'
 | .brk=>∃σ' H',qx X pins σ' H' s'/\D.bk σ' H'
 | .cont=>∃σ' H',qx X pins σ' H' s'/\D.ct σ' H'
 | .ret u=>∃v σ' H',qx X pins σ' H' s'/\qN v u/\D.rt v H'
def PE (X:Cx) (e:Expr) (t:TE):Prop:=
 ∀(pins:List (Addr×Obj)) (s:Shared) (σ:St) (H:Hp) (Q:VK),qx X pins σ H s->t σ H Q->wpAny (model X.prog X.w) X.A (eval e X.env) (EP X pins σ Q) X.xe s
@[irreducible] def JE (X:Cx) (e:Expr) (t:TE):Prop:=PE X e t
theorem JE.of {X:Cx} {e:Expr} {t:TE} (h:PE X e t):JE X e t:=by unfold JE;exact h
theorem JE.to {X:Cx} {e:Expr} {t:TE} (h:JE X e t):PE X e t:=by unfold JE at h;exact h
def PT (X:Cx) (e:Expr) (t:TT):Prop:=
 ∀(pins:List (Addr×Obj)) (s:Shared) (σ:St) (H:Hp) (Q:Bool->Hp->Prop),qx X pins σ H s->t σ H Q->wpAny (model X.prog X.w) X.A (isTrue e X.env (eval e X.env)) (TP X pins σ Q) X.xe s
@[irreducible] def JT (X:Cx) (e:Expr) (t:TT):Prop:=PT X e t
theorem JT.of {X:Cx} {e:Expr} {t:TT} (h:PT X e t):JT X e t:=by unfold JT;exact h
theorem JT.to {X:Cx} {e:Expr} {t:TT} (h:JT X e t):PT X e t:=by unfold JT at h;exact h
def PW (X:Cx) (e:Expr) (t:TT):Prop:=
 ∀(whole:Sem Value) (pins:List (Addr×Obj)) (s:Shared) (σ:St) (H:Hp) (Q:Bool->Hp->Prop),qx X pins σ H s->t σ H Q->wpAny (model X.prog X.w) X.A (isTrue e X.env whole) (TP X pins σ Q) X.xe s
theorem PW.pt {X:Cx} {e:Expr} {t:TT} (h:PW X e t):PT X e t:=h _
@[irreducible] def JW (X:Cx) (e:Expr) (t:TT):Prop:=PW X e t
theorem JW.of {X:Cx} {e:Expr} {t:TT} (h:PW X e t):JW X e t:=by unfold JW;exact h
theorem JW.to {X:Cx} {e:Expr} {t:TT} (h:JW X e t):PW X e t:=by unfold JW at h;exact h
theorem JW.pt {X:Cx} {e:Expr} {t:TT} (h:JW X e t):JT X e t:=.of h.to.pt
def PA (X:Cx) (es:List Expr) (t:TA):Prop:=
 ∀(pos:Pos) (pins:List (Addr×Obj)) (s:Shared) (σ:St) (H:Hp) (Q:List V->Hp->Prop),qx X pins σ H s->t σ H Q->wpAny (model X.prog X.w) X.A (spliced (backTo pos (starEach es X.env))) (AP X pins σ Q) X.xe s
@[irreducible] def JA (X:Cx) (es:List Expr) (t:TA):Prop:=PA X es t
theorem JA.of {X:Cx} {es:List Expr} {t:TA} (h:PA X es t):JA X es t:=by unfold JA;exact h
theorem JA.to {X:Cx} {es:List Expr} {t:TA} (h:JA X es t):PA X es t:=by unfold JA at h;exact h
def PS (X:Cx) (st:Stmt) (t:TS):Prop:=
 ∀(pins:List (Addr×Obj)) (s:Shared) (σ:St) (H:Hp) (D:QS),qx X pins σ H s->t D σ H->wpAny (model X.prog X.w) X.A (exec st X.env) (SP X pins D) X.xe s
@[irreducible] def JS (X:Cx) (st:Stmt) (t:TS):Prop:=PS X st t
theorem JS.of {X:Cx} {st:Stmt} {t:TS} (h:PS X st t):JS X st t:=by unfold JS;exact h
theorem JS.to {X:Cx} {st:Stmt} {t:TS} (h:JS X st t):PS X st t:=by unfold JS at h;exact h
def xG (X:Cx) (st:List Stmt) (t:TS):Prop:=
 ∀(pins:List (Addr×Obj)) (s:Shared) (σ:St) (H:Hp) (D:QS),qx X pins σ H s->t D σ H->wpAny (model X.prog X.w) X.A (execs st X.env) (SP X pins D) X.xe s
@[irreducible] def XY (X:Cx) (st:List Stmt) (t:TS):Prop:=xG X st t
theorem XY.of {X:Cx} {st:List Stmt} {t:TS} (h:xG X st t):XY X st t:=by unfold XY;exact h
theorem XY.to {X:Cx} {st:List Stmt} {t:TS} (h:XY X st t):xG X st t:=by unfold XY at h;exact h
theorem jg {α:Type} {t:Sem α} {Q Q':α->Shared->Prop} {M:Model} {A:Around} {E:Value->Shared->Prop} {s:Shared} (h:wpAny M A t Q E s) (hQ:∀a s,Q a s->Q' a s):wpAny M A t Q' E s:=wpAny_mono h hQ λ_ _ x=>x
end L2
namespace L2
open PySem PySem.Spec PyProof.Rows
section
variable {X:Cx}
def jd (i:Nat):TE:=λσ H Q=>∃v,σ[i]?=some (some v)/\Q v H
def tC (v:V):TE:=λ_ H Q=>Q v H
theorem u0 {i:Nat} {x:Str} {pos:Pos} (hN:X.N[i]?=some x) (hv:Kw X.env.scope x) (hd:(x==("__debug__":Str))=false:=by decide) (hcd:(x==("__classdict__":Str))=false:=by decide):PE X (.Name x pos) (jd i):=by
 intro pins s σ H Q I h
 obtain⟨v,e,h⟩:=h
 obtain⟨m,hn,hl⟩:=I.loc
 obtain⟨u,r,l⟩:=hl i x v hN e hv
 have fin:EP X pins σ Q u s:=⟨v,H,I,r,h⟩
 rcases l with ⟨hk,hm⟩ | ⟨hk,c,hc,hcell⟩
 . exact wpAny_Name (wpAny_loadName_local I.ok.kind hk hn hm fin) hd
 . rcases hk with hk | hk
   . exact wpAny_Name (wpAny_loadName_cell I.ok.kind hk hc hcell fin) hd
   . exact wpAny_Name (wpAny_loadName_free I.ok.kind hk hc hcell fin hcd) hd
theorem qi {i j pos}:JE X (.Constant (.int i) j pos) (tC (.int i)):=.of (by
 exact λ_ _ _ H _ I h=>wpAny_Constant_int ⟨.int i,H,I.tok _,⟨_,rfl⟩,h⟩)
theorem Qq {b j pos}:JE X (.Constant (.bool b) j pos) (tC (.bl b)):=.of (by
 exact λ_ _ _ H _ I h=>Constant_bool ⟨.bl b,H,I,rfl,h⟩)
theorem Yv {j pos}:JE X (.Constant .none j pos) (tC .non):=.of (by
 exact λ_ _ _ H _ I h=>Constant_none ⟨.non,H,I,rfl,h⟩)
theorem qy {x j pos}:JE X (.Constant (.str x) j pos) (tC (.str x)):=.of (by
 exact λ_ _ _ H _ I h=>Calls.Constant_str ⟨.str x,H,I.tok _,⟨_,rfl⟩,h⟩)
def Gl (X:Cx) (x:Str):Prop:=X.env.kindOf x=some .globalImplicit
theorem Ze {E:Value->Shared->Prop} {pins:List (Addr×Obj)} {s:Shared} {σ:St} {H:Hp} {x:Str} {u:Value} {pos:Pos} {Q:Value->Shared->Prop} (I:qx X pins σ H s) (hg:Gl X x) (hm:X.mg x=some u) (h:Q u s)
   (hd:(x==("__debug__":Str))=false:=by decide):wpAny (model X.prog X.w) X.A (eval (.Name x pos) X.env) Q E s:=
 Calls.Name_function_global I.ok.kind hg (Calls.loadGlobal_global (by rw[I.ok.glob];exact I.mod.glob.keeps I.bk) hm h) hd
theorem Q4 {E:Value->Shared->Prop} {pins:List (Addr×Obj)} {s:Shared} {σ:St} {H:Hp} {x:Str} {u:Value} {pos:Pos} {Q:Value->Shared->Prop} (I:qx X pins σ H s) (hg:Gl X x) (hm:X.mg x=none) (hv:bootBuiltins x=some u) (h:Q u s)
   (hn:x≠"__name__":=by decide) (hd:(x==("__debug__":Str))=false:=by decide):wpAny (model X.prog X.w) X.A (eval (.Name x pos) X.env) Q E s:=by
 obtain⟨mb,h1,h2⟩:=I.mod.blt
 exact Calls.Name_function_global I.ok.kind hg (Calls.loadGlobal_builtin (by rw[I.ok.glob];exact I.mod.glob.keeps I.bk) hm (by rw[I.ok.blt];exact h1.keeps I.bk) ((h2 x hn).trans hv) h) hd
theorem Uk {x:Str} {v:V} {u:Value} {pos:Pos} (hg:Gl X x) (hm:X.mg x=some u) (r:qN v u) (hd:(x==("__debug__":Str))=false:=by decide):PE X (.Name x pos) (tC v):=
 λ_ _ _ H _ I h=>Ze I hg hm ⟨v,H,I,r,h⟩ hd
theorem Qk {x:Str} {v:V} {u:Value} {pos:Pos} (hg:Gl X x) (hm:X.mg x=some u) (r:qN v u) (hd:(x==("__debug__":Str))=false:=by decide):JE X (.Name x pos) (tC v):=.of (Uk hg hm r hd)
theorem Qy {x:Str} {v:V} {u:Value} {pos:Pos} (hg:Gl X x) (hm:X.mg x=none) (hv:bootBuiltins x=some u) (r:qN v u) (hn:x≠"__name__":=by decide) (hd:(x==("__debug__":Str))=false:=by decide):JE X (.Name x pos) (tC v):=.of (by
 exact λ_ _ _ H _ I h=>Q4 I hg hm hv ⟨v,H,I,r,h⟩ hn hd)
variable {a b:Expr} {ta tb:TE} {pos:Pos}
def PC (X:Cx) (op:CmpOp) (a b:Expr) (t:TE):Prop:=
 ∀(pins:List (Addr×Obj)) (s:Shared) (σ:St) (H:Hp) (Q:VK),qx X pins σ H s->t σ H Q->
   wpAny (model X.prog X.w) X.A (eval a X.env) (λv s₁=>wpAny (model X.prog X.w) X.A (eval b X.env) (λu s₂=>wpAny (model X.prog X.w) X.A (compareOp op v u) (EP X pins σ Q) X.xe s₂) X.xe s₁) X.xe s
@[irreducible] def JC (X:Cx) (op:CmpOp) (a b:Expr) (t:TE):Prop:=PC X op a b t
theorem JC.of {X:Cx} {op:CmpOp} {a b:Expr} {t:TE} (h:PC X op a b t):JC X op a b t:=by unfold JC;exact h
theorem JC.to {X:Cx} {op:CmpOp} {a b:Expr} {t:TE} (h:JC X op a b t):PC X op a b t:=by unfold JC at h;exact h
theorem yu (b:Expr) {op:CmpOp} (h:op≠.In) (h2:op≠.NotIn):behindInMarks op b=false:=by
 have e1:(op==CmpOp.In)=false:=by cases op<;>first | rfl | exact absurd rfl h
 have e2:(op==CmpOp.NotIn)=false:=by cases op<;>first | rfl | exact absurd rfl h2
 cases b<;>simp [behindInMarks,e1,e2]
def Rq (ta:TE):TE:=λσ H Q=>ta σ H λx H1=>Q (.bl (decide (x=.non))) H1
theorem qN.none_iff {x:V} {v:Value} (r:qN x v):(v==Value.none)=decide (x=.non):=by
 cases x with
 | non=>cases r;rfl
 | bl _=>cases r;rfl
 | int _=>obtain⟨t,rfl⟩:=r;rfl
 | str _=>obtain⟨t,rfl⟩:=r;rfl
 | byt _=>obtain⟨t,rfl⟩:=r;rfl
 | flt _=>obtain⟨t,rfl⟩:=r;rfl
 | ref _=>cases r;rfl
 | ty _=>cases r;rfl
theorem yQ {j pos'} (ha:JE X a ta):JC X .Is a (.Constant .none j pos') (Rq ta):=.of (by
 have ha:=ha.to
 intro pins s σ H Q I h
 refine jg (ha pins s σ H _ I h) λv s1 ⟨x,H1,I1,r1,q1⟩=>?_
 exact Constant_none (is_none_gen ⟨.bl _,H1,I1,by rw[r1.none_iff];rfl,q1⟩))
def tB (t:TE):TT:=λσ H Q=>t σ H λx H1=>∃c,x=.bl c/\Q c H1
theorem zq {op:CmpOp} {t:TE} (h:JC X op a b t) (h1:behindInMarks op b=false:=by first | exact yu _ (by decide) (by decide) | rfl):JT X (.Compare a [op] [b] pos) (tB t):=.of (by
 have h:=h.to
 intro pins s σ H Q I hw
 refine wpAny_isTrue_Compare1 (jg (h pins s σ H _ I hw) λv s1 h1=>jg h1 λu s2 h2=>jg h2 λc s3 ⟨x,H1,I1,r1,q1⟩=>?_) h1
 obtain⟨d,rfl,q⟩:=q1
 cases r1
 exact wpAny_truthy_bool ⟨H1,I1,q⟩)
theorem jL {e:Expr} {t:TE} (h:JE X e t) (he:∀whole,isTrue e X.env whole=(do let v <-whole;standAt e.pos;holding [v] (truthy v)):=by intro _;rfl):JT X e (tB t):=.of (by
 have h:=h.to
 intro pins s σ H Q I hw
 refine isTrue_plain (jg (h pins s σ H _ I hw) λv s1 ⟨x,H1,I1,r1,q1⟩=>?_) (he _)
 obtain⟨d,rfl,q⟩:=q1
 cases r1
 exact wpAny_truthy_bool ⟨H1,I1,q⟩)
variable {tA tB':TT} {rest:List Expr}
def KY (t u:TT):TT:=λσ H Q=>t σ H λc H1=>if c=true then u σ H1 Q else Q false H1
def Ro (t u:TT):TT:=λσ H Q=>t σ H λc H1=>if c=true then Q true H1 else u σ H1 Q
def vV (t:TT):TT:=λσ H Q=>t σ H λc H1=>Q (!c) H1
theorem j8 (ha:JT X a tA):JW X (.BoolOp .And [a] pos) tA:=.of (by
 have ha:=ha.to
 intro wh pins s σ H Q I h
 refine isTrue_and (jg (ha pins s σ H Q I h) λc s1 e=>?_)
 cases c with
 | true=>exact isTrue_and_nil e
 | false=>exact e)
theorem j7 (ha:JT X a tA):JW X (.BoolOp .Or [a] pos) tA:=.of (by
 have ha:=ha.to
 intro wh pins s σ H Q I h
 refine isTrue_or (jg (ha pins s σ H Q I h) λc s1 e=>?_)
 cases c with
 | false=>exact isTrue_or_nil e
 | true=>exact e)
theorem Qt (ha:JT X a tA) (hb:JW X (.BoolOp .And (b::rest) pos) tB'):JW X (.BoolOp .And (a::b::rest) pos) (KY tA tB'):=.of (by
 have ha:=ha.to
 have hb:=hb.to
 intro wh pins s σ H Q I h
 refine isTrue_and (jg (ha pins s σ H _ I h) λc s1 ⟨H1,I1,q1⟩=>?_)
 cases c with
 | true=>exact hb wh pins s1 σ H1 Q I1 q1
 | false=>exact⟨H1,I1,q1⟩)
theorem QZ (ha:JT X a tA) (hb:JW X (.BoolOp .Or (b::rest) pos) tB'):JW X (.BoolOp .Or (a::b::rest) pos) (Ro tA tB'):=.of (by
 have ha:=ha.to
 have hb:=hb.to
 intro wh pins s σ H Q I h
 refine isTrue_or (jg (ha pins s σ H _ I h) λc s1 ⟨H1,I1,q1⟩=>?_)
 cases c with
 | true=>exact⟨H1,I1,q1⟩
 | false=>exact hb wh pins s1 σ H1 Q I1 q1)
theorem j9 (ha:JT X a tA):JT X (.UnaryOp .Not a pos) (vV tA):=.of (by
 have ha:=ha.to
 intro pins s σ H Q I h
 exact isTrue_not (ha pins s σ H (λc H1=>Q (!c) H1) I h))
def KW (ta tb:TE):TE:=λσ H Q=>ta σ H λx H1=>∃c,x=.bl c/\if c=true then tb σ H1 Q else Q (.bl false) H1
theorem zw {op} {t:TE} (h:JE X a t):JE X (.BoolOp op [a] pos) t:=.of (by
 have h:=h.to
 exact λpins s σ H Q I hw=>BoolOp_one (h pins s σ H Q I hw))
theorem zx (ha:JE X a ta) (hb:JE X (.BoolOp .And (b::rest) pos) tb):JE X (.BoolOp .And (a::b::rest) pos) (KW ta tb):=.of (by
 have ha:=ha.to
 have hb:=hb.to
 intro pins s σ H Q I h
 refine BoolOp_and (jg (ha pins s σ H _ I h) λv s1 ⟨x,H1,I1,r1,q1⟩=>?_)
 obtain⟨c,rfl,q1⟩:=q1
 cases r1
 refine wpAny_truthy_bool ?_
 cases c with
 | true=>exact hb pins s1 σ H1 Q I1 q1
 | false=>exact⟨.bl false,H1,I1,rfl,q1⟩)
end
end L2
namespace L2
open PySem PySem.Spec PyProof.Rows
def SqL (K:PySem.W.Frag) (H:Hp) (a:Addr) (xs:List V):Prop:=
 Rd H a (.lst xs)\/
   ∃(o:Obj) (its:Array Value) (n:Nat),K.lookup a=some o/\o.cls=.type "list"/\o.dict=none/\o.data=.seq its n/\its.size<=sizeLine/\qD xs its.toList
def SqT (K:PySem.W.Frag) (H:Hp) (a:Addr) (xs:List V):Prop:=
 Rd H a (.tup xs)\/
   ∃(o:Obj) (its:Array Value) (n:Nat),K.lookup a=some o/\o.cls=.type "tuple"/\o.data=.seq its n/\its.size<=sizeLine/\qD xs its.toList
def R1:Value->Option V
 | .none=>some .non
 | .bool b=>some (.bl b)
 | .int i _=>some (.int i)
 | .str x _=>some (.str x)
 | .bytes b _=>some (.byt b)
 | .float b _=>some (.flt b)
 | .ref a=>some (.ref a)
 | .type n=>some (.ty n)
 | _=>none
theorem qN.abs {x:V} {u:Value} (r:qN x u):R1 u=some x:=by
 cases x with
 | non=>cases r;rfl
 | bl _=>cases r;rfl
 | int _=>obtain⟨t,rfl⟩:=r;rfl
 | str _=>obtain⟨t,rfl⟩:=r;rfl
 | byt _=>obtain⟨t,rfl⟩:=r;rfl
 | flt _=>obtain⟨t,rfl⟩:=r;rfl
 | ref _=>cases r;rfl
 | ty _=>cases r;rfl
theorem qN.inj {x y:V} {u:Value} (r:qN x u) (q:qN y u):x=y:=Option.some.inj (r.abs.symm.trans q.abs)
theorem qD.inj:∀{xs ys:List V} {us:List Value},qD xs us->qD ys us->xs=ys
 | _,_,_,.nil,.nil=>rfl
 | _,_,_,.cons r t,.cons r' t'=>by rw[r.inj r',qD.inj t t']
section
variable {X:Cx} {pins:List (Addr×Obj)} {σ:St} {H:Hp} {s:Shared} {a:Addr} {xs ys:List V}
theorem SqL.of {K:PySem.W.Frag} (h:H a=some (.lst xs)):SqL K H a xs:=.inl (.inl h)
theorem SqT.of {K:PySem.W.Frag} (h:H a=some (.tup xs)):SqT K H a xs:=.inl (.inl h)
theorem qx.list (I:qx X pins σ H s) (h:SqL X.K H a xs):∃its:List Value,qD xs its/\PlainL s.heap a its.toArray/\xs.length<=sizeLine:=by
 rcases h with h | ⟨o,its,n,hk,hc,hd,hs,hz,r⟩
 . obtain⟨z,its,n,r,e⟩:=h.ok I.hok
   exact⟨its,r,⟨_,n,e,rfl,rfl,rfl⟩,z⟩
 . refine⟨its.toList,r,⟨o,n,I.kIn a o hk,hc,hd,by simpa using hs⟩,?_⟩
   have e:=r.length
   simp only[Array.length_toList]at e
   omega
theorem qx.tuple (I:qx X pins σ H s) (h:SqT X.K H a xs):∃its:List Value,qD xs its/\IsTup s.heap a its.toArray/\xs.length<=sizeLine:=by
 rcases h with h | ⟨o,its,n,hk,hc,hs,hz,r⟩
 . obtain⟨z,its,r,p⟩:=h.ok I.hok
   exact⟨its,r,p,z⟩
 . refine⟨its.toList,r,⟨o,I.kIn a o hk,hc,n,by simpa using hs⟩,?_⟩
   have e:=r.length
   simp only[Array.length_toList]at e
   omega
theorem qx.list_inj (I:qx X pins σ H s) (h:SqL X.K H a xs) (h':SqL X.K H a ys):xs=ys:=by
 obtain⟨its,r,⟨o,n,e,_,_,d⟩,_⟩:=I.list h
 obtain⟨its',r',⟨o',n',e',_,_,d'⟩,_⟩:=I.list h'
 rw[e]at e';cases e'
 rw[d]at d'
 injection d' with d1 _
 have:its=its':=by simpa using congrArg Array.toList d1
 subst this
 exact r.inj r'
theorem qx.tuple_inj (I:qx X pins σ H s) (h:SqT X.K H a xs) (h':SqT X.K H a ys):xs=ys:=by
 obtain⟨its,r,⟨o,e,_,n,d⟩,_⟩:=I.tuple h
 obtain⟨its',r',⟨o',e',_,n',d'⟩,_⟩:=I.tuple h'
 rw[e]at e';cases e'
 rw[d]at d'
 injection d' with d1 _
 have:its=its':=by simpa using congrArg Array.toList d1
 subst this
 exact r.inj r'
end
abbrev Cx.wish (X:Cx) (E:Value->Shared->Prop):Cx:={X with xe:=E}
abbrev Cx.nox (X:Cx):Cx:=X.wish λ_ _=>False
theorem Cx.Ok.wish {X:Cx} (ok:X.Ok) (E:Value->Shared->Prop):(X.wish E).Ok:=
 ⟨ok.mod,ok.kind,ok.glob,ok.blt,ok.above,ok.inj,ok.has,ok.cab,ok.hd,ok.frames,ok.stk,ok.exf,ok.bs,ok.bsz,ok.noex,ok.exfs,ok.funs,ok.frf⟩
theorem Cx.Ok.unwish {X:Cx} {E:Value->Shared->Prop} (ok:(X.wish E).Ok):X.Ok:=
 ⟨ok.mod,ok.kind,ok.glob,ok.blt,ok.above,ok.inj,ok.has,ok.cab,ok.hd,ok.frames,ok.stk,ok.exf,ok.bs,ok.bsz,ok.noex,ok.exfs,ok.funs,ok.frf⟩
section
variable {X:Cx} {pins:List (Addr×Obj)} {σ:St} {H:Hp} {s:Shared} {E:Value->Shared->Prop}
theorem qx.wish (I:qx X pins σ H s) (E:Value->Shared->Prop):qx (X.wish E) pins σ H s:=⟨I.ok.wish E,I.os,I.bare,I.base,I.loc,I.cell,I.free,I.freeC,I.pin,I.hok,I.len⟩
theorem qx.unwish (I:qx (X.wish E) pins σ H s):qx X pins σ H s:=⟨I.ok.unwish,I.os,I.bare,I.base,I.loc,I.cell,I.free,I.freeC,I.pin,I.hok,I.len⟩
theorem SP.unwish {D:QS} {f:Flow} {s':Shared} (h:SP (X.wish E) pins D f s'):SP X pins D f s':=by
 cases f with
 | next=>obtain⟨σ',H',I,q⟩:=h;exact⟨σ',H',I.unwish,q⟩
 | brk=>obtain⟨σ',H',I,q⟩:=h;exact⟨σ',H',I.unwish,q⟩
 | cont=>obtain⟨σ',H',I,q⟩:=h;exact⟨σ',H',I.unwish,q⟩
 | ret u=>obtain⟨v,σ',H',I,r,q⟩:=h;exact⟨v,σ',H',I.unwish,r,q⟩
theorem xG.nox {st:List Stmt} {t:TS} (h:xG X.nox st t):xG X st t:=λpins s σ H D I hw=>
 wpAny_mono (h pins s σ H D (I.wish _) hw) (λ_ _ q=>q.unwish) λ_ _ z=>False.elim z
end
section
variable {X:Cx} {st:Stmt} {rest:List Stmt} {t u:TS} {e:Expr} {te:TE} {pos:Pos}
def JM:TS:=λD σ H=>D.nx σ H
def Xs (t u:TS):TS:=λD σ H=>t {D with nx:=u D} σ H
theorem qu:XY X [] JM:=.of (by
 exact λ_ _ σ H _ I h=>wpAny_execs_nil ⟨σ,H,I,h⟩)
theorem qf (h1:JS X st t) (h2:XY X rest u):XY X (st::rest) (Xs t u):=.of (by
 have h1:=h1.to
 have h2:=h2.to
 intro pins s σ H D I h
 refine wpAny_execs_cons (jg (h1 pins s σ H {D with nx:=u D} I h) λf s1 q=>?_)
 cases f with
 | next=>
   obtain⟨σ',H',I',q⟩:=q
   exact h2 pins s1 σ' H' D I' q
 | ret v=>exact q
 | brk=>exact q
 | cont=>exact q)
theorem qh (h1:JS X st t):XY X [st] t:=.of (by
 have h1:=h1.to
 intro pins s σ H D I h
 refine wpAny_execs_cons (jg (h1 pins s σ H D I h) λf s1 q=>?_)
 cases f with
 | next=>exact wpAny_execs_nil q
 | ret v=>exact q
 | brk=>exact q
 | cont=>exact q)
theorem qx.quiet {pins:List (Addr×Obj)} {σ:St} {H:Hp} {s:Shared} (I:qx X pins σ H s):interactive X.env=false:=by simp [interactive,I.ok.kind]
def uf (te:TE):TS:=λD σ H=>te σ H λ_ H1=>D.nx σ H1
theorem jk (he:JE X e te) (hs:swapsWith e none pos.line X.env=pure false:=by rfl):JS X (.Expr e pos) (uf te):=.of (by
 have he:=he.to
 intro pins s σ H D I h
 exact wpAny_Expr_any (jg (he pins s σ H _ I h) λv s1 ⟨x,H1,I1,r1,q1⟩=>⟨σ,H1,I1,q1⟩) I.quiet hs)
def Rm (te:TE):TS:=λD σ H=>te σ H D.rt
theorem qF (he:JE X e te):JS X (.Return (some e) pos) (Rm te):=.of (by
 have he:=he.to
 intro pins s σ H D I h
 exact wpAny_Return_some (jg (he pins s σ H _ I h) λv s1 ⟨x,H1,I1,r1,q1⟩=>⟨x,σ,H1,I1,r1,q1⟩))
def YD (c:TT) (t u:TS):TS:=λD σ H=>c σ H λb H1=>if b=true then t D σ H1 else u D σ H1
theorem qK {c:Expr} {a b:List Stmt} {tc:TT} (hc:JT X c tc) (ha:XY X a t) (hb:XY X b u):JS X (.If c a b pos) (YD tc t u):=.of (by
 have hc:=hc.to
 have ha:=ha.to
 have hb:=hb.to
 intro pins s σ H D I h
 refine wpAny_If (jg (hc pins s σ H _ I h) λd s1 ⟨H1,I1,q1⟩=>?_)
 cases d with
 | true=>exact ha pins s1 σ H1 D I1 q1
 | false=>exact hb pins s1 σ H1 D I1 q1)
def uD:TS:=λ_ _ _=>False
theorem jl {sts:List Stmt}:XY X sts uD:=.of (by
 exact λ_ _ _ _ _ _ h=>h.elim)
end
abbrev TG:=V->St->Hp->(St->Hp->Prop)->Prop
abbrev xF:=List V->St->Hp->(St->Hp->Prop)->Prop
def PG (X:Cx) (target:Expr) (t:TG):Prop:=
 ∀(pins:List (Addr×Obj)) (s:Shared) (σ:St) (H:Hp) (v:V) (u:Value) (Q:St->Hp->Prop),qx X pins σ H s->qN v u->t v σ H Q->
   wpAny (model X.prog X.w) X.A (assign target X.env u) (λ_ s'=>∃σ' H',qx X pins σ' H' s'/\Q σ' H') X.xe s
@[irreducible] def JG (X:Cx) (target:Expr) (t:TG):Prop:=PG X target t
theorem JG.of {X:Cx} {target:Expr} {t:TG} (h:PG X target t):JG X target t:=by unfold JG;exact h
theorem JG.to {X:Cx} {target:Expr} {t:TG} (h:JG X target t):PG X target t:=by unfold JG at h;exact h
def R5 (X:Cx) (ts:List Expr) (t:xF):Prop:=
 ∀(pins:List (Addr×Obj)) (s:Shared) (σ:St) (H:Hp) (vs:List V) (us:List Value) (Q:St->Hp->Prop),qx X pins σ H s->qD vs us->t vs σ H Q->
   wpAny (model X.prog X.w) X.A (assignInOrder ((assignEach ts X.env).map (·.2)) us) (λ_ s'=>∃σ' H',qx X pins σ' H' s'/\Q σ' H') X.xe s
@[irreducible] def xJ (X:Cx) (ts:List Expr) (t:xF):Prop:=R5 X ts t
theorem xJ.of {X:Cx} {ts:List Expr} {t:xF} (h:R5 X ts t):xJ X ts t:=by unfold xJ;exact h
theorem xJ.to {X:Cx} {ts:List Expr} {t:xF} (h:xJ X ts t):R5 X ts t:=by unfold xJ at h;exact h
abbrev wV:=V->V->V->Hp->(Hp->Prop)->Prop
def Kx (X:Cx) (t:wV):Prop:=
 ∀(pins:List (Addr×Obj)) (s:Shared) (σ:St) (H:Hp) (o i v:V) (ov iv u:Value) (Q:Hp->Prop),qx X pins σ H s->qN o ov->qN i iv->qN v u->t o i v H Q->
   wpAny (model X.prog X.w) X.A (setItem ov iv u) (λ_ s'=>∃H',qx X pins σ H' s'/\Q H') X.xe s
section
variable {X:Cx} {pos:Pos}
def jH (i:Nat):TG:=λv σ H Q=>Q (σ.set i (some v)) H
theorem qz {i:Nat} {x:Str} (hN:X.N.Nodup) (hi:X.N[i]?=some x) (hx:KN X.env.scope x) (hf:X.fn x=true\/X.env.scope.names.lookup x=some .local:=by first | exact .inl rfl | exact .inr rfl | assumption):JG X (.Name x pos) (jH i):=.of (by
 intro pins s σ H v u Q I r h
 exact wpAny_assign_Name (z5 I hN hi hx r (λs' I'=>⟨_,H,I',h⟩) hf))
def xf:xF:=λvs σ H Q=>vs=[]/\Q σ H
def ZX (t:TG) (u:xF):xF:=λvs σ H Q=>∃v r,vs=v::r/\t v σ H λσ' H'=>u r σ' H' Q
theorem Q1:xJ X [] xf:=.of (by
 intro pins s σ H vs us Q I r h
 obtain⟨e,h⟩:=h
 subst e
 cases r
 exact assignInOrder_nil ⟨σ,H,I,h⟩)
theorem ji {e:Expr} {es:List Expr} {t:TG} {u:xF} (h1:JG X e t) (h2:xJ X es u) (hs:(assignEach (e::es) X.env).map (·.2)=assign e X.env::(assignEach es X.env).map (·.2):=by rfl):xJ X (e::es) (ZX t u):=.of (by
 have h1:=h1.to
 have h2:=h2.to
 intro pins s σ H vs us Q I r h
 obtain⟨v,vr,e1,h⟩:=h
 subst e1
 cases r with
 | cons r rr=>
   rw[hs]
   refine assignInOrder_cons (jg (h1 pins s σ H _ _ _ I r h) λ_ s1 ⟨σ1,H1,I1,q1⟩=>?_)
   exact h2 pins s1 σ1 H1 _ _ Q I1 rr q1)
def xc (K:PySem.W.Frag) (n:Nat) (t:xF):TG:=λv σ H Q=>∃a xs,v=.ref a/\SqT K H a xs/\xs.length=n/\t xs σ H Q
theorem J5 {es:List Expr} {k:Nat} {t:xF} {n:Nat} (hc:X.calm=true) (h:xJ X es t) (hn:(assignEach es X.env).length=n:=by rfl) (hst:(assignEach es X.env).findIdx? (·.1)=none:=by rfl):JG X (.Tuple es k pos) (xc X.K n t):=.of (by
 have h:=h.to
 intro pins s σ H v u Q I r hw
 obtain⟨a,xs,e1,hq,hl,hw⟩:=hw
 subst e1
 cases r
 obtain⟨its,rv,ht,hz⟩:=I.tuple hq
 refine assign_Tuple_tuple (I.ok.hd hc) ht (by simp [hn,<-hl,rv.length]) hst λh' hx=>?_
 have I1:qx X pins σ H {s with heap:=h'}:=I.kept (t':=s.toks) λb o e=>hx b o (Nat.ne_of_lt (Heap.lt_size e)) e
 exact h pins _ σ H xs _ Q I1 (by simpa using rv) hw)
def GU (to ti:TE) (t:wV):TG:=λv σ H Q=>to σ H λo H1=>ti σ H1 λi H2=>t o i v H2 λH3=>Q σ H3
theorem uZ {o i:Expr} {to ti:TE} {t:wV} (ho:PE X o to) (hi:PE X i ti) (hs:Kx X t)
   (ha:∀v,assign (.Subscript o i pos) X.env v=(do
     let ov <-holding [v] (eval o X.env)
     let iv <-holding [v,ov] (eval i X.env)
     standAt pos
     holding [v,ov,iv] (setItem ov iv v)
     release [v,ov,iv] []):=by intro _;rfl):PG X (.Subscript o i pos) (GU to ti t):=by
 intro pins s σ H v u Q I r h
 rw[ha]
 refine wpAny_bind (wpAny_holding (jg (ho pins s σ H _ I h) λov s1 ⟨x,H1,I1,r1,q1⟩=>?_))
 refine wpAny_bind (wpAny_holding (jg (hi pins s1 σ H1 _ I1 q1) λiv s2 ⟨y,H2,I2,r2,q2⟩=>?_))
 refine wpAny_bind (wpAny_standAt (wpAny_bind (wpAny_holding (jg (hs pins s2 σ H2 x y v ov iv u _ I2 r1 r2 r q2) λ_ s3 ⟨H3,I3,q3⟩=>?_))))
 exact wpAny_release ⟨σ,H3,I3,q3⟩
theorem zv {o i:Expr} {to ti:TE} {t:wV} (ho:JE X o to) (hi:JE X i ti) (hs:Kx X t) (ha:∀v,assign (.Subscript o i pos) X.env v=(do
     let ov <-holding [v] (eval o X.env)
     let iv <-holding [v,ov] (eval i X.env)
     standAt pos
     holding [v,ov,iv] (setItem ov iv v)
     release [v,ov,iv] []):=by intro _;rfl):JG X (.Subscript o i pos) (GU to ti t):=.of (uZ ho.to hi.to hs ha)
def YE (te:TE) (g:TG):TS:=λD σ H=>te σ H λx H1=>g x σ H1 D.nx
theorem zr {tg e:Expr} {te:TE} {g:TG} (he:JE X e te) (hg:JG X tg g) (hs:swapsWithSole [tg] e pos.line X.env=pure false:=by rfl) (hw:swappedStores [tg] e X.env=pure none:=by rfl) (h1:(assignEach [tg] X.env).map (·.2)=[assign tg X.env]:=by rfl):JS X (.Assign [tg] e pos) (YE te g):=.of (by
 have he:=he.to
 have hg:=hg.to
 intro pins s σ H D I h
 refine wpAny_Assign_stores (jg (he pins s σ H _ I h) λv s1 ⟨x,H1,I1,r1,q1⟩=>?_) hs hw
 rw[h1]
 exact jg (hg pins s1 σ H1 x v _ I1 r1 q1) λ_ s2 q=>q)
theorem qr {i:Nat} {x:Str} {e:Expr} {te:TE} {pos':Pos} (hN:X.N.Nodup) (hi:X.N[i]?=some x) (hx:KN X.env.scope x) (he:JE X e te) (hs:swapsWith e (some (.Name x pos')) pos.line X.env=pure false:=by rfl) (hf:X.fn x=true\/X.env.scope.names.lookup x=some .local:=by first | exact .inl rfl | exact .inr rfl | assumption):JS X (.Assign [.Name x pos'] e pos) (YE te (jH i)):=.of (by
 have he:=he.to
 intro pins s σ H D I h
 refine wpAny_Assign_Name (jg (he pins s σ H _ I h) λv s1 ⟨y,H1,I1,r1,q1⟩=>?_) hs
 exact z5 I1 hN hi hx r1 (λs2 I2=>⟨_,H1,I2,q1⟩) hf)
end
section
variable {X:Cx} {pos:Pos}
def vU (c:TT) (tb:TS):TS:=λD σ H=>∃W:Nat->St->Hp->Prop,(∃m,W m σ H)/\∀m σ H,W m σ H->
 c σ H λb H1=>if b=true then ∃N:St->Hp->Prop,(∀σ' H',N σ' H'->∃m',m' < m/\W m' σ' H')/\tb {D with nx:=N,ct:=N,bk:=D.nx} σ H1 else D.nx σ H1
theorem yF {c:Expr} {body:List Stmt} {tc:TT} {tb:TS} (hp:PassesOwn (model X.prog X.w) X.A X.env X.xe) (hc:JT X c tc) (hb:XY X body tb):JS X (.While c body [] pos) (vU tc tb):=.of (by
 have hc:=hc.to
 have hb:=hb.to
 intro pins s σ H D I h
 obtain⟨W,⟨m0,w0⟩,turn⟩:=h
 refine wpAny_While (codeAny_whileLoop (λn s'=>∃σ' H',qx X pins σ' H' s'/\W n σ' H') ?_ m0 ⟨σ,H,I,w0⟩)
 rintro n s1 ⟨σ1,H1,I1,w1⟩
 refine wpAny_passesOwn hp (jg (hc pins s1 σ1 H1 _ I1 (turn n σ1 H1 w1)) λb s2 ⟨H2,I2,q2⟩=>?_)
 cases b with
 | true=>
   obtain⟨N,hN,q2⟩:=q2
   rw[if_pos rfl]
   refine wpAny_passesOwn hp (jg (hb pins s2 σ1 H2 _ I2 q2) λf s3 q3=>?_)
   cases f with
   | next=>
     obtain⟨σ3,H3,I3,n3⟩:=q3
     obtain⟨m',hm,w3⟩:=hN σ3 H3 n3
     exact⟨m',hm,σ3,H3,I3,w3⟩
   | cont=>
     obtain⟨σ3,H3,I3,n3⟩:=q3
     obtain⟨m',hm,w3⟩:=hN σ3 H3 n3
     exact⟨m',hm,σ3,H3,I3,w3⟩
   | brk=>exact q3
   | ret v=>exact q3
 | false=>
   rw[if_neg Bool.false_ne_true]
   exact wpAny_execs_nil ⟨σ1,H2,I2,q2⟩)
end
structure It where
 go:Nat->Hp->Prop
 yld:Nat->Hp->V->Hp->Prop
 stop:Nat->Hp->Prop
def ZE (X:Cx) (pins:List (Addr×Obj)) (H:Hp) (b:Addr):Prop:=
 H b=none/\b≠X.env.locals/\b∉X.fs/\(b∈X.ex\/X.s₀.heap.objs.size<=b)/\(∀x c,X.env.cells.lookup x=some c->c≠b)/\∀p∈X.pn++pins,p.1≠b
theorem qx.fpOk {X:Cx} {pins:List (Addr×Obj)} {σ:St} {H H':Hp} {s:Shared} {b:Addr} (I:qx X pins σ H s) (hb:s.heap.objs.size<=b) (hn:H' b=none):ZE X pins H' b:=by
 refine⟨hn,Nat.ne_of_gt (Nat.lt_of_lt_of_le I.lt hb),I.nofs hb,.inr (Nat.le_trans I.sz hb),λx c e z=>?_,λp hp z=>?_⟩
 . obtain⟨v,q⟩:=I.cell x c e
   exact absurd (Nat.lt_of_lt_of_le q.lt (by rw[z];exact hb)) (Nat.lt_irrefl _)
 . exact absurd (Nat.lt_of_lt_of_le (Heap.lt_size (I.pin p hp).1) (by rw[z];exact hb)) (Nat.lt_irrefl _)
structure VQ (P:Program) (w:World) (K:PySem.W.Frag) (tg:Expr) (J:It) (fp:List Addr) (it:Addr) (tn:Nat->Heap->Prop):Prop where
 mem:it∈fp
 obj:∀i h,tn i h->∀b∈fp,∃o,h.get? b=some o/\∀v,o.data≠.cell v
 keep:∀i h h',tn i h->(∀b∈fp,∀o,h.get? b=some o->h'.get? b=some o)->tn i h'
 item:∀(X:Cx),X.prog=P->X.w=w->X.K=K->X.calm=true->∀(i:Nat) (pins:List (Addr×Obj)) (s:Shared) (σ:St) (H:Hp) (E:Value->Shared->Prop),qx X pins σ H s->(∀b∈fp,ZE X pins H b)->tn i s.heap->J.go i H->
   wpAny (model P w) X.A (pyNext (.ref it)) (λr s1=>∃u,r=some u/\
     wpAny (model P w) X.A (letOwnedTupleGo tg (.ref it) u) (λ_ s2=>∃x H',qx X pins σ H' s2/\qN x u/\J.yld i H x H'/\tn (i+1) s2.heap/\∀b∈fp,H' b=none) E s1) E s
 done:∀(X:Cx),X.prog=P->X.w=w->X.K=K->X.calm=true->∀(i:Nat) (pins:List (Addr×Obj)) (s:Shared) (σ:St) (H:Hp) (E:Value->Shared->Prop),qx X pins σ H s->(∀b∈fp,ZE X pins H b)->tn i s.heap->J.stop i H->
   wpAny (model P w) X.A (pyNext (.ref it)) (λr s1=>r=none/\qx X pins σ H s1) E s
 self:∀(A:Around) (i:Nat) (s:Shared) (Q:Value->Shared->Prop) (E:Value->Shared->Prop),tn i s.heap->Q (.ref it) s->wpAny (model P w) A (pyIter (.ref it)) Q E s
abbrev TI:=St->Hp->(It->Hp->Prop)->Prop
def PIE (X:Cx) (pins:List (Addr×Obj)) (σ:St) (tg:Expr) (R:It->Hp->Prop) (itv:Value) (s2:Shared):Prop:=
 ∃(it:Addr) (fp:List Addr) (tn:Nat->Heap->Prop) (J:It) (H':Hp),itv=.ref it/\qx X pins σ H' s2/\VQ X.prog X.w X.K tg J fp it tn/\tn 0 s2.heap/\(∀b∈fp,ZE X pins H' b)/\R J H'
def PI (X:Cx) (tg iter:Expr) (wi:TI):Prop:=
 ∀(pins:List (Addr×Obj)) (s:Shared) (σ:St) (H:Hp) (R:It->Hp->Prop),qx X pins σ H s->wi σ H R->
   wpAny (model X.prog X.w) X.A (eval iter X.env) (λv s1=>wpAny (model X.prog X.w) X.A (pyIter v) (PIE X pins σ tg R) X.xe s1) X.xe s
@[irreducible] def JI (X:Cx) (tg iter:Expr) (wi:TI):Prop:=PI X tg iter wi
theorem JI.of {X:Cx} {tg iter:Expr} {wi:TI} (h:PI X tg iter wi):JI X tg iter wi:=by unfold JI;exact h
theorem JI.to {X:Cx} {tg iter:Expr} {wi:TI} (h:JI X tg iter wi):PI X tg iter wi:=by unfold JI at h;exact h
theorem UA {M:Model} {A:Around} {E:Value->Shared->Prop} {s:Shared} {tg:Expr} {it:Addr} {u:Value} {o:Obj} {n:String} {vs:Array Value} {Q:Unit->Shared->Prop} (ho:s.heap.get? it=some o) (hc:o.cls=.type n) (hd:o.data=.fields vs)
   (hn:["enumerate","zip","dict_itemiterator","dict_reverseitemiterator","odict_iterator","itertools.zip_longest","itertools.pairwise"].contains n=false) (hQ:Q () s):wpAny M A (letOwnedTupleGo tg (.ref it) u) Q E s:=by
 unfold letOwnedTupleGo
 cases tg<;>first
   | exact wpAny_pure hQ
   | (cases u<;>first
       | exact wpAny_pure hQ
       | (refine wpAny_bind (wpAny_load ho ?_)
          rw[hc,hd]
          show wpAny M A (if (["enumerate","zip","dict_itemiterator","dict_reverseitemiterator","odict_iterator","itertools.zip_longest","itertools.pairwise"].contains n&&vs[0]?==some (rawInt _))=true then _ else _) Q E s
          rw[if_neg (by intro h;rw[hn,Bool.false_and]at h;cases h)]
          exact wpAny_pure hQ))
def KA (K:PySem.W.Frag) (a:Addr):It:=
 ⟨λi H=>∃xs x,SqL K H a xs/\xs[i]?=some x,λi H x H'=>H'=H/\∀xs,SqL K H a xs->xs[i]?=some x,λi H=>∃xs,SqL K H a xs/\xs.length<=i⟩
def KO (K:PySem.W.Frag) (a:Addr):It:=
 ⟨λi H=>∃xs x,SqT K H a xs/\xs[i]?=some x,λi H x H'=>H'=H/\∀xs,SqT K H a xs->xs[i]?=some x,λi H=>∃xs,SqT K H a xs/\xs.length<=i⟩
def Kz (lo:Int) (n:Nat):It:=⟨λi _=>i < n,λi H x H'=>H'=H/\x=.int (lo+i),λi _=>n<=i⟩
theorem UR {P:Program} {w:World} {K:PySem.W.Frag} {tg:Expr} (a it:Addr):VQ P w K tg (KA K a) [it] it (λi h=>h.IsListIter it a i) where
 mem:=by simp
 obj:=λi h st b hb=>by
   have e:b=it:=by simpa using hb
   subst e
   obtain⟨o,e,c,d⟩:=st
   exact⟨o,e,λv z=>by rw[d]at z;cases z⟩
 keep:=λi h h' st k=>st.at λo e=>k it (by simp) o e
 item:=by
   intro X hP hw hK hc i pins s σ H E I hf st hg
   subst hP hw hK
   obtain⟨xs,x,hq,hx⟩:=hg
   obtain⟨its,rv,p,hz⟩:=I.list hq
   obtain⟨u,hu,ru⟩:=rv.get hx
   obtain⟨f0,f1,f2,f3,f4,f5⟩:=hf it (by simp)
   refine wpAny_pyNext_list_item st p.isList (x:=u) (by simpa using hu) λh' st' sb=>?_
   have I1:qx X pins σ H {s with heap:=h'}:=I.turned (t':=s.toks) (λb o hb e=>(sb.2 b hb).trans e) f0 f1 f3 f4 f5
   obtain⟨o,e,c,d⟩:=id st'
   exact⟨u,rfl,UA (s:={s with heap:=h'}) e c d (by decide) ⟨x,H,I1,ru,⟨rfl,λys hy=>by rw[I.list_inj hy hq];exact hx⟩,st',λb hb=>(hf b hb).1⟩⟩
 done:=by
   intro X hP hw hK hc i pins s σ H E I hf st hg
   subst hP hw hK
   obtain⟨xs,hq,hx⟩:=hg
   obtain⟨its,rv,p,hz⟩:=I.list hq
   obtain⟨f0,f1,f2,f3,f4,f5⟩:=hf it (by simp)
   have hl:=rv.length
   exact wpAny_pyNext_list_end (I.ok.hd hc) st p.isList (by simp;omega) λh' eb=>⟨rfl,I.turned (t':=s.toks) (λb o hb e=>eb b o hb e) f0 f1 f3 f4 f5⟩
 self:=λ_ _ _ _ _ st h=>wpAny_pyIter_listiter st h
theorem Vb {P:Program} {w:World} {K:PySem.W.Frag} {tg:Expr} (a it:Addr):VQ P w K tg (KO K a) [it] it (λi h=>h.IsTupleIter it a i) where
 mem:=by simp
 obj:=λi h st b hb=>by
   have e:b=it:=by simpa using hb
   subst e
   obtain⟨o,e,c,d⟩:=st
   exact⟨o,e,λv z=>by rw[d]at z;cases z⟩
 keep:=λi h h' st k=>st.at λo e=>k it (by simp) o e
 item:=by
   intro X hP hw hK hc i pins s σ H E I hf st hg
   subst hP hw hK
   obtain⟨xs,x,hq,hx⟩:=hg
   obtain⟨its,rv,p,hz⟩:=I.tuple hq
   obtain⟨u,hu,ru⟩:=rv.get hx
   obtain⟨f0,f1,f2,f3,f4,f5⟩:=hf it (by simp)
   refine wpAny_pyNext_tuple_item st (show s.heap.IsTuple a its.toArray from p) (x:=u) (by simpa using hu) λh' st' sb=>?_
   have I1:qx X pins σ H {s with heap:=h'}:=I.turned (t':=s.toks) (λb o hb e=>(sb.2 b hb).trans e) f0 f1 f3 f4 f5
   obtain⟨o,e,c,d⟩:=id st'
   exact⟨u,rfl,UA (s:={s with heap:=h'}) e c d (by decide) ⟨x,H,I1,ru,⟨rfl,λys hy=>by rw[I.tuple_inj hy hq];exact hx⟩,st',λb hb=>(hf b hb).1⟩⟩
 done:=by
   intro X hP hw hK hc i pins s σ H E I hf st hg
   subst hP hw hK
   obtain⟨xs,hq,hx⟩:=hg
   obtain⟨its,rv,p,hz⟩:=I.tuple hq
   obtain⟨f0,f1,f2,f3,f4,f5⟩:=hf it (by simp)
   have hl:=rv.length
   exact wpAny_pyNext_tuple_end (I.ok.hd hc) st (show s.heap.IsTuple a its.toArray from p) (by simp;omega) λh' eb=>⟨rfl,I.turned (t':=s.toks) (λb o hb e=>eb b o hb e) f0 f1 f3 f4 f5⟩
 self:=λ_ _ _ _ _ st h=>wpAny_pyIter_tupleiter st h
theorem Vc {P:Program} {w:World} {K:PySem.W.Frag} {tg:Expr} (it:Addr) (lo:Int) (n:Nat):VQ P w K tg (Kz lo n) [it] it (λi h=>IsRangeIter h it (lo+(i:Nat)*1) ((n:Int) - (i:Nat)) 1) where
 mem:=by simp
 obj:=λi h st b hb=>by
   have e:b=it:=by simpa using hb
   subst e
   exact⟨_,st,λv z=>by
     have z':Data.fields _=Data.cell v:=z
     cases z'⟩
 keep:=λi h h' st k=>k it (by simp) _ st
 item:=by
   intro X hP hw hK hc i pins s σ H E I hf st hg
   subst hP hw hK
   obtain⟨f0,f1,f2,f3,f4,f5⟩:=hf it (by simp)
   have W:=Walks.range (prog:=X.prog) (w:=X.w) (I.ok.hd hc) it lo 1 n
   refine W.item i s _ _ hg st λv h' tk hv st' kk=>?_
   obtain⟨t,rfl⟩:=hv
   have I1:qx X pins σ H {s with heap:=h',toks:=tk}:=I.turned (λb o hb e=>kk b o (by simpa using hb) e) f0 f1 f3 f4 f5
   refine⟨_,rfl,UA (s:={s with heap:=h',toks:=tk}) (n:="range_iterator") st' rfl rfl (by decide) ⟨.int (lo+i),H,I1,⟨t,?_⟩,⟨rfl,rfl⟩,st',λb hb=>(hf b hb).1⟩⟩
   rw[Int.mul_one]
 done:=by
   intro X hP hw hK hc i pins s σ H E I hf st hg
   subst hP hw hK
   obtain⟨f0,f1,f2,f3,f4,f5⟩:=hf it (by simp)
   exact wpAny_pyNext_range_end (I.ok.hd hc) st (by have:n<=i:=hg;omega) λh' eb=>⟨rfl,I.turned (t':=s.toks) (λb o hb e=>eb b o hb e) f0 f1 f3 f4 f5⟩
 self:=λ_ _ _ _ _ st h=>wpAny_pyIter_rangeiter st h
end L2
namespace L2
open PySem PySem.Spec PyProof.Rows
section
variable {X:Cx} {tg:Expr}
def yX (K:PySem.W.Frag) (tl:TE):TI:=λσ H R=>tl σ H λx H1=>∃a,x=.ref a/\(∃xs,SqL K H1 a xs)/\R (KA K a) H1
def GK (K:PySem.W.Frag) (tl:TE):TI:=λσ H R=>tl σ H λx H1=>∃a,x=.ref a/\(∃xs,SqT K H1 a xs)/\R (KO K a) H1
theorem qY {l:Expr} {tl:TE} (hl:JE X l tl):JI X tg l (yX X.K tl):=.of (by
 have hl:=hl.to
 intro pins s σ H R I h
 refine jg (hl pins s σ H _ I h) λv s1 ⟨x,H1,I1,r1,q1⟩=>?_
 obtain⟨a,e,⟨xs,hq⟩,q⟩:=q1
 subst e
 cases r1
 obtain⟨its,rv,p,hz⟩:=I1.list hq
 refine wpAny_pyIter_list p.isList ?_
 refine⟨s1.heap.objs.size,[s1.heap.objs.size],_,_,H1,rfl,I1.kept (t':=s1.toks) λb o e=>Heap.get?_push_of_some _ e,UR a _,⟨_,Heap.get?_push_size _ rfl,rfl,rfl⟩,λb hb=>?_,q⟩
 have e:b=s1.heap.objs.size:=by simpa using hb
 subst e
 exact I1.fpOk (Nat.le_refl _) (I1.hok.fresh (Nat.le_refl _)))
theorem XG {l:Expr} {tl:TE} (hl:JE X l tl):JI X tg l (GK X.K tl):=.of (by
 have hl:=hl.to
 intro pins s σ H R I h
 refine jg (hl pins s σ H _ I h) λv s1 ⟨x,H1,I1,r1,q1⟩=>?_
 obtain⟨a,e,⟨xs,hq⟩,q⟩:=q1
 subst e
 cases r1
 obtain⟨its,rv,p,hz⟩:=I1.tuple hq
 refine wpAny_pyIter_tuple (show s1.heap.IsTuple a its.toArray from p) ?_
 refine⟨s1.heap.objs.size,[s1.heap.objs.size],_,_,H1,rfl,I1.kept (t':=s1.toks) λb o e=>Heap.get?_push_of_some _ e,Vb a _,⟨_,Heap.get?_push_size _ rfl,rfl,rfl⟩,λb hb=>?_,q⟩
 have e:b=s1.heap.objs.size:=by simpa using hb
 subst e
 exact I1.fpOk (Nat.le_refl _) (I1.hok.fresh (Nat.le_refl _)))
theorem kU {pins:List (Addr×Obj)} {σ:St} {H:Hp} {s:Shared} {R:It->Hp->Prop} {E:Value->Shared->Prop} {lo hi:Int} {t u v:Tok} {tk:Nat} (I:qx X pins σ H s) (h1:-(2^62)<=lo) (h2:lo < 2^62) (h3:-(2^62)<=hi) (h4:hi < 2^62)
   (q:R (Kz lo (hi - lo).toNat) H):wpAny (model X.prog X.w) X.A (pyIter (.ref s.heap.objs.size)) (PIE X pins σ tg R) E {s with heap:=s.heap.push {cls:=.type "range",data:=.fields #[.int lo t,.int hi u,.int 1 v]},toks:=tk}:=by
 refine wpAny_pyIter_range (IsRange.new ..) (small_one h1 h2 h3 h4) ?_
 have I1:qx X pins σ H {s with heap:=s.heap.push {cls:=.type "range",data:=.fields #[.int lo t,.int hi u,.int 1 v]},toks:=tk}:=I.kept λb o e=>Heap.get?_push_of_some _ e
 refine⟨(s.heap.push {cls:=.type "range",data:=.fields #[.int lo t,.int hi u,.int 1 v]}).objs.size,[(s.heap.push {cls:=.type "range",data:=.fields #[.int lo t,.int hi u,.int 1 v]}).objs.size],_,_,H,rfl,
   I1.kept (t':=tk) λb o e=>Heap.get?_push_of_some _ e,Vc _ lo (hi - lo).toNat,?_,λb hb=>?_,q⟩
 . have e1:lo+((0:Nat):Int)*1=lo:=by simp
   have e2:(((hi - lo).toNat:Nat):Int) - ((0:Nat):Int)=Builtin.Range.rangeSize lo hi 1:=by rw[rangeSize_one];split<;>omega
   show IsRangeIter _ _ (lo+((0:Nat):Int)*1) ((((hi - lo).toNat:Nat):Int) - ((0:Nat):Int)) 1
   rw[e1,e2]
   exact Heap.get?_push_size _ rfl
 . have e:b=(s.heap.push {cls:=.type "range",data:=.fields #[.int lo t,.int hi u,.int 1 v]}).objs.size:=by simpa using hb
   subst e
   exact I1.fpOk (Nat.le_refl _) (I1.hok.fresh (Nat.le_refl _))
def GQ (ta:TA):TI:=λσ H R=>ta σ H λvs H1=>∃j:Int,vs=[.int j]/\-(2^62)<=j/\j < 2^62/\R (Kz 0 j.toNat) H1
theorem jS {a:Expr} {ta:TA} {p pos:Pos} (hg:Gl X "range") (hm:X.mg "range"=none) (ha:JA X [a] ta) (hs:starEach [a] X.env=[(false,eval a X.env)]:=by rfl):JI X tg (.Call (.Name "range" p) [a] [] pos) (GQ ta):=.of (by
 have ha:=ha.to
 intro pins s σ H R I h
 refine Call_ (Q4 I hg hm boot_range (PyProof.Rows.callWith_type1 (jg (ha pos pins s σ H _ I h) λus s1 ⟨vs,H1,I1,r1,q1⟩=>?_) hs rfl))
 obtain⟨j,e,q1,q2,q⟩:=q1
 subst e
 cases r1 with
 | cons r rr=>
   cases rr
   obtain⟨t,rfl⟩:=r
   exact call_range_1 (kU I1 (by omega) (by omega) q1 q2 (by simpa using q)))
def UV (wi:TI) (g:TG) (tb:TS):TS:=λD σ H=>wi σ H λJ H1=>∃W:Nat->Nat->St->Hp->Prop,(∃m,W 0 m σ H1)/\∀i m σ H,W i m σ H->
 (J.stop i H/\D.nx σ H)\/(J.go i H/\∃N:St->Hp->Prop,(∀σ' H',N σ' H'->∃m',m' < m/\W (i+1) m' σ' H')/\∀x H',J.yld i H x H'->g x σ H' λσ2 H2=>tb {D with nx:=N,ct:=N,bk:=D.nx} σ2 H2)
def Ye (fp:List Addr) (h:Heap):List (Addr×Obj):=fp.filterMap λb=>(h.get? b).map λo=>(b,o)
theorem Jq {fp:List Addr} {h:Heap} {b:Addr} {o:Obj} (hb:b∈fp) (e:h.get? b=some o):(b,o)∈Ye fp h:=List.mem_filterMap.mpr ⟨b,hb,by rw[e];rfl⟩
theorem ve {fp:List Addr} {h:Heap} {p:Addr×Obj} (hp:p∈Ye fp h):p.1∈fp/\h.get? p.1=some p.2:=by
 obtain⟨b,hb,e⟩:=List.mem_filterMap.mp hp
 cases q:h.get? b with
 | none=>rw[q]at e;cases e
 | some o=>
   rw[q]at e
   have e':(b,o)=p:=Option.some.inj e
   subst e'
   exact⟨hb,q⟩
theorem qx.pinned {pins:List (Addr×Obj)} {σ:St} {H:Hp} {s:Shared} {fp:List Addr} (I:qx X pins σ H s) (hf:∀b∈fp,ZE X pins H b) (ho:∀b∈fp,∃o,s.heap.get? b=some o/\∀v,o.data≠.cell v):qx X (pins++Ye fp s.heap) σ H s:=
 I.pins_of λp hp=>(List.mem_append.mp hp).elim (λz=>I.pin p (List.mem_append_right _ z)) λz=>by
   obtain⟨hb,e⟩:=ve z
   obtain⟨f0,f1,f2,_⟩:=hf p.1 hb
   obtain⟨o,e',d⟩:=ho p.1 hb
   rw[e]at e';cases e'
   exact⟨e,f0,f1,f2,d⟩
theorem qx.unpinned {pins pl:List (Addr×Obj)} {σ:St} {H:Hp} {s:Shared} (I:qx X (pins++pl) σ H s):qx X pins σ H s:=I.pins_of λp hp=>I.pin p (List.mem_append_right _ (List.mem_append_left _ hp))
theorem jw {iter:Expr} {body:List Stmt} {wi:TI} {g:TG} {tb:TS} {pos:Pos} (hp:PassesOwn (model X.prog X.w) X.A X.env X.xe) (hc:X.calm=true) (hi:JI X tg iter wi) (hg:JG X tg g) (hb:XY X body tb) (hs:∀x,foldedSetIterable iter X.env x=pure x:=by intro _;rfl):JS X (.For tg iter body [] pos) (UV wi g tb):=.of (by
 have hi:=hi.to
 have hg:=hg.to
 have hb:=hb.to
 intro pins s σ H D I h
 refine wpAny_For (jg (hi pins s σ H _ I h) λv s1 h1=>jg h1 λitv s2 h2=>?_) hs
 obtain⟨it,fp,tn,J,H2,e,I2,T,st2,f2,W,⟨m0,w0⟩,turn⟩:=h2
 subst e
 have stat:∀{H':Hp},(∀b∈fp,H' b=none)->∀b∈fp,ZE X pins H' b:=λhn b hb=>⟨hn b hb,(f2 b hb).2⟩
 refine codeAny_forLoop_any (λn s'=>∃i σ' H',qx X pins σ' H' s'/\tn i s'.heap/\(∀b∈fp,H' b=none)/\W i n σ' H') ?_ m0 ⟨0,σ,H2,I2,st2,λb hb=>(f2 b hb).1,w0⟩
 rintro n s3 ⟨i,σ3,H3,I3,st3,fr3,w3⟩
 rcases turn i n σ3 H3 w3 with ⟨stop,qn⟩ | ⟨go,N,hN,step⟩
 . refine wpAny_passesOwn hp (jg (T.done X rfl rfl rfl hc i pins s3 σ3 H3 X.xe I3 (stat fr3) st3 stop) λr s4 ⟨hr,I4⟩=>?_)
   subst hr
   exact wpAny_execs_nil ⟨σ3,H3,I4,qn⟩
 . refine wpAny_passesOwn hp (jg (T.item X rfl rfl rfl hc i pins s3 σ3 H3 X.xe I3 (stat fr3) st3 go) λr s4 ⟨u,hr,h4⟩=>?_)
   subst hr
   refine wpAny_passesOwn hp (jg h4 λ_ s5 ⟨x,H5,I5,r5,y5,st5,fr5⟩=>?_)
   have I5':=I5.pinned (stat fr5) (T.obj _ _ st5)
   refine wpAny_passesOwn hp (jg (hg _ s5 σ3 H5 x u _ I5' r5 (step x H5 y5)) λ_ s6 ⟨σ6,H6,I6,q6⟩=>?_)
   refine wpAny_passesOwn hp (jg (hb _ s6 σ6 H6 _ I6 q6) λf s7 q7=>?_)
   have again:∀{σ7:St} {H7:Hp},qx X (pins++Ye fp s5.heap) σ7 H7 s7->N σ7 H7->∃m,m < n/\∃i σ' H',qx X pins σ' H' s7/\tn i s7.heap/\(∀b∈fp,H' b=none)/\W i m σ' H':=λ{σ7 H7} I7 n7=>by
     obtain⟨m',hm,w7⟩:=hN σ7 H7 n7
     refine⟨m',hm,i+1,σ7,H7,I7.unpinned,T.keep _ _ _ st5 λb hb o e=>(I7.pin (b,o) (List.mem_append_right _ (List.mem_append_right _ (Jq hb e)))).1,λb hb=>?_,w7⟩
     obtain⟨o,e,d⟩:=T.obj _ _ st5 b hb
     exact(I7.pin (b,o) (List.mem_append_right _ (List.mem_append_right _ (Jq hb e)))).2.1
   cases f with
   | next=>obtain⟨σ7,H7,I7,n7⟩:=q7;exact again I7 n7
   | cont=>obtain⟨σ7,H7,I7,n7⟩:=q7;exact again I7 n7
   | brk=>obtain⟨σ7,H7,I7,q7⟩:=q7;exact⟨σ7,H7,I7.unpinned,q7⟩
   | ret v=>obtain⟨x7,σ7,H7,I7,r7,q7⟩:=q7;exact⟨x7,σ7,H7,I7.unpinned,r7,q7⟩)
end
theorem jM {K:PySem.W.Frag} {a:Addr} {xs:List V} {g:TG} {tb:TS} {D:QS} {σ:St} {H:Hp} (Pv:Nat->St->Hp->Prop) (h0:Pv 0 σ H) (hl:∀i σ H,i<=xs.length->Pv i σ H->SqL K H a xs)
   (hs:∀i x σ H,xs[i]?=some x->Pv i σ H->g x σ H λσ2 H2=>tb {D with nx:=Pv (i+1),ct:=Pv (i+1),bk:=D.nx} σ2 H2) (hd:∀σ H,Pv xs.length σ H->D.nx σ H):
   ∃W:Nat->Nat->St->Hp->Prop,(∃m,W 0 m σ H)/\∀i m σ H,W i m σ H->
    ((KA K a).stop i H/\D.nx σ H)\/((KA K a).go i H/\∃N:St->Hp->Prop,(∀σ' H',N σ' H'->∃m',m' < m/\W (i+1) m' σ' H')/\∀x H',(KA K a).yld i H x H'->g x σ H' λσ2 H2=>tb {D with nx:=N,ct:=N,bk:=D.nx} σ2 H2):=by
 refine⟨λi m σ H=>m=xs.length - i/\i<=xs.length/\Pv i σ H,⟨xs.length,by simp,Nat.zero_le _,h0⟩,?_⟩
 rintro i m σ H ⟨rfl,hi,p⟩
 have q:=hl i σ H hi p
 by_cases hlt:i < xs.length
 . refine .inr ⟨⟨xs,xs[i],q,by simp [hlt]⟩,Pv (i+1),λσ' H' p'=>⟨xs.length - (i+1),by omega,rfl,hlt,p'⟩,λx H' y=>?_⟩
   obtain⟨e,y⟩:=y
   subst e
   exact hs i x σ _ (y xs q) p
 . have e:i=xs.length:=by omega
   subst e
   exact .inl ⟨⟨xs,q,Nat.le_refl _⟩,hd σ H p⟩
theorem XL {K:PySem.W.Frag} {a:Addr} {xs:List V} {g:TG} {tb:TS} {D:QS} {σ:St} {H:Hp} (Pv:Nat->St->Hp->Prop) (h0:Pv 0 σ H) (hl:∀i σ H,i<=xs.length->Pv i σ H->SqT K H a xs)
   (hs:∀i x σ H,xs[i]?=some x->Pv i σ H->g x σ H λσ2 H2=>tb {D with nx:=Pv (i+1),ct:=Pv (i+1),bk:=D.nx} σ2 H2) (hd:∀σ H,Pv xs.length σ H->D.nx σ H):
   ∃W:Nat->Nat->St->Hp->Prop,(∃m,W 0 m σ H)/\∀i m σ H,W i m σ H->
    ((KO K a).stop i H/\D.nx σ H)\/((KO K a).go i H/\∃N:St->Hp->Prop,(∀σ' H',N σ' H'->∃m',m' < m/\W (i+1) m' σ' H')/\∀x H',(KO K a).yld i H x H'->g x σ H' λσ2 H2=>tb {D with nx:=N,ct:=N,bk:=D.nx} σ2 H2):=by
 refine⟨λi m σ H=>m=xs.length - i/\i<=xs.length/\Pv i σ H,⟨xs.length,by simp,Nat.zero_le _,h0⟩,?_⟩
 rintro i m σ H ⟨rfl,hi,p⟩
 have q:=hl i σ H hi p
 by_cases hlt:i < xs.length
 . refine .inr ⟨⟨xs,xs[i],q,by simp [hlt]⟩,Pv (i+1),λσ' H' p'=>⟨xs.length - (i+1),by omega,rfl,hlt,p'⟩,λx H' y=>?_⟩
   obtain⟨e,y⟩:=y
   subst e
   exact hs i x σ _ (y xs q) p
 . have e:i=xs.length:=by omega
   subst e
   exact .inl ⟨⟨xs,q,Nat.le_refl _⟩,hd σ H p⟩
theorem QE {lo:Int} {n:Nat} {g:TG} {tb:TS} {D:QS} {σ:St} {H:Hp} (Pv:Nat->St->Hp->Prop) (h0:Pv 0 σ H)
   (hs:∀i σ H,i < n->Pv i σ H->g (.int (lo+i)) σ H λσ2 H2=>tb {D with nx:=Pv (i+1),ct:=Pv (i+1),bk:=D.nx} σ2 H2) (hd:∀σ H,Pv n σ H->D.nx σ H):
   ∃W:Nat->Nat->St->Hp->Prop,(∃m,W 0 m σ H)/\∀i m σ H,W i m σ H->
    ((Kz lo n).stop i H/\D.nx σ H)\/((Kz lo n).go i H/\∃N:St->Hp->Prop,(∀σ' H',N σ' H'->∃m',m' < m/\W (i+1) m' σ' H')/\∀x H',(Kz lo n).yld i H x H'->g x σ H' λσ2 H2=>tb {D with nx:=N,ct:=N,bk:=D.nx} σ2 H2):=by
 refine⟨λi m σ H=>m=n - i/\i<=n/\Pv i σ H,⟨n,by simp,Nat.zero_le _,h0⟩,?_⟩
 rintro i m σ H ⟨rfl,hi,p⟩
 by_cases hlt:i < n
 . refine .inr ⟨hlt,Pv (i+1),λσ' H' p'=>⟨n - (i+1),by omega,rfl,hlt,p'⟩,λx H' y=>?_⟩
   obtain⟨e,y⟩:=y
   subst e y
   exact hs i σ _ hlt p
 . have e:i=n:=by omega
   subst e
   exact .inl ⟨Nat.le_refl _,hd σ H p⟩
theorem vP {c:TT} {tb:TS} {D:QS} {σ:St} {H:Hp} (Pv:St->Hp->Prop) (μ:St->Hp->Nat) (h0:Pv σ H)
   (hs:∀σ H,Pv σ H->c σ H λb H1=>if b=true then tb {D with nx:=λσ' H'=>Pv σ' H'/\μ σ' H' < μ σ H,ct:=λσ' H'=>Pv σ' H'/\μ σ' H' < μ σ H,bk:=D.nx} σ H1 else D.nx σ H1)
   (mono:∀σ H Q Q',(∀b H1,Q b H1->Q' b H1)->c σ H Q->c σ H Q'):vU c tb D σ H:=by
 refine⟨λm σ H=>m=μ σ H/\Pv σ H,⟨_,rfl,h0⟩,?_⟩
 rintro m σ H ⟨rfl,p⟩
 refine mono σ H _ _ (λb H1 q=>?_) (hs σ H p)
 cases b with
 | true=>exact⟨_,λσ' H' ⟨p',l⟩=>⟨_,l,rfl,p'⟩,q⟩
 | false=>exact q
end L2
namespace L2
open PySem PySem.Spec PyProof.Rows
abbrev R2:=V->V->Hp->VK->Prop
def ZF (X:Cx) (f:Value->Value->Sem Value) (r:R2):Prop:=
 ∀(pins:List (Addr×Obj)) (s:Shared) (σ:St) (H:Hp) (x y:V) (v u:Value) (Q:VK),qx X pins σ H s->qN x v->qN y u->r x y H Q->
   wpAny (model X.prog X.w) X.A (f v u) (EP X pins σ Q) X.xe s
def R3 (X:Cx) (f:Value->Sem Value) (r:V->Hp->VK->Prop):Prop:=
 ∀(pins:List (Addr×Obj)) (s:Shared) (σ:St) (H:Hp) (x:V) (v:Value) (Q:VK),qx X pins σ H s->qN x v->r x H Q->
   wpAny (model X.prog X.w) X.A (f v) (EP X pins σ Q) X.xe s
def Qr (X:Cx) (f:Value) (r:List V->Hp->VK->Prop):Prop:=
 ∀(pins:List (Addr×Obj)) (s:Shared) (σ:St) (H:Hp) (xs:List V) (us:List Value) (Q:VK),qx X pins σ H s->qD xs us->r xs H Q->
   wpAny (model X.prog X.w) X.A (call f us) (EP X pins σ Q) X.xe s
def Vg (r:R2) (ta tb:TE):TE:=λσ H Q=>ta σ H λx H1=>tb σ H1 λy H2=>r x y H2 Q
def tUn (r:V->Hp->VK->Prop) (ta:TE):TE:=λσ H Q=>ta σ H λx H1=>r x H1 Q
def rI (C:Int->Int->Prop) (g:Int->Int->V):R2:=λx y H Q=>∃i j,x=.int i/\y=.int j/\C i j/\Q (g i j) H
def uY (g:Int->Int->V):R2:=λx y H Q=>∃i j,x=.int i/\y=.int j/\Q (g i j) H
def rU (g:Int->V):V->Hp->VK->Prop:=λx H Q=>∃i,x=.int i/\Q (g i) H
section
variable {X:Cx} {a b c:Expr} {ta tb tc:TE} {pos:Pos}
theorem Kv (ha:PE X a ta) (hb:PE X b tb) {pins:List (Addr×Obj)} {s:Shared} {σ:St} {H:Hp} {R:V->V->Hp->Prop} (I:qx X pins σ H s)
   (h:ta σ H λx H1=>tb σ H1 λy H2=>R x y H2) {Q:Value->Shared->Prop} {f:Value->Value->Sem Value}
   (hf:∀v u s2 x y H2,qx X pins σ H2 s2->qN x v->qN y u->R x y H2->wpAny (model X.prog X.w) X.A (f v u) Q X.xe s2):
   wpAny (model X.prog X.w) X.A (eval a X.env) (λv s₁=>wpAny (model X.prog X.w) X.A (eval b X.env) (λu s₂=>wpAny (model X.prog X.w) X.A (f v u) Q X.xe s₂) X.xe s₁) X.xe s:=by
 refine jg (ha pins s σ H _ I h) λv s1 ⟨x,H1,I1,r1,q1⟩=>?_
 refine jg (hb pins s1 σ H1 _ I1 q1) λu s2 ⟨y,H2,I2,r2,q2⟩=>?_
 exact hf v u s2 x y H2 I2 r1 r2 q2
theorem qE {op:Operator} {r:R2} (ho:ZF X (binaryOp op) r) (ha:JE X a ta) (hb:JE X b tb):JE X (.BinOp a op b pos) (Vg r ta tb):=.of (by
 have ha:=ha.to
 have hb:=hb.to
 intro pins s σ H Q I h
 exact wpAny_BinOp (Kv ha hb I h λv u s2 x y H2 I2 rx ry q=>ho pins s2 σ H2 x y v u Q I2 rx ry q))
theorem yJ {op:UnaryOp} {r:V->Hp->VK->Prop} (ho:R3 X (unaryOp op) r) (ha:JE X a ta):JE X (.UnaryOp op a pos) (tUn r ta):=.of (by
 have ha:=ha.to
 intro pins s σ H Q I h
 exact UnaryOp_ (jg (ha pins s σ H _ I h) λv s1 ⟨x,H1,I1,r1,q1⟩=>ho pins s1 σ H1 x v Q I1 r1 q1))
theorem Gj {f:Value->Value->Sem Value} {C:Int->Int->Prop} {g:Int->Int->Int}
   (rule:∀(i j:Int) (t u:Tok) (s:Shared) (Q:Value->Shared->Prop) (E:Value->Shared->Prop),C i j->Q (.int (g i j) s.toks) {s with toks:=s.toks+1}->wpAny (model X.prog X.w) X.A (f (.int i t) (.int j u)) Q E s):
   ZF X f (rI C λi j=>.int (g i j)):=by
 intro pins s σ H x y v u Q I rx ry h
 obtain⟨i,j,rfl,rfl,hc,q⟩:=h
 obtain⟨t,rfl⟩:=rx
 obtain⟨t',rfl⟩:=ry
 exact rule i j t t' s _ _ hc ⟨.int (g i j),H,I.tok _,⟨_,rfl⟩,q⟩
theorem Gi {f:Value->Value->Sem Value} {g:Int->Int->Int}
   (rule:∀(i j:Int) (t u:Tok) (s:Shared) (Q:Value->Shared->Prop) (E:Value->Shared->Prop),Q (.int (g i j) s.toks) {s with toks:=s.toks+1}->wpAny (model X.prog X.w) X.A (f (.int i t) (.int j u)) Q E s):
   ZF X f (uY λi j=>.int (g i j)):=by
 intro pins s σ H x y v u Q I rx ry h
 obtain⟨i,j,rfl,rfl,q⟩:=h
 obtain⟨t,rfl⟩:=rx
 obtain⟨t',rfl⟩:=ry
 exact rule i j t t' s _ _ ⟨.int (g i j),H,I.tok _,⟨_,rfl⟩,q⟩
theorem u9 {f:Value->Value->Sem Value} {g:Int->Int->Bool}
   (rule:∀(i j:Int) (t u:Tok) (s:Shared) (Q:Value->Shared->Prop) (E:Value->Shared->Prop),Q (.bool (g i j)) s->wpAny (model X.prog X.w) X.A (f (.int i t) (.int j u)) Q E s):
   ZF X f (uY λi j=>.bl (g i j)):=by
 intro pins s σ H x y v u Q I rx ry h
 obtain⟨i,j,rfl,rfl,q⟩:=h
 obtain⟨t,rfl⟩:=rx
 obtain⟨t',rfl⟩:=ry
 exact rule i j t t' s _ _ ⟨.bl (g i j),H,I,rfl,q⟩
def Nd (i j:Int):Prop:=0 < j/\j < 1073741824
def Nc (i j:Int):Prop:=0<=j/\j<=1000000/\i.natAbs < 2^64
def KD (i j:Int):Prop:=(-(2^64) < i/\i < 2^64)\/(-(2^64) < j/\j < 2^64)
theorem KD.ok {i j:Int} (h:KD i j):IntMulOk i j:=by
 rcases h with ⟨h1,h2⟩ | ⟨h1,h2⟩
 . exact .of_left (intBits_le_64 h1 h2)
 . exact .of_right (intBits_le_64 h1 h2)
theorem jD:ZF X (binaryOp .Add) (uY λi j=>.int (i+j)):=Gi λ_ _ _ _ _ _ _ q=>add_int q
theorem u6:ZF X (binaryOp .Sub) (uY λi j=>.int (i - j)):=Gi λ_ _ _ _ _ _ _ q=>sub_int q
theorem Jo:ZF X (binaryOp .Mult) (rI KD λi j=>.int (i*j)):=Gj λ_ _ _ _ _ _ _ hc q=>mul_int q hc.ok
theorem Uo:ZF X (binaryOp .FloorDiv) (rI Nd λi j=>.int (i / j)):=Gj λi j _ _ _ _ _ hc q=>by
 have h1:(0:Int) < j:=hc.1
 have h2:j < 1073741824:=hc.2
 exact floordiv_int (by omega) (by rw[Int.fdiv_eq_ediv_of_nonneg i (by omega)];exact q) (.inl (PyProof.noPylong_small (by omega)))
theorem QK:ZF X (binaryOp .Mod) (rI (λ_ j=>0 < j) λi j=>.int (i % j)):=Gj λi j _ _ _ _ _ hc q=>by
 have h1:(0:Int) < j:=hc
 exact mod_int' (by omega) (by rw[Int.fmod_eq_emod_of_nonneg i (by omega)];exact q)
theorem u7:ZF X (binaryOp .Pow) (rI Nc λi j=>.int (i^j.toNat)):=Gj λ_ _ _ _ _ _ _ hc q=>pow_int_small hc.1 hc.2.1 hc.2.2 q
theorem unI {f:Value->Sem Value} {g:Int->Int}
   (rule:∀(i:Int) (t:Tok) (s:Shared) (Q:Value->Shared->Prop) (E:Value->Shared->Prop),Q (.int (g i) s.toks) {s with toks:=s.toks+1}->wpAny (model X.prog X.w) X.A (f (.int i t)) Q E s):
   R3 X f (rU λi=>.int (g i)):=by
 intro pins s σ H x v Q I rx h
 obtain⟨i,rfl,q⟩:=h
 obtain⟨t,rfl⟩:=rx
 exact rule i t s _ _ ⟨.int (g i),H,I.tok _,⟨_,rfl⟩,q⟩
theorem W8:R3 X (unaryOp .USub) (rU λi=>.int (-i)):=unI λ_ _ _ _ _ q=>neg_int q
end
def K5:V->V->Bool
 | .non,.non=>true | .non,.int _=>true | .int _,.non=>true | .non,.bl _=>true | .bl _,.non=>true | .non,.str _=>true | .str _,.non=>true
 | .int _,.int _=>true | .bl _,.bl _=>true | .str _,.str _=>true | .byt _,.byt _=>true
 | .int _,.str _=>true | .str _,.int _=>true | .bl _,.str _=>true | .str _,.bl _=>true
 | _,_=>false
def rEq:R2:=λx y H Q=>K5 x y=true/\Q (.bl (decide (x=y))) H
def rNe:R2:=λx y H Q=>K5 x y=true/\Q (.bl (!decide (x=y))) H
theorem UH {i j:Int}:decide (V.int i=V.int j)=(i==j):=by
 rw[Bool.eq_iff_iff]
 simp
theorem xu {i j:Bool}:decide (V.bl i=V.bl j)=(i==j):=by
 rw[Bool.eq_iff_iff]
 simp
theorem UG {i j:Str}:decide (V.str i=V.str j)=(i==j):=by
 rw[Bool.eq_iff_iff]
 simp
theorem UI {i j:Array UInt8}:decide (V.byt i=V.byt j)=(i.toList==j.toList):=by
 rw[Bool.eq_iff_iff]
 cases i
 cases j
 simp
section
variable {X:Cx} {a b c:Expr} {ta tb tc:TE} {pos:Pos}
theorem qX {pins:List (Addr×Obj)} {σ:St} {H:Hp} {s:Shared} {Q:VK} {k k':Bool} (I:qx X pins σ H s) (q:Q (.bl k) H) (e:k=k'):EP X pins σ Q (.bool k') s:=by
 subst e
 exact⟨.bl k,H,I,rfl,q⟩
theorem jz:ZF X (compareOp .Eq) rEq:=by
 intro pins s σ H x y v u Q I rx ry h
 obtain⟨hs,q⟩:=h
 cases x with
 | non=>
   cases rx
   cases y with
   | non=>cases ry;exact PySem.EqNone.eq_none_none (qX I q (by simp))
   | bl j=>cases ry;exact PySem.EqNone.eq_none_bool (qX I q (by simp))
   | int j=>obtain⟨t',rfl⟩:=ry;exact PySem.EqNone.eq_none_int (qX I q (by simp))
   | str j=>obtain⟨t',rfl⟩:=ry;exact PySem.EqNone.eq_none_str (qX I q (by simp))
   | _=>exact absurd (show false=true from hs) Bool.false_ne_true
 | bl i=>
   cases rx
   cases y with
   | non=>cases ry;exact PySem.EqNone.eq_bool_none (qX I q (by simp))
   | bl j=>cases ry;exact eq_bool (qX I q xu)
   | str j=>obtain⟨t',rfl⟩:=ry;exact PySem.EqMixed.eq_bool_str (qX I q (by simp))
   | _=>exact absurd (show false=true from hs) Bool.false_ne_true
 | int i=>
   obtain⟨t,rfl⟩:=rx
   cases y with
   | non=>cases ry;exact PySem.EqNone.eq_int_none (qX I q (by simp))
   | int j=>obtain⟨t',rfl⟩:=ry;exact eq_int (qX I q UH)
   | str j=>obtain⟨t',rfl⟩:=ry;exact PySem.EqMixed.eq_int_str (qX I q (by simp))
   | _=>exact absurd (show false=true from hs) Bool.false_ne_true
 | str i=>
   obtain⟨t,rfl⟩:=rx
   cases y with
   | non=>cases ry;exact PySem.EqNone.eq_str_none (qX I q (by simp))
   | bl j=>cases ry;exact PySem.EqMixed.eq_str_bool (qX I q (by simp))
   | int j=>obtain⟨t',rfl⟩:=ry;exact PySem.EqMixed.eq_str_int (qX I q (by simp))
   | str j=>obtain⟨t',rfl⟩:=ry;exact eq_str (qX I q UG)
   | _=>exact absurd (show false=true from hs) Bool.false_ne_true
 | byt i=>
   obtain⟨t,rfl⟩:=rx
   cases y with
   | byt j=>obtain⟨t',rfl⟩:=ry;exact PySem.W.eq_bytes (qX I q UI)
   | _=>exact absurd (show false=true from hs) Bool.false_ne_true
 | _=>cases y<;>exact absurd (show false=true from hs) Bool.false_ne_true
theorem Yh:ZF X (compareOp .NotEq) rNe:=by
 intro pins s σ H x y v u Q I rx ry h
 obtain⟨hs,q⟩:=h
 cases x with
 | non=>
   cases rx
   cases y with
   | non=>cases ry;exact PySem.EqNone.ne_none_none (qX I q (by simp))
   | bl j=>cases ry;exact PySem.EqNone.ne_none_bool (qX I q (by simp))
   | int j=>obtain⟨t',rfl⟩:=ry;exact PySem.EqNone.ne_none_int (qX I q (by simp))
   | str j=>obtain⟨t',rfl⟩:=ry;exact PySem.EqNone.ne_none_str (qX I q (by simp))
   | _=>exact absurd (show false=true from hs) Bool.false_ne_true
 | bl i=>
   cases rx
   cases y with
   | non=>cases ry;exact PySem.EqNone.ne_bool_none (qX I q (by simp))
   | bl j=>cases ry;exact ne_bool (qX I q (congrArg not xu))
   | str j=>obtain⟨t',rfl⟩:=ry;exact PySem.EqMixed.ne_bool_str (qX I q (by simp))
   | _=>exact absurd (show false=true from hs) Bool.false_ne_true
 | int i=>
   obtain⟨t,rfl⟩:=rx
   cases y with
   | non=>cases ry;exact PySem.EqNone.ne_int_none (qX I q (by simp))
   | int j=>obtain⟨t',rfl⟩:=ry;exact ne_int (qX I q (congrArg not UH))
   | str j=>obtain⟨t',rfl⟩:=ry;exact PySem.EqMixed.ne_int_str (qX I q (by simp))
   | _=>exact absurd (show false=true from hs) Bool.false_ne_true
 | str i=>
   obtain⟨t,rfl⟩:=rx
   cases y with
   | non=>cases ry;exact PySem.EqNone.ne_str_none (qX I q (by simp))
   | bl j=>cases ry;exact PySem.EqMixed.ne_str_bool (qX I q (by simp))
   | int j=>obtain⟨t',rfl⟩:=ry;exact PySem.EqMixed.ne_str_int (qX I q (by simp))
   | str j=>obtain⟨t',rfl⟩:=ry;exact ne_str (qX I q (congrArg not UG))
   | _=>exact absurd (show false=true from hs) Bool.false_ne_true
 | byt i=>
   obtain⟨t,rfl⟩:=rx
   cases y with
   | byt j=>obtain⟨t',rfl⟩:=ry;exact PySem.W.ne_bytes (qX I q (congrArg not UI))
   | _=>exact absurd (show false=true from hs) Bool.false_ne_true
 | _=>cases y<;>exact absurd (show false=true from hs) Bool.false_ne_true
theorem Qd:ZF X (compareOp .Lt) (uY λi j=>.bl (decide (i < j))):=u9 λ_ _ _ _ _ _ _ q=>lt_int q
theorem Yi:ZF X (compareOp .Gt) (uY λi j=>.bl (decide (j < i))):=u9 λ_ _ _ _ _ _ _ q=>gt_int q
theorem yf:ZF X (compareOp .GtE) (uY λi j=>.bl (decide (j<=i))):=u9 λ_ _ _ _ _ _ _ q=>ge_int q
theorem Y4:ZF X (compareOp .In) (λx y H Q=>∃i j,x=.str i/\y=.str j/\Q (.bl (!(Builtin.Str.occurrences j i 0 j.length 1).isEmpty)) H):=by
 intro pins s σ H x y v u Q I rx ry h
 obtain⟨i,j,rfl,rfl,q⟩:=h
 obtain⟨t,rfl⟩:=rx
 obtain⟨t',rfl⟩:=ry
 exact in_str (qX I q rfl)
theorem qA (b:Expr) {op:CmpOp} (h:op≠.In:=by decide) (h2:op≠.NotIn:=by decide):behindInMarks op b=false:=by
 have e1:(op==CmpOp.In)=false:=by cases op<;>first | rfl | exact absurd rfl h
 have e2:(op==CmpOp.NotIn)=false:=by cases op<;>first | rfl | exact absurd rfl h2
 cases b<;>simp [behindInMarks,e1,e2]
theorem Zg {op:CmpOp} {r:R2} (ho:ZF X (compareOp op) r) (ha:JE X a ta) (hb:JE X b tb) (hm:behindInMarks op b=false):JE X (.Compare a [op] [b] pos) (Vg r ta tb):=.of (by
 have ha:=ha.to
 have hb:=hb.to
 intro pins s σ H Q I h
 exact wpAny_Compare1 (Kv ha hb I h λv u s2 x y H2 I2 rx ry q=>ho pins s2 σ H2 x y v u Q I2 rx ry q) hm)
def Wh (t:TE):TT:=λσ H Q=>t σ H λx H'=>∃k,x=.bl k/\Q k H'
theorem qp {op:CmpOp} {r:R2} (ho:ZF X (compareOp op) r) (ha:JE X a ta) (hb:JE X b tb) (hm:behindInMarks op b=false):JT X (.Compare a [op] [b] pos) (Wh (Vg r ta tb)):=.of (by
 have ha:=ha.to
 have hb:=hb.to
 intro pins s σ H Q I h
 refine wpAny_isTrue_Compare1 (jg (ha pins s σ H _ I h) λv s1 ⟨x,H1,I1,r1,q1⟩=>jg (hb pins s1 σ H1 _ I1 q1) λu s2 ⟨y,H2,I2,r2,q2⟩=>
   jg (ho pins s2 σ H2 x y v u _ I2 r1 r2 q2) λc s3 ⟨z,H3,I3,r3,k,e,q3⟩=>?_) hm
 subst e
 cases r3
 exact wpAny_truthy_bool ⟨H3,I3,q3⟩)
def kb (r r':R2) (ta tb tc:TE):TE:=λσ H Q=>ta σ H λx H1=>tb σ H1 λy H2=>r x y H2 λz H3=>∃k,z=.bl k/\
 (if k=true then tc σ H3 λw' H4=>r' y w' H4 Q else Q (.bl false) H3)
theorem yO {op op':CmpOp} {r r':R2} (ho:ZF X (compareOp op) r) (ho':ZF X (compareOp op') r') (ha:JE X a ta) (hb:JE X b tb) (hc:JE X c tc) (hm:lastMarks [op,op'] [b,c]=false:=by with_unfolding_all rfl):JE X (.Compare a [op,op'] [b,c] pos) (kb r r' ta tb tc):=.of (by
 have ha:=ha.to
 have hb:=hb.to
 have hc:=hc.to
 intro pins s σ H Q I h
 refine Compare_chain (jg (ha pins s σ H _ I h) λv s1 ⟨x,H1,I1,r1,q1⟩=>chain_link (jg (hb pins s1 σ H1 _ I1 q1) λu s2 ⟨y,H2,I2,r2,q2⟩=>
   jg (ho pins s2 σ H2 x y v u _ I2 r1 r2 q2) λd s3 ⟨z,H3,I3,r3,k,e,q3⟩=>?_)) hm
 subst e
 cases r3
 refine wpAny_truthy_bool ?_
 cases k with
 | false=>exact ite_ff ⟨.bl false,H3,I3,rfl,q3⟩
 | true=>exact ite_tt (chain_last (jg (hc pins s3 σ H3 _ I3 q3) λw' s4 ⟨z',H4,I4,r4,q4⟩=>ho' pins s4 σ H4 y z' u w' Q I4 r2 r4 q4)))
theorem yE {op op':CmpOp} {r r':R2} (ho:ZF X (compareOp op) r) (ho':ZF X (compareOp op') r') (ha:JE X a ta) (hb:JE X b tb) (hc:JE X c tc) (hm:lastMarks [op,op'] [b,c]=false:=by with_unfolding_all rfl):JT X (.Compare a [op,op'] [b,c] pos) (Wh (kb r r' ta tb tc)):=.of (by
 have ha:=ha.to
 have hb:=hb.to
 have hc:=hc.to
 intro pins s σ H Q I h
 refine isTrue_chain (jg (ha pins s σ H _ I h) λv s1 ⟨x,H1,I1,r1,q1⟩=>test_link (jg (hb pins s1 σ H1 _ I1 q1) λu s2 ⟨y,H2,I2,r2,q2⟩=>
   jg (ho pins s2 σ H2 x y v u _ I2 r1 r2 q2) λd s3 ⟨z,H3,I3,r3,k,e,q3⟩=>?_)) hm
 subst e
 cases r3
 refine wpAny_truthy_bool ?_
 cases k with
 | false=>
   obtain⟨k',e',q'⟩:=q3
   cases e'
   exact ite_ff ⟨H3,I3,q'⟩
 | true=>
   refine ite_tt (test_last (jg (hc pins s3 σ H3 _ I3 q3) λw' s4 ⟨z',H4,I4,r4,q4⟩=>jg (ho' pins s4 σ H4 y z' u w' _ I4 r2 r4 q4) λd' s5 ⟨z2,H5,I5,r5,k2,e2,q5⟩=>?_))
   subst e2
   cases r5
   exact wpAny_truthy_bool ⟨H5,I5,q5⟩)
theorem zm:(sizeLine:Nat) < 2^63:=by rw[sizeLine_eq];decide
theorem qV:ZF X (binaryOp .Add) (λx y H Q=>∃i j,x=.str i/\y=.str j/\i.length+j.length<=sizeLine/\Q (.str (i++j)) H):=by
 intro pins s σ H x y v u Q I rx ry h
 obtain⟨i,j,rfl,rfl,hz,q⟩:=h
 obtain⟨t,rfl⟩:=rx
 obtain⟨t',rfl⟩:=ry
 exact add_str (λt' tk=>⟨.str (i++j),H,I.tok _,⟨_,rfl⟩,q⟩) hz
theorem QU {x:V} {us:List Value} (r:qD [x] us):∃u,us=[u]/\qN x u:=by
 cases r with
 | cons r1 r2=>cases r2;exact⟨_,rfl,r1⟩
theorem VY {x y:V} {us:List Value} (r:qD [x,y] us):∃u w',us=[u,w']/\qN x u/\qN y w':=by
 cases r with
 | cons r1 r2=>
   cases r2 with
   | cons r3 r4=>cases r4;exact⟨_,_,rfl,r1,r3⟩
theorem Xf (hc:X.calm=true):Qr X (.builtin "max") (λxs H Q=>∃i j,xs=[.int i,.int j]/\Q (.int (if j > i then j else i)) H):=by
 intro pins s σ H xs us Q I r h
 obtain⟨i,j,rfl,q⟩:=h
 obtain⟨u,w',rfl,⟨t,rfl⟩,⟨t',rfl⟩⟩:=VY r
 refine max_two_ints (I.ok.hd hc) λh' tk k=>⟨_,H,I.kept k,?_,q⟩
 by_cases hj:j > i
 . rw[if_pos hj,if_pos hj];exact⟨_,rfl⟩
 . rw[if_neg hj,if_neg hj];exact⟨_,rfl⟩
theorem vH (hc:X.calm=true):Qr X (.builtin "min") (λxs H Q=>∃i j,xs=[.int i,.int j]/\Q (.int (if j < i then j else i)) H):=by
 intro pins s σ H xs us Q I r h
 obtain⟨i,j,rfl,q⟩:=h
 obtain⟨u,w',rfl,⟨t,rfl⟩,⟨t',rfl⟩⟩:=VY r
 refine min_two_ints (I.ok.hd hc) λh' tk k=>⟨_,H,I.kept k,?_,q⟩
 by_cases hj:j < i
 . rw[if_pos hj,if_pos hj];exact⟨_,rfl⟩
 . rw[if_neg hj,if_neg hj];exact⟨_,rfl⟩
theorem vI:Qr X (.type "int") (λxs H Q=>(∃i,xs=[.int i]/\Q (.int i) H)\/∃k,xs=[.bl k]/\Q (.int (if k then 1 else 0)) H):=by
 intro pins s σ H xs us Q I r h
 rcases h with ⟨i,rfl,q⟩ | ⟨k,rfl,q⟩
 . obtain⟨u,rfl,t,rfl⟩:=QU r
   exact call_int_int ⟨.int i,H,I,⟨_,rfl⟩,q⟩
 . obtain⟨u,rfl,r1⟩:=QU r
   cases r1
   exact call_int_bool ⟨.int (if k then 1 else 0),H,I.tok _,⟨_,rfl⟩,q⟩
end
end L2
namespace L2
open PySem PySem.Spec PyProof.Rows
structure VT (h:Heap) (x dx C:Addr) (mA:Str->Option Value):Prop where
 obj:h.get? x=some (PySem.W.instObj C dx)
 ns:h.Ns1 dx mA
 ne:dx≠x
theorem zk {h:Heap} {dx:Addr} {mA:Str->Option Value} (n:h.Ns1 dx mA):∃od,h.get? dx=some od/\∀name,PySem.W.lookIn name od=some (mA name):=by
 obtain⟨o,es,ep,ho,hd,hk,_,hm⟩:=n
 refine⟨o,ho,λname=>?_⟩
 have e:=hm name
 unfold nsFind findBy at e
 rw[<-Array.find?_toList]at e
 unfold PySem.W.lookIn
 rw[hd]
 dsimp only
 split
 . rename_i y q
   rw[q]at e
   exact congrArg some e
 . rename_i q
   rw[q]at e
   have a:es.toList.any (·.refKey)=false:=by
     rw[List.any_eq_false]
     intro y hy
     obtain⟨z,t,hkey⟩:=hk y (Array.mem_toList_iff.mp hy)
     simp [DictEntry.refKey,hkey]
   have a':¬es.toList.any (·.refKey)=true:=by rw[a];exact Bool.false_ne_true
   rw[if_neg a']
   exact congrArg some e
theorem VT.look {h:Heap} {x dx C:Addr} {mA:Str->Option Value} (I:VT h x dx C mA):∃od,PySem.W.InstAt h x (PySem.W.instObj C dx) C (some od)/\∀name,PySem.W.lookIn name od=some (mA name):=
 let ⟨od,ho,hl⟩:=zk I.ns
 ⟨od,⟨I.obj,rfl,rfl,ho⟩,hl⟩
section
variable {prog:Program} {w:World} {A:Around} {E:Value->Shared->Prop} {s:Shared} {K:PySem.W.Frag} {x dx C f:Addr} {mA:Str->Option Value} {name:Str} {v:Value}
theorem wN {expr:Bool} {Q:Value->Shared->Prop} (X:K.In s.heap) (I:VT s.heap x dx C mA) (hg:PySem.W.plainGet K C name=true) (hh:PySem.W.hasDictIn K C=true)
   (ha:PySem.W.findIn K (.ref C) name=some none) (hv:mA name=some v) (hv':PySem.W.handedIn v=true) (h:Q v {s with toks:=s.toks+1}):
   wpAny (model prog w) A (getAttr (.ref x) name expr) Q E s:=by
 obtain⟨od,J,hl⟩:=I.look
 exact PySem.W.get_value X J (PySem.W.plainGet_of hg).1 (PySem.W.findObj_own hh ha rfl (by rw[hl,hv])) hv' h
theorem xb {pl:Sem Bool} {Q:Value×List Value->Shared->Prop} (X:K.In s.heap) (I:VT s.heap x dx C mA) (hg:PySem.W.plainGet K C name=true)
   (hf:PySem.W.findIn K (.ref C) name=some (some (.ref f))) (ht:PySem.W.isFn K (.ref f)=true) (hv:mA name=none) (h:Q (.ref f,[.ref x]) s):
   wpAny (model prog w) A (getMethod (.ref x) name pl) Q E s:=by
 obtain⟨od,J,hl⟩:=I.look
 exact PySem.W.method_fn X J (PySem.W.plainGet_of hg).1 (PySem.W.plainGet_of hg).2 hf (beq_iff_eq.mp ht) (by show (PySem.W.lookIn name od).map (·.isSome)=some false;rw[hl,hv];rfl) h
theorem xX {ns:List Str} {Q:Unit->Shared->Prop} (X:K.In s.heap) (I:VT s.heap x dx C mA)
   (hs:PySem.W.findIn K (.ref C) "__setattr__"=some (some (.builtin "object.__setattr__"))) (hp:PySem.W.plainOver K C=true) (ht:PySem.W.takerIn K C name=some none) (hh:PySem.W.hasDictIn K C=true)
   (hw:PySem.Within mA ns) (hsz:ns.length<=sizeLine)
   (h:∀h',VT h' x dx C (λy=>if y=name then some v else mA y)->Heap.SameBut dx s.heap h'->Q () {s with heap:=h',toks:=s.toks+2}):
   wpAny (model prog w) A (setAttr (.ref x) name v) Q E s:=by
 obtain⟨od,J,hl⟩:=I.look
 refine PySem.W.set_plain X J hs (PySem.W.osa_open (s:={s with toks:=s.toks+1}) (r:=none) X J hp ht λb=>?_)
 obtain⟨cd,hc,hd'⟩:=PySem.W.any_some hh
 have hx:s.heap.get? x=some ⟨.ref C,some dx,.plain,#[]⟩:=I.obj
 refine wpAny_bind (wpAny_pure (wpAny_bind (wpAny_bind (wpAny_loadPart hx (wpAny_bind (PySem.W.Looks.here (s:={s with toks:=s.toks+1}) (PySem.W.looks_clsIn X hc) ?_))))))
 rw[hd']
 refine wpAny_pure (a:=some dx) (wpAny_bind (wpAny_pure (wpAny_bind ?_)))
 refine wpAny_nsSet1 (s:={s with toks:=s.toks+1}) I.ns λh' hn2 hs2=>?_
 obtain⟨oD,esD,epD,hoD,hdD,hcD⟩:=hn2.count (PySem.Within.cons name v hw)
 refine wpAny_bind (wpAny_lookBehind hoD (by rw[hdD];exact pastItsLine_dict (Nat.le_trans hcD (by rw[List.length_cons];omega))) ?_)
 exact wpAny_pure (h _ ⟨(hs2.2 _ (Ne.symm I.ne)).trans I.obj,hn2,I.ne⟩ hs2)
theorem WH {R:Result->Shared->Prop} {vs:List Value} {kw:List (Str×Value)} (X:K.In s.heap) (hm:PySem.W.makesIn K C=true)
   (hi:PySem.W.findIn K (.ref C) "__init__"=some (some (.ref f))) (hf:PySem.W.typeIn K (.ref f)=some (.type "function"))
   (h:codeAny (model prog w) (A.under (.builtin "type.__call__" ⟨.ref C::vs,kw⟩)) (.call (.ref f) ⟨.ref (s.heap.objs.size+1)::vs,kw⟩) (PySem.W.InitBack (s.heap.objs.size+1) R)
     {s with heap:=(s.heap.push PySem.W.emptyDict).push (PySem.W.instObj C s.heap.objs.size)}):
   codeAny (model prog w) A (.call (.ref C) ⟨vs,kw⟩) R s:=by
 obtain⟨hh,g,d,t,os⟩:=s
 exact PySem.W.make_core (PySem.W.makes_of X hm) (PySem.W.looks_findIn X hi) (λself=>PySem.W.bind_fn X self hf) (.inl rfl) h
end
def Jn (f:Str) (v:V):List (Str×V)->List (Str×V)
 | []=>[(f,v)]
 | (g,x)::r=>if g=f then (g,v)::r else (g,x)::Jn f v r
theorem zF (f g:Str) (v:V):∀fs:List (Str×V),(Jn f v fs).lookup g=if g=f then some v else fs.lookup g
 | []=>by
   show List.lookup g [(f,v)]=_
   by_cases h:g=f
   . have hb:(g==f)=true:=beq_iff_eq.mpr h
     simp only[List.lookup,hb,if_pos h]
   . have hb:(g==f)=false:=beq_eq_false_iff_ne.mpr h
     simp only[List.lookup,hb,if_neg h]
 | (k,x)::r=>by
   have ih:=zF f g v r
   rw[show Jn f v ((k,x)::r)=(if k=f then (k,v)::r else (k,x)::Jn f v r) from rfl]
   by_cases hk:k=f
   . rw[if_pos hk]
     by_cases h:g=k
     . have hb:(g==k)=true:=beq_iff_eq.mpr h
       simp only[List.lookup,hb,if_pos (h.trans hk)]
     . have hb:(g==k)=false:=beq_eq_false_iff_ne.mpr h
       simp only[List.lookup,hb,if_neg (λe:g=f=>h (e.trans hk.symm))]
   . rw[if_neg hk]
     by_cases h:g=k
     . have hb:(g==k)=true:=beq_iff_eq.mpr h
       simp only[List.lookup,hb,if_neg (λe:g=f=>hk (h.symm.trans e))]
     . have hb:(g==k)=false:=beq_eq_false_iff_ne.mpr h
       simp only[List.lookup,hb]
       exact ih
theorem zo (f:Str) (v:V):∀fs:List (Str×V),f∈(Jn f v fs).map (·.1)/\∀g,g∈fs.map (·.1)->g∈(Jn f v fs).map (·.1)
 | []=>⟨by simp [Jn],λg h=>by simp at h⟩
 | (k,x)::r=>by
   obtain⟨i1,i2⟩:=zo f v r
   rw[show Jn f v ((k,x)::r)=(if k=f then (k,v)::r else (k,x)::Jn f v r) from rfl]
   by_cases hk:k=f
   . rw[if_pos hk]
     subst hk
     exact⟨by simp,λg h=>by simpa using h⟩
   . rw[if_neg hk]
     refine⟨?_,λg h=>?_⟩
     . rw[List.map_cons]
       exact List.mem_cons_of_mem _ i1
     . rw[List.map_cons]at h ⊢
       rcases List.mem_cons.mp h with e | e
       . exact List.mem_cons.mpr (.inl e)
       . exact List.mem_cons_of_mem _ (i2 g e)
theorem zG (f:Str) (v:V):∀fs:List (Str×V),(Jn f v fs).length<=fs.length+1
 | []=>by simp [Jn]
 | (k,x)::r=>by
   have ih:=zG f v r
   rw[show Jn f v ((k,x)::r)=(if k=f then (k,v)::r else (k,x)::Jn f v r) from rfl]
   by_cases hk:k=f
   . rw[if_pos hk,List.length_cons,List.length_cons];omega
   . rw[if_neg hk,List.length_cons,List.length_cons];omega
theorem JF.some_of {v:V} {o:Option Value} (r:JF (some v) o):∃u,o=some u/\qN v u:=by
 cases o with
 | none=>exact(show False from r).elim
 | some u=>exact⟨u,rfl,r⟩
theorem JF.none_of {o:Option Value} (r:JF none o):o=none:=by
 cases o with
 | none=>rfl
 | some u=>exact(show False from r).elim
theorem Xd {v:V} {u:Value} (r:qN v u):PySem.W.handedIn u=true:=by
 cases v with
 | non=>cases (show u=Value.none from r);rfl
 | bl b=>cases (show u=Value.bool b from r);rfl
 | int i=>obtain⟨t,e⟩:=(show ∃t,u=Value.int i t from r);cases e;rfl
 | str x=>obtain⟨t,e⟩:=(show ∃t,u=Value.str x t from r);cases e;rfl
 | byt b=>obtain⟨t,e⟩:=(show ∃t,u=Value.bytes b t from r);cases e;rfl
 | flt b=>obtain⟨t,e⟩:=(show ∃t,u=Value.float b t from r);cases e;rfl
 | ref a=>cases (show u=Value.ref a from r);rfl
 | ty n=>cases (show u=Value.type n from r);rfl
section
variable {P:Program} {w:World} {H H':Hp} {h h':Heap} {a C dx:Addr} {fs fs':List (Str×V)}
theorem zV (hok:JJ P w H h) (e:H a=some (.ins C dx fs)):∃mA,VT h a dx C mA/\(∀f,JF (fs.lookup f) (mA f))/\PySem.Within mA (fs.map (·.1))/\fs.length<=1000/\H dx=some (.own a):=by
 obtain⟨d,z,ne,ob,mA,n,r,q⟩:=(show qI P w H h a (.ins C dx fs) from hok a _ e)
 exact⟨mA,⟨ob,n,ne⟩,r,q,z,d⟩
end
structure vN (K:PySem.W.Frag) (C:Addr):Prop where
 pg:PySem.W.plainGet K C Str.empty=true
 hd:PySem.W.hasDictIn K C=true
 po:PySem.W.plainOver K C=true
 sa:PySem.W.findIn K (.ref C) "__setattr__"=some (some (.builtin "object.__setattr__"))
theorem vN.get {K:PySem.W.Frag} {C:Addr} (c:vN K C) (f:Str):PySem.W.plainGet K C f=true:=c.pg
def Qi (K:PySem.W.Frag) (C:Addr) (f:Str):Prop:=PySem.W.findIn K (.ref C) f=some none
theorem Qi.taker {K:PySem.W.Frag} {C:Addr} {f:Str} (n:Qi K C f):PySem.W.takerIn K C f=some none:=by
 unfold PySem.W.takerIn
 rw[show PySem.W.findIn K (.ref C) f=some none from n]
 rfl
structure Con (K:PySem.W.Frag) (C:Addr) (f:Str) (v:V) (u:Value):Prop where
 at_:PySem.W.findIn K (.ref C) f=some (some u)
 rel:qN v u
 get:PySem.W.specialIn K u "__get__"=some none
 cp:PySem.W.copiedNames.contains f=false
structure w4 (K:PySem.W.Frag) (C:Addr) (m:Str) (f:Addr):Prop where
 at_:PySem.W.findIn K (.ref C) m=some (some (.ref f))
 fn:PySem.W.isFn K (.ref f)=true
 kp:PySem.W.keepIn K (.ref f)=true
section
variable {X:Cx} {pins:List (Addr×Obj)} {σ:St} {H:Hp} {s:Shared} {a C dx:Addr} {fs:List (Str×V)} {f:Str} {v:V} {A:Around} {E:Value->Shared->Prop}
theorem VH {b:Bool} {Q:Value->Shared->Prop} (I:qx X pins σ H s) (e:H a=some (.ins C dx fs)) (c:vN X.K C) (n:Qi X.K C f) (l:fs.lookup f=some v)
   (h:∀u s',qx X pins σ H s'->qN v u->Q u s'):wpAny (model X.prog X.w) A (getAttr (.ref a) f b) Q E s:=by
 obtain⟨mA,O,r,_,_,_⟩:=zV I.hok e
 obtain⟨u,hu,ru⟩:=JF.some_of (v:=v) (o:=mA f) (by rw[<-l];exact r f)
 exact wN I.kIn O (c.get f) c.hd n hu (Xd ru) (h u _ (I.tok _) ru)
theorem VG {m:Str} {g:Addr} {pl:Sem Bool} {Q:Value×List Value->Shared->Prop} (I:qx X pins σ H s) (e:H a=some (.ins C dx fs)) (c:vN X.K C) (k:w4 X.K C m g) (l:fs.lookup m=none)
   (h:Q (.ref g,[.ref a]) s):wpAny (model X.prog X.w) A (getMethod (.ref a) m pl) Q E s:=by
 obtain⟨mA,O,r,_,_,_⟩:=zV I.hok e
 have hn:mA m=none:=JF.none_of (by rw[<-l];exact r m)
 exact xb I.kIn O (c.get m) k.at_ k.fn hn h
theorem Vq {y:V} {u:Value} {Q:Unit->Shared->Prop} (I:qx X pins σ H s) (e:H a=some (.ins C dx fs)) (c:vN X.K C) (n:Qi X.K C f) (hl:fs.length < 1000) (ry:qN y u)
   (h:∀s',qx X pins σ (upd H a (.ins C dx (Jn f y fs))) s'->Q () s'):wpAny (model X.prog X.w) A (setAttr (.ref a) f u) Q E s:=by
 obtain⟨mA,O,r,wi,_,ho⟩:=zV I.hok e
 have hz:(fs.map (·.1)).length<=sizeLine:=by rw[List.length_map,sizeLine_eq];omega
 refine xX I.kIn O c.sa c.po n.taker c.hd wi hz λh' O' sb=>h _ ?_
 have hd:∃o,h'.get? dx=some o:=let ⟨o,_,_,e',_⟩:=O'.ns;⟨o,e'⟩
 refine I.write (x:=a) (e:=dx) (by rw[e];exact True.intro) (.inr ho) (λb q hb z=>(sb.2 b hb).trans z) hd ?_
 refine⟨by rw[qg O.ne];exact ho,?_,O.ne,O'.obj,_,O'.ns,λg=>?_,λg hg=>?_⟩
 . have:=zG f y fs;omega
 . show JF ((Jn f y fs).lookup g) (if g=f then some u else mA g)
   rw[zF]
   by_cases q:g=f
   . rw[if_pos q,if_pos q];exact ry
   . rw[if_neg q,if_neg q];exact r g
 . by_cases q:g=f
   . rw[q];exact(zo f y fs).1
   . refine(zo f y fs).2 g (wi g λz=>hg ?_)
     show (if g=f then some u else mA g)=none
     rw[if_neg q];exact z
theorem qx.made (I:qx X pins σ H s):qx X pins σ (upd (upd H s.heap.objs.size (.own (s.heap.objs.size+1))) (s.heap.objs.size+1) (.ins C s.heap.objs.size []))
   {s with heap:=(s.heap.push PySem.W.emptyDict).push (PySem.W.instObj C s.heap.objs.size)}:=by
 have e1:(s.heap.push PySem.W.emptyDict).get? s.heap.objs.size=some PySem.W.emptyDict:=Heap.get?_push_size s.heap rfl
 have e2:((s.heap.push PySem.W.emptyDict).push (PySem.W.instObj C s.heap.objs.size)).get? (s.heap.objs.size+1)=some (PySem.W.instObj C s.heap.objs.size):=by
   have:=Heap.get?_push_size (s.heap.push PySem.W.emptyDict) (o:=PySem.W.instObj C s.heap.objs.size) rfl
   rwa [Heap.size_push]at this
 have e3:(s.heap.push PySem.W.emptyDict).Ns s.heap.objs.size (λ_=>none):=⟨PySem.W.emptyDict,#[],_,e1,rfl,(λe he=>absurd he (by simp)),λ_=>rfl⟩
 have I1:=I.laid (a:=s.heap.objs.size) (o:=.own (s.heap.objs.size+1)) (h':=s.heap.push PySem.W.emptyDict) (t':=s.toks) (λb u q=>Heap.get?_push_of_some _ q) (Nat.le_refl _) ⟨_,e1⟩
 refine I1.laid (a:=s.heap.objs.size+1) (o:=.ins C s.heap.objs.size []) (t':=s.toks) (λb u q=>Heap.get?_push_of_some _ q) (Nat.le_of_eq (Heap.size_push _ _)) ?_
 have ne:s.heap.objs.size≠s.heap.objs.size+1:=Nat.ne_of_lt (Nat.lt_succ_self _)
 refine⟨by rw[qg ne,qd],Nat.zero_le _,ne,e2,λ_=>none,(Heap.Ns1.of_empty e3).at λo q=>Heap.get?_push_of_some _ q,λ_=>True.intro,λy hy=>absurd rfl hy⟩
theorem UL {prog:Program} {w:World} {env:Env} {e:Expr} {f:Str} {pos:Pos} {s:Shared} {Q:Value->Shared->Prop} (hb:attributeBase e f env (eval e env)=eval e env)
   (h:wpAny (model prog w) A (eval e env) (λo s₁=>wpAny (model prog w) A (getAttr o f true) Q E s₁) E s):wpAny (model prog w) A (eval (.Attribute e f pos) env) Q E s:=
 Attribute_any_ h (by rw[arm_eval_Attribute,hb])
end
def KS (K:PySem.W.Frag) (ta:TE) (f:Str):TE:=λσ H Q=>ta σ H λx H1=>∃a C dx fs v,x=.ref a/\H1 a=some (.ins C dx fs)/\vN K C/\Qi K C f/\fs.lookup f=some v/\Q v H1
def RB (K:PySem.W.Frag) (ta tv:TE) (f:Str):TS:=λD σ H=>tv σ H λy H1=>ta σ H1 λx H2=>∃a C dx fs,x=.ref a/\H2 a=some (.ins C dx fs)/\vN K C/\Qi K C f/\fs.length < 1000/\
 D.nx σ (upd H2 a (.ins C dx (Jn f y fs)))
section
variable {X:Cx} {o e value:Expr} {f:Str} {pos pos' tpos:Pos} {ta tv:TE}
theorem XH (he:JE X e ta) (hb:attributeBase e f X.env (eval e X.env)=eval e X.env):JE X (.Attribute e f pos) (KS X.K ta f):=.of (by
 have he:=he.to
 intro pins s σ H Q I h
 refine UL hb (jg (he pins s σ H _ I h) λu s1 ⟨x,H1,I1,rx,a,C,dx,fs,v,ex,ea,c,n,l,q⟩=>?_)
 subst ex
 obtain rfl:u=Value.ref a:=rx
 exact VH I1 ea c n l λu' s2 I2 ru=>⟨v,H1,I2,ru,q⟩)
theorem yH (ha:JE X o ta) (hv:JE X value tv) (hs:swapsWith value (some (.Attribute o f pos')) pos.line X.env=pure false):JS X (.Assign [.Attribute o f pos'] value pos) (RB X.K ta tv f):=.of (by
 have ha:=ha.to
 have hv:=hv.to
 intro pins s σ H D I h
 refine plainObj_wpAny_Assign_Attribute (jg (hv pins s σ H _ I h) λu s1 ⟨y,H1,I1,ry,q⟩=>jg (ha pins s1 σ H1 _ I1 q) λov s2 ⟨x,H2,I2,rx,a,C,dx,fs,ex,ea,c,n,l,q2⟩=>?_) hs
 subst ex
 obtain rfl:ov=Value.ref a:=rx
 exact Vq I2 ea c n l ry λs3 I3=>⟨σ,_,I3,q2⟩)
end
section
variable {X:Cx} {pins:List (Addr×Obj)} {σ:St} {H:Hp} {s:Shared} {A:Around} {E:Value->Shared->Prop} {Q:Value->Shared->Prop} {c:Value} {b:Bool}
inductive ZD (K:PySem.W.Frag) (H:Hp):V->Value->Prop where
 | non:ZD K H .non (.type "NoneType")
 | bl (x:Bool):ZD K H (.bl x) (.type "bool")
 | int (i:Int):ZD K H (.int i) (.type "int")
 | str (x:Str):ZD K H (.str x) (.type "str")
 | flt (x:UInt64):ZD K H (.flt x) (.type "float")
 | lst {a:Addr} {xs:List V} (e:H a=some (.lst xs)):ZD K H (.ref a) (.type "list")
 | frz {a:Addr} {o:Obj} {xs:List V} (e:H a=some (.frz o (.lst xs))):ZD K H (.ref a) (.type "list")
 | tup {a:Addr} {xs:List V} (e:H a=some (.tup xs)):ZD K H (.ref a) (.type "tuple")
 | dK {a:Addr} {kvs:List (ja×V)} (e:H a=some (.dK kvs)):ZD K H (.ref a) (.type "dict")
 | dT {a:Addr} {kvs:List (List ja×V)} (e:H a=some (.dT kvs)):ZD K H (.ref a) (.type "dict")
 | ins {a C dx:Addr} {fs:List (Str×V)} (e:H a=some (.ins C dx fs)) (cl:vN K C) (ha:PySem.W.findIn K (.ref C) "__class__"=some (some (.builtin "object.__class__")))
     (hn:PySem.W.specialIn K (.builtin "object.__class__") "__get__"=some (some (.builtin "getset_descriptor.__get__"))) (htk:PySem.W.takesIn K (.builtin "object.__class__")=some true)
     (hm:PySem.W.mroIn K C (.type "object")=some true):ZD K H (.ref a) (.ref C)
theorem vn {x:V} {u t:Value} (I:qx X pins σ H s) (rx:qN x u) (ty:ZD X.K H x t) (e:PySem.W.kitOne X.K t c=some b) (h:∀tk,Q (.bool b) {s with toks:=tk}):
   wpAny (model X.prog X.w) A (call (.builtin "isinstance") [u,c]) Q E s:=by
 cases ty with
 | non=>cases (show u=Value.none from rx);exact PySem.W.kia_one PySem.W.kitx_none I.kIn True.intro e (λz=>nomatch z) h
 | bl y=>cases (show u=Value.bool y from rx);exact PySem.W.kia_one PySem.W.kitx_bool I.kIn True.intro e (λz=>nomatch z) h
 | int i=>obtain⟨t,q⟩:=(show ∃t,u=Value.int i t from rx);cases q;exact PySem.W.kia_one PySem.W.kitx_int I.kIn True.intro e (λz=>nomatch z) h
 | str y=>obtain⟨t,q⟩:=(show ∃t,u=Value.str y t from rx);cases q;exact PySem.W.kia_one PySem.W.kitx_str I.kIn True.intro e (λz=>nomatch z) h
 | flt y=>obtain⟨t,q⟩:=(show ∃t,u=Value.float y t from rx);cases q;exact PySem.W.kia_one PySem.W.kitx_float I.kIn True.intro e (λz=>nomatch z) h
 | @lst a xs ea=>
   cases (show u=Value.ref a from rx)
   obtain⟨_,_,n,_,h1⟩:=(show qI X.prog X.w H s.heap a (.lst xs) from I.hok a _ ea)
   exact PySem.W.kia_one PySem.W.kitx_list I.kIn ⟨_,h1,rfl⟩ e (λz=>nomatch z) h
 | @frz a ob xs ea=>
   cases (show u=Value.ref a from rx)
   obtain⟨_,_,_,n,_,h1⟩:=(show qI X.prog X.w H s.heap a (.frz ob (.lst xs)) from I.hok a _ ea)
   exact PySem.W.kia_one PySem.W.kitx_list I.kIn ⟨_,h1,rfl⟩ e (λz=>nomatch z) h
 | @tup a xs ea=>
   cases (show u=Value.ref a from rx)
   obtain⟨_,_,_,p⟩:=(show qI X.prog X.w H s.heap a (.tup xs) from I.hok a _ ea)
   obtain⟨o,h1,h2,_⟩:=p
   exact PySem.W.kia_one PySem.W.kitx_tuple I.kIn ⟨o,h1,h2⟩ e (λz=>nomatch z) h
 | @dK a kvs ea=>
   cases (show u=Value.ref a from rx)
   obtain⟨_,_,vs,_,p⟩:=(show qI X.prog X.w H s.heap a (.dK kvs) from I.hok a _ ea)
   obtain⟨o,es,ep,h1,h2,_⟩:=p
   exact PySem.W.kia_one PySem.W.kitx_dict I.kIn ⟨o,h1,h2.1⟩ e (λz=>nomatch z) h
 | @dT a kvs ea=>
   cases (show u=Value.ref a from rx)
   obtain⟨_,_,xs,_,o,es,ep,h1,h2,_⟩:=(show qI X.prog X.w H s.heap a (.dT kvs) from I.hok a _ ea)
   exact PySem.W.kia_one PySem.W.kitx_dict I.kIn ⟨o,h1,h2.1⟩ e (λz=>nomatch z) h
 | @ins a C dx fs ea cl ha hn htk hm=>
   cases (show u=Value.ref a from rx)
   obtain⟨mA,O,_⟩:=zV I.hok ea
   obtain⟨od,J,_⟩:=O.look
   exact PySem.W.kia_one (PySem.W.kitx_own (cl.get _) cl.hd ha hn htk hm) I.kIn J e (λz=>nomatch z) h
end
end L2
namespace L2
open PySem PySem.Spec PyProof.Rows
structure qZ (k:Nat) (A:Around):Prop where
 hd:A.handled=none
 dp:A.depth+3*k+5 < recursionLimit
 un:A.units+16*k+200 < cLine
 gd:A.guards=some []
theorem qZ.mono {j k:Nat} {A:Around} (r:qZ k A) (h:j<=k):qZ j A:=⟨r.hd,by have:=r.dp;omega,by have:=r.un;omega,r.gd⟩
theorem qZ.deeper {k:Nat} {A:Around} (r:qZ (k+1) A) (env:Env):qZ k (A.deeper env):=
 ⟨r.hd,by have:=r.dp;show A.depth+1+3*k+5 < _;omega,by have:=r.un;show A.units+3+16*k+200 < _;omega,r.gd⟩
theorem VC {A:Around} {C:Addr} {us:List Value} {kw:List (Str×Value)}:(A.under (.builtin "type.__call__" ⟨.ref C::us,kw⟩)).depth=A.depth+1:=by
 first | rfl | simp [Around.under,Code.weight,Code.isCreation,Code.isGuard,Code.isCaller,Code.frames,Code.isFrame,guardIds]
theorem VB {A:Around} {C:Addr} {us:List Value} {kw:List (Str×Value)}:(A.under (.builtin "type.__call__" ⟨.ref C::us,kw⟩)).units=A.units+1:=by
 first | rfl | simp [Around.under,Code.cUnits,Code.frames,Code.isFrame]
theorem qZ.make {k:Nat} {A:Around} (r:qZ (k+1) A) (C:Addr) (us:List Value) (kw:List (Str×Value)):qZ k (A.under (.builtin "type.__call__" ⟨.ref C::us,kw⟩)):=
 ⟨r.hd,by have:=r.dp;rw[VC];omega,by have:=r.un;rw[VB];omega,(by have:=r.gd;first | exact this | simpa [Around.under,Code.isGuard,guardIds] using this)⟩
theorem qZ.depth {k:Nat} {A:Around} (r:qZ k A):A.depth < recursionLimit:=by have:=r.dp;omega
theorem qZ.units {k:Nat} {A:Around} (r:qZ k A):A.units+64 < cLine:=by have:=r.un;omega
theorem qZ.units0 {k:Nat} {A:Around} (r:qZ k A):A.units < cLine:=by have:=r.un;omega
def jJ:TA:=λ_ H Q=>Q [] H
def jc (ta:TE) (tr:TA):TA:=λσ H Q=>ta σ H λx H1=>tr σ H1 λxs H2=>Q (x::xs) H2
section
variable {X:Cx} {e:Expr} {es:List Expr} {te:TE} {t:TA} {pos:Pos}
theorem qe:JA X [] jJ:=.of (by
 exact λ_ _ _ _ H Q I h=>Calls.spliced_nil ⟨[],H,I,.nil,h⟩)
theorem qb (ha:JE X e te) (hr:JA X es t) (hs:starEach (e::es) X.env=(false,eval e X.env)::starEach es X.env:=by rfl):JA X (e::es) (jc te t):=.of (by
 have ha:=ha.to
 have hr:=hr.to
 intro pos pins s σ H Q I h
 rw[hs]
 show wpAny _ _ (spliced ((false,eval e X.env)::backTo pos (starEach es X.env))) _ _ s
 refine Calls.spliced_cons (jg (ha pins s σ H _ I h) λu s1 ⟨x,H1,I1,r1,q1⟩=>?_)
 exact jg (hr pos pins s1 σ H1 _ I1 q1) λus s2 ⟨xs,H2,I2,r2,q2⟩=>⟨x::xs,H2,I2,.cons r1 r2,q2⟩)
def uC (t:TA):TE:=λσ H Q=>t σ H λxs H1=>xs.length<=sizeLine/\∀p,H1 p=none->Q (.ref p) (upd H1 p (.tup xs))
def vY (t:TA):TE:=λσ H Q=>t σ H λxs H1=>xs.length<=sizeLine/\∀p,H1 p=none->Q (.ref p) (upd H1 p (.lst xs))
theorem Q5 {x1} (h:JA X es t):JE X (.Tuple es x1 pos) (uC t):=.of (by
 have h:=h.to
 intro pins s σ H Q I hq
 refine wpAny_Tuple_spliced (jg (h pos pins s σ H _ I hq) λus s1 ⟨xs,H1,I1,r,z,q⟩=>⟨by rw[<-r.length];exact z,?_⟩)
 have hf:H1 s1.heap.objs.size=none:=I1.hok.fresh (Nat.le_refl _)
 refine⟨.ref s1.heap.objs.size,upd H1 s1.heap.objs.size (.tup xs),I1.laid (t':=s1.toks) (λb u e=>Heap.get?_push_of_some _ e) (Nat.le_refl _) ?_,rfl,q _ hf⟩
 exact⟨z,us,r,⟨_,Heap.get?_push_size _ rfl,rfl,_,rfl⟩⟩)
theorem qW (h:JA X es t):JE X (.List es pos) (vY t):=.of (by
 have h:=h.to
 intro pins s σ H Q I hq
 refine wpAny_List_spliced (jg (h pos pins s σ H _ I hq) λus s1 ⟨xs,H1,I1,r,z,q⟩=>⟨by rw[<-r.length];exact z,?_⟩)
 have hf:H1 s1.heap.objs.size=none:=I1.hok.fresh (Nat.le_refl _)
 refine⟨.ref s1.heap.objs.size,upd H1 s1.heap.objs.size (.lst xs),I1.laid (t':=s1.toks) (λb u e=>Heap.get?_push_of_some _ e) (Nat.le_refl _) ?_,rfl,q _ hf⟩
 exact⟨z,us,0,r,Heap.get?_push_size _ rfl⟩)
end
abbrev Sp:=List V->Hp->VK->XK->Prop
abbrev YL:=List Env->Hp->Shared->XK->Value->Shared->Prop
structure W2 (P:Program) (w:World) (K:PySem.W.Frag) (mg:Str->Option Value) (base:Heap) (A:Around) (outer:List Env) (s:Shared) (H:Hp):Prop where
 frames:A.frames=some outer
 mod:Mod K mg base
 bs:∀b o,base.get? b=some o->s.heap.get? b=some o/\H b=none
 bsz:base.objs.size<=s.heap.objs.size
 funs:s.heap.FunFrames base outer
 frf:∀b∈zH outer,H b=none
 hok:JJ P w H s.heap
 bare:AllBare s.gens
def CE (outer:List Env) (P:Program) (w:World) (H:Hp) (s:Shared) (Q:VK) (u:Value) (s':Shared):Prop:=
 ∃v H',s'.os=s.os/\AllBare s'.gens/\Un (zH outer) [] H H' s.heap s'.heap/\JJ P w H' s'.heap/\qN v u/\Q v H'
def CR (CX:YL) (outer:List Env) (P:Program) (w:World) (H:Hp) (s:Shared) (Q:VK) (E:XK) (r:Result) (s':Shared):Prop:=
 match r with
 | .ok (.ret u)=>CE outer P w H s Q u s'
 | .ok _=>False
 | .error e=>CX outer H s E e s'
structure qv (P:Program) (w:World) (K:PySem.W.Frag) (mg:Str->Option Value) (base:Heap) (CX:YL) (k:Nat) (f:Addr) (fd:FuncData) (ps:List Str) (sp:Sp):Prop where
 len:∀vs H Q E,sp vs H Q E->vs.length=ps.length
 run:∀(A:Around) (outer:List Env) (s:Shared) (H:Hp) (args:Args) (us:List Value) (vs:List V) (Q:VK) (E:XK),qZ k A->W2 P w K mg base A outer s H->BindsTo s fd args (ps.zip us)->qD vs us->sp vs H Q E->
   codeAny (model P w) A (.call (.ref f) args) (CR CX outer P w H s Q E) s
theorem W2.make {P:Program} {w:World} {K:PySem.W.Frag} {mg:Str->Option Value} {base:Heap} {A:Around} {outer:List Env} {s:Shared} {H:Hp} (e:W2 P w K mg base A outer s H) (C:Addr) (us:List Value) (kw:List (Str×Value)):
   W2 P w K mg base (A.under (.builtin "type.__call__" ⟨.ref C::us,kw⟩)) outer s H:=⟨by first | exact e.frames | (simpa [Around.under,Code.envs,Code.isFrame,pushEnvs] using e.frames),e.mod,e.bs,e.bsz,e.funs,e.frf,e.hok,e.bare⟩
section
variable {X:Cx} {pins:List (Addr×Obj)} {σ:St} {H:Hp} {s s':Shared}
theorem qx.env0 (I:qx X pins σ H s):W2 X.prog X.w X.K X.mg X.base X.A X.stack s H:=
 ⟨I.ok.frames,I.ok.mod,I.bs,Nat.le_trans I.ok.bsz I.sz,I.stack,I.stkFree,I.hok,I.bare⟩
theorem qx.after {Q:VK} {u:Value} (I:qx X pins σ H s) (h:CE X.stack X.prog X.w H s Q u s'):EP X pins σ Q u s':=by
 obtain⟨v,H',os,bare,un,hok,r,q⟩:=h
 obtain⟨hh,g,d,t,os'⟩:=s'
 obtain rfl:os'=s.os:=os
 exact⟨v,H',I.call (h':=hh) (g':=g) (d':=d) (t':=t) (ch:=[]) un hok bare (λb z=>absurd z (by simp)),r,q⟩
end
def Jz (sp:Sp) (dvs:List V) (E:XK) (t:TA):TE:=λσ H Q=>t σ H λvs H1=>sp (vs++dvs) H1 Q E
def Wi (C:Addr) (m:Str) (sp:Sp) (dvs:List V) (E:XK) (ta:TE) (t:TA):TE:=λσ H Q=>ta σ H λx H1=>∃a dx fs,x=.ref a/\H1 a=some (.ins C dx fs)/\fs.lookup m=none/\
 t σ H1 λvs H2=>sp (x::(vs++dvs)) H2 Q E
def KR (C:Addr) (sp:Sp) (dvs:List V) (E:XK) (t:TA):TE:=λσ H Q=>t σ H λvs H1=>∀x dx,H1 x=none->H1 dx=none->dx≠x->
 sp (.ref x::(vs++dvs)) (upd (upd H1 dx (.own x)) x (.ins C dx [])) (λv H2=>v=.non/\Q (.ref x) H2) E
def jX (K:PySem.W.Frag) (fd:FuncData) (ps:List Str) (ds:List Value):Prop:=
 ∀(s:Shared) (us:List Value),K.In s.heap->(us++ds).length=ps.length->BindsTo s fd ⟨us,[]⟩ (ps.zip (us++ds))
theorem jX.all {K:PySem.W.Frag} {fd:FuncData} {ps:List Str} (h:∀us:List Value,us.length=ps.length->bindArgs fd ⟨us,[]⟩=pure (ps.zip us)):jX K fd ps []:=λs us _ hl=>by
 rw[List.append_nil]at hl ⊢
 exact .of_eq (h us hl)
def Qh (CX:YL) (X:Cx) (E:XK):Prop:=∀(pins:List (Addr×Obj)) (σ:St) (H:Hp) (s:Shared) (e:Value) (s':Shared),qx X pins σ H s->CX X.stack H s E e s'->X.xe e s'
section
variable {X:Cx} {CX:YL} {k:Nat} {f C:Addr} {fd:FuncData} {ps:List Str} {sp:Sp} {dvs:List V} {ds:List Value} {E:XK} {x m:Str} {p pos apos:Pos} {e o:Expr} {es:List Expr} {ta:TE} {t:TA}
theorem kL {pins:List (Addr×Obj)} {σ:St} {H:Hp} {s:Shared} {Q:VK} {us:List Value} {vs:List V} (F:qv X.prog X.w X.K X.mg X.base CX k f fd ps sp) (hr:qZ k X.A) (hb:jX X.K fd ps ds) (hd:qD dvs ds) (hx:Qh CX X E)
   (I:qx X pins σ H s) (r:qD vs us) (h:sp (vs++dvs) H Q E):wpAny (model X.prog X.w) X.A (call (.ref f) us) (EP X pins σ Q) X.xe s:=by
 have r2:qD (vs++dvs) (us++ds):=r.append hd
 have hl:(us++ds).length=ps.length:=by rw[<-r2.length];exact F.len _ _ _ _ h
 refine wpAny_call (codeAny_mono (F.run X.A X.stack s H ⟨us,[]⟩ (us++ds) (vs++dvs) Q E hr I.env0 (hb s us I.kIn hl) r2 h) λr s' hq=>?_)
 cases r with
 | error e=>exact hx pins σ H s e s' I hq
 | ok fl=>
   cases fl with
   | ret u=>exact I.after hq
   | next=>exact False.elim hq
   | brk=>exact False.elim hq
   | cont=>exact False.elim hq
theorem Ul (F:qv X.prog X.w X.K X.mg X.base CX k f fd ps sp) (hr:qZ k X.A) (hg:Gl X x) (hm:X.mg x=some (.ref f)) (hk:PySem.W.keepIn X.K (.ref f)=true) (hb:jX X.K fd ps ds) (hd:qD dvs ds) (hx:Qh CX X E)
   (ha:PA X (e::es) t) (hdb:(x==("__debug__":Str))=false:=by decide) (he:starEach (e::es) X.env=(false,eval e X.env)::starEach es X.env:=by rfl) (hpl:(backTo pos (starEach es X.env)).any (·.1)=false:=by rfl):
   PE X (.Call (.Name x p) (e::es) [] pos) (Jz sp dvs E t):=by
 intro pins s σ H Q I h
 refine wpAny_Call_Name_kw (Ze I hg hm ?_ hdb)
 refine PySem.W.callWith_K (h₀:=X.base) I.ok.mod.kin hk (jg (ha pos pins s σ H _ I h) λus s1 ⟨vs,H1,I1,r,q⟩=>⟨I1.kIn,?_⟩) he hpl
 exact kL F hr hb hd hx I1 r q
theorem k8 {pl:Sem Bool} (he:PE X o ta) (c:vN X.K C) (hm:w4 X.K C m f) (F:qv X.prog X.w X.K X.mg X.base CX k f fd ps sp) (hr:qZ k X.A) (hb:jX X.K fd ps ds) (hd:qD dvs ds) (hx:Qh CX X E)
   (ht:eval (.Call (.Attribute o m apos) [] [] pos) X.env=(do
     let ov <-eval o X.env
     standAt apos.atName
     let (f,first) <-holding [ov] (getMethod ov m pl)
     callWith pos f first (backTo pos (starEach [] X.env)) (backToKw pos (keywordEach [] X.env))):=by rfl):
   PE X (.Call (.Attribute o m apos) [] [] pos) (Wi C m sp dvs E ta jJ):=by
 intro pins s σ H Q I h
 refine PySem.W.methodCall_KW (pl:=pl) (jg (he pins s σ H _ I h) λu s1 ⟨x,H1,I1,rx,a,dx,fs,ex,ea,l,q⟩=>?_) ht
 subst ex
 obtain rfl:u=Value.ref a:=rx
 refine VG I1 ea c hm l ?_
 exact PySem.W.callWith_K0 (first:=[.ref a]) I1.kIn hm.kp (kL (us:=[.ref a]) (vs:=[.ref a]) F hr hb hd hx I1 (.cons rfl .nil) q)
theorem yK {pl:Sem Bool} (he:JE X o ta) (c:vN X.K C) (hm:w4 X.K C m f) (F:qv X.prog X.w X.K X.mg X.base CX k f fd ps sp) (hr:qZ k X.A) (hb:jX X.K fd ps ds) (hd:qD dvs ds) (hx:Qh CX X E) (ht:eval (.Call (.Attribute o m apos) [] [] pos) X.env=(do
     let ov <-eval o X.env
     standAt apos.atName
     let (f,first) <-holding [ov] (getMethod ov m pl)
     callWith pos f first (backTo pos (starEach [] X.env)) (backToKw pos (keywordEach [] X.env))):=by rfl):JE X (.Call (.Attribute o m apos) [] [] pos) (Wi C m sp dvs E ta jJ):=.of (k8 he.to c hm F hr hb hd hx ht)
structure Mk (K:PySem.W.Frag) (C f:Addr):Prop where
 makes:PySem.W.makesIn K C=true
 init:PySem.W.findIn K (.ref C) "__init__"=some (some (.ref f))
 fn:PySem.W.isFn K (.ref f)=true
 kp:PySem.W.keepIn K (.ref C)=true
theorem kK {pins:List (Addr×Obj)} {σ:St} {H:Hp} {s:Shared} {Q:VK} {us:List Value} {vs:List V} (M:Mk X.K C f) (F:qv X.prog X.w X.K X.mg X.base CX k f fd ps sp) (hr:qZ (k+1) X.A) (hb:jX X.K fd ps ds) (hd:qD dvs ds)
   (hx:Qh CX X E) (I:qx X pins σ H s) (r:qD vs us)
   (h:∀x dx,H x=none->H dx=none->dx≠x->sp (.ref x::(vs++dvs)) (upd (upd H dx (.own x)) x (.ins C dx [])) (λv H2=>v=.non/\Q (.ref x) H2) E):
   wpAny (model X.prog X.w) X.A (call (.ref C) us) (EP X pins σ Q) X.xe s:=by
 have hq:=h (s.heap.objs.size+1) s.heap.objs.size (I.hok.fresh (Nat.le_succ _)) (I.hok.fresh (Nat.le_refl _)) (Nat.ne_of_lt (Nat.lt_succ_self _))
 have I2:=qx.made (C:=C) I
 have r2:qD (V.ref (s.heap.objs.size+1)::(vs++dvs)) (Value.ref (s.heap.objs.size+1)::(us++ds)):=.cons rfl (r.append hd)
 have hl:(Value.ref (s.heap.objs.size+1)::us++ds).length=ps.length:=by
   have e:=r2.length
   rw[F.len _ _ _ _ hq]at e
   exact e.symm
 refine wpAny_call (WH (f:=f) I.kIn M.makes M.init (beq_iff_eq.mp M.fn) (codeAny_mono (F.run _ X.stack _ _ ⟨Value.ref (s.heap.objs.size+1)::us,[]⟩ (Value.ref (s.heap.objs.size+1)::(us++ds)) _ _ E (hr.make C us [])
   (I2.env0.make C us []) (hb _ (Value.ref (s.heap.objs.size+1)::us) I2.kIn hl) r2 hq) λr s' hq'=>?_))
 cases r with
 | error e=>exact hx pins σ _ _ e s' I2 hq'
 | ok fl=>
   cases fl with
   | ret u=>
     obtain⟨v,H',I3,rv,ev,q3⟩:=I2.after hq'
     subst ev
     exact⟨rv,⟨V.ref (s.heap.objs.size+1),H',I3,rfl,q3⟩⟩
   | next=>exact False.elim hq'
   | brk=>exact False.elim hq'
   | cont=>exact False.elim hq'
theorem wJ (M:Mk X.K C f) (F:qv X.prog X.w X.K X.mg X.base CX k f fd ps sp) (hr:qZ (k+1) X.A) (hg:Gl X x) (hm:X.mg x=some (.ref C)) (hb:jX X.K fd ps ds) (hd:qD dvs ds) (hx:Qh CX X E) (ha:JA X (e::es) t) (hdb:(x==("__debug__":Str))=false:=by decide) (he:starEach (e::es) X.env=(false,eval e X.env)::starEach es X.env:=by rfl) (hpl:(backTo pos (starEach es X.env)).any (·.1)=false:=by rfl):JE X (.Call (.Name x p) (e::es) [] pos) (KR C sp dvs E t):=.of (by
 have ha:=ha.to
 intro pins s σ H Q I h
 refine wpAny_Call_Name_kw (Ze I hg hm ?_ hdb)
 refine PySem.W.callWith_K (h₀:=X.base) I.ok.mod.kin M.kp (jg (ha pos pins s σ H _ I h) λus s1 ⟨vs,H1,I1,r,q⟩=>⟨I1.kIn,?_⟩) he hpl
 exact kK M F hr hb hd hx I1 r q)
end
section
variable {X:Cx} {CX:YL} {k:Nat} {f C:Addr} {fd:FuncData} {ps ks:List Str} {sp:Sp} {E:XK} {x m:Str} {p pos apos kpos:Pos} {e o:Expr} {es:List Expr} {kws:List Keyword} {te ta:TE} {t tk:TA} {nm:Option Str}
structure R8 (K:PySem.W.Frag) (fd:FuncData) (ps ks:List Str) (g:List Value->List Value->List Value) (gV:List V->List V->List V):Prop where
 to:∀(s:Shared) (us ws:List Value),K.In s.heap->(g us ws).length=ps.length->BindsTo s fd ⟨us,ks.zip ws⟩ (ps.zip (g us ws))
 rel:∀{vs:List V} {us:List Value} {zs:List V} {ws:List Value},qD vs us->qD zs ws->qD (gV vs zs) (g us ws)
variable {g:List Value->List Value->List Value} {gV:List V->List V->List V}
end
structure qC (N P:List Str) (sc:Scope):Prop where
 kind:sc.kind=.function
 co:sc.isCoroutine=false
 gen:sc.isGenerator=false
 nd:N.Nodup
 pre:N.take P.length=P
 par:∀x∈P,sc.names.lookup x=some .local\/sc.names.lookup x=some .cell
 nofree:∀y∈sc.names,y.2≠.free
theorem Xh {kindOf:Str->Option NameKind} {x:Str}:∀{binds:List (Str×Value)} {m:Str->Option Value},(∀v,(x,v)∉binds)->bindL kindOf binds m x=m x
 | [],_,_=>rfl
 | (n,v)::r,m,h=>by
   unfold bindL
   rw[Xh λw hw=>h w (List.mem_cons_of_mem _ hw)]
   split
   . have:x≠n:=by rintro rfl;exact h v List.mem_cons_self
     simp [this]
   . rfl
theorem Xj {kindOf:Str->Option NameKind} {x:Str}:∀{binds:List (Str×Value)} {m:Str->Option Value},(∀v,(x,v)∉binds)->bindC kindOf binds m x=m x
 | [],_,_=>rfl
 | (n,v)::r,m,h=>by
   unfold bindC
   rw[Xj λw hw=>h w (List.mem_cons_of_mem _ hw)]
   split
   . rfl
   . have:x≠n:=by rintro rfl;exact h v List.mem_cons_self
     simp [this]
theorem Xi {kindOf:Str->Option NameKind} {x:Str} {v:Value}:∀{P:List Str} {vs:List Value} {i:Nat} {m:Str->Option Value},P.Nodup->P[i]?=some x->vs[i]?=some v->kindOf x=some .local->
   bindL kindOf (P.zip vs) m x=some v
 | [],_,_,_,_,h,_,_=>by simp at h
 | _::_,[],_,_,_,_,h,_=>by simp at h
 | p::P,w::vs,0,m,nd,h1,h2,hk=>by
   simp at h1 h2;subst h1;subst h2
   show bindL kindOf ((p,w)::P.zip vs) m p=_
   unfold bindL
   rw[Xh λv hv=>(List.nodup_cons.mp nd).1 (List.of_mem_zip hv).1,if_pos hk]
   simp
 | p::P,w::vs,i+1,m,nd,h1,h2,hk=>by
   show bindL kindOf ((p,w)::P.zip vs) m x=_
   unfold bindL
   exact Xi (i:=i) (List.nodup_cons.mp nd).2 (by simpa using h1) (by simpa using h2) hk
theorem Xk {kindOf:Str->Option NameKind} {x:Str} {v:Value}:∀{P:List Str} {vs:List Value} {i:Nat} {m:Str->Option Value},P.Nodup->P[i]?=some x->vs[i]?=some v->kindOf x≠some .local->
   bindC kindOf (P.zip vs) m x=some v
 | [],_,_,_,_,h,_,_=>by simp at h
 | _::_,[],_,_,_,_,h,_=>by simp at h
 | p::P,w::vs,0,m,nd,h1,h2,hk=>by
   simp at h1 h2;subst h1;subst h2
   show bindC kindOf ((p,w)::P.zip vs) m p=_
   unfold bindC
   rw[Xj λv hv=>(List.nodup_cons.mp nd).1 (List.of_mem_zip hv).1,if_neg hk]
   simp
 | p::P,w::vs,i+1,m,nd,h1,h2,hk=>by
   show bindC kindOf ((p,w)::P.zip vs) m x=_
   unfold bindC
   exact Xk (i:=i) (List.nodup_cons.mp nd).2 (by simpa using h1) (by simpa using h2) hk
def Zo (N:List Str) (vs:List V):St:=vs.map some++List.replicate (N.length - vs.length) none
def Qc (CX:YL) (P:Program) (w:World) (K:PySem.W.Frag) (mg:Str->Option Value) (base:Heap) (N:List Str) (qual:Str) (scope:Scope) (f:Addr) (cd:Value) (A:Around) (outer:List Env) (s:Shared) (H:Hp) (E:XK):Cx where
 prog:=P
 w:=w
 K:=K
 mg:=mg
 base:=base
 A:=A.deeper (envOfC qual scope s.heap.objs.size f cd)
 N:=N
 s₀:=s
 H₀:=H
 env:=envOfC qual scope s.heap.objs.size f cd
 outer:=outer
 stack:=envOfC qual scope s.heap.objs.size f cd::outer
 ex:=[]
 calm:=true
 fn:=λ_=>true
 pn:=[]
 xe:=λe s'=>wpAny (model P w) (A.deeper (envOfC qual scope s.heap.objs.size f cd)) (leaving (envOfC qual scope s.heap.objs.size f cd) e) (λ_ s''=>CX outer H s E e s'') (λe' s''=>CX outer H s E e' s'') s'
theorem WU {sc:Scope} {n:Nat} {x:Str} (h:sc.names.lookup x=some .cell):∃c,(cellsFrom n sc.names []).lookup x=some c:=by
 have q:=PySem.W.cellsFrom_some sc.names n [] (.inl h)
 exact Option.isSome_iff_exists.mp q
theorem vp {CX:YL} {P:Program} {w:World} {K:PySem.W.Frag} {mg:Str->Option Value} {base:Heap} {N ps:List Str} {qual:Str} {scope:Scope} {f:Addr} {cd:Value} {A:Around} {outer:List Env} {s s1:Shared} {H:Hp} {E:XK} {us:List Value} {vs:List V}
   (S:qC N ps scope) (hd:A.handled=none) (e0:W2 P w K mg base A outer s H) (hl:vs.length=ps.length) (r:qD vs us)
   (x:InCallC s s.heap.objs.size (bindL (envOfC qual scope s.heap.objs.size f cd).kindOf (ps.zip us) λ_=>none) (cellsFrom (s.heap.objs.size+1) scope.names []) (bindC (envOfC qual scope s.heap.objs.size f cd).kindOf (ps.zip us) λ_=>none) s1):
   qx (Qc CX P w K mg base N qual scope f cd A outer s H E) [] (Zo N vs) H s1:=by
 have hpl:ps.length<=N.length:=by have:=congrArg List.length S.pre;rw[List.length_take]at this;omega
 obtain⟨h1,tk,rfl,hk⟩:=x.done
 have noA:∀b:Addr,b∉(Qc CX P w K mg base N qual scope f cd A outer s H E).ex:=λb z=>absurd (show b∈([]:List Addr) from z) (by simp)
 refine⟨⟨e0.mod,S.kind,rfl,rfl,Nat.le_refl _,λy z c h1 h2=>?_,λy hy=>?_,λy c _ h=>?_,λ_=>hd,Around.frames_deeper e0.frames,.inr ⟨rfl,rfl⟩,λb z=>absurd z (noA b),e0.bs,e0.bsz,λb _ _=>noA b,λb z=>absurd z (noA b),e0.funs,e0.frf⟩,
   rfl,e0.bare,Un.kept hk,⟨_,x.toInCall.ns,λi y v h1 h2 h3=>?_⟩,λy c h=>⟨_,x.cell y c h⟩,e0.hok.fresh (Nat.le_refl _),λy c h=>?_,λp hp=>absurd (show p∈([]:List (Addr×Obj)) from hp) (by simp),e0.hok.kept hk,?_⟩
 . exact name_of_addr x.apart (PySem.mem_of_lookup h1) (PySem.mem_of_lookup h2)
 . have hy:scope.names.lookup y=some .cell\/scope.names.lookup y=some .free:=hy
   rcases hy with hy | hy
   . exact WU hy
   . exact absurd rfl (S.nofree _ (PySem.mem_of_lookup hy))
 . exact Nat.le_of_lt (x.above y c (PySem.mem_of_lookup h))
 . have hi:i < vs.length:=by
     unfold Zo at h2
     by_cases hi:i < vs.length
     . exact hi
     . rw[List.getElem?_append_right (by simpa using hi)]at h2
       rw[List.getElem?_replicate]at h2
       split at h2<;>cases h2
   have ha:vs[i]?=some v:=by
     unfold Zo at h2
     rw[List.getElem?_append_left (by simpa using hi),List.getElem?_map]at h2
     cases e:vs[i]? with
     | none=>rw[e]at h2;cases h2
     | some a=>rw[e]at h2;cases h2;rfl
   obtain⟨u,hu,rv⟩:=r.get ha
   have hp:ps[i]?=some y:=by
     rw[<-S.pre,List.getElem?_take_of_lt (by omega)];exact h1
   have ndP:ps.Nodup:=by rw[<-S.pre];exact S.nd.sublist (List.take_sublist _ _)
   refine⟨u,rv,?_⟩
   rcases S.par y (List.mem_of_getElem? hp) with k | k
   . exact .inl ⟨k,Xi ndP hp hu k⟩
   . obtain⟨c,e⟩:=WU (n:=s.heap.objs.size+1) k
     refine .inr ⟨.inl k,c,e,?_⟩
     have q:=x.cell y c e
     rw[Xk ndP hp hu (by show scope.names.lookup y≠_;rw[k];decide)]at q
     exact q
 . exact .inl (e0.hok.fresh (Nat.le_of_lt (x.above y c (PySem.mem_of_lookup h))))
 . unfold Zo
   show _=N.length
   rw[List.length_append,List.length_map,List.length_replicate]
   omega
theorem ux {CX:YL} {P:Program} {w:World} {K:PySem.W.Frag} {mg:Str->Option Value} {base:Heap} {k:Nat} {f:Addr} {name qual:Str} {params:Arguments} {body:List Stmt} {scope:Scope} {dV kV doc pm cdv ct oc:Value} {an od:Option Addr}
   {osl:Array (Option Value)} {N ps:List Str} {sp:Sp} (lk:K.lookup f=some ⟨oc,od,.func (PySem.W.fnOf name qual params body scope dV kV doc pm an cdv ct),osl⟩) (hcd:PySem.W.codeIn K cdv qual=true) (S:qC N ps scope)
   (len:∀vs H Q E,sp vs H Q E->vs.length=ps.length)
   (hbody:∀(A:Around) (outer:List Env) (s:Shared) (H:Hp) (vs:List V) (Q:VK) (E:XK),qZ k (A.deeper (envOfC qual scope s.heap.objs.size f cdv))->sp vs H Q E->
     ∃t,xG (Qc CX P w K mg base N qual scope f cdv A outer s H E) body t/\t {nx:=λ_ H'=>Q .non H',rt:=Q} (Zo N vs) H):
   qv P w K mg base CX (k+1) f (PySem.W.fnOf name qual params body scope dV kV doc pm an cdv ct) ps sp:=by
 refine⟨len,λA outer s H args us vs Q E hr e0 hb r hsp=>?_⟩
 have hl:=len _ _ _ _ hsp
 have KX:K.In s.heap:=e0.mod.kin.keeps λb o e=>(e0.bs b o e).1
 have lim:s.heap.NoLimit:=e0.mod.nolimit.keeps λb o e=>(e0.bs b o e).1
 have hkind:∀y∈ps.zip us,scope.names.lookup y.1=some .local\/(scope.names.lookup y.1=some .cell/\((cellsFrom (s.heap.objs.size+1) scope.names []).lookup y.1).isSome=true):=λ⟨n,v⟩ hy=>by
   rcases S.par n (List.of_mem_zip hy).1 with q | q
   . exact .inl q
   . exact .inr ⟨q,PySem.W.cellsFrom_some _ _ _ (.inl q)⟩
 refine codeAny_call_function hr.depth (KX _ _ lk) rfl S.co S.gen rfl (PySem.W.codeRec_of KX hcd) (hb _ _ _ _ ?_)
 refine wpAny_newFunctionEnv_cells S.kind hkind λenv he s1 x=>?_
 subst he
 refine⟨lim.keeps x.toInCall.keep,codeAny_func ?_⟩
 obtain⟨t,ht,hq⟩:=hbody A outer s H vs Q E (hr.deeper _) hsp
 have I:qx (Qc CX P w K mg base N qual scope f cdv A outer s H E) [] (Zo N vs) H s1:=vp S hr.hd e0 hl r x
 refine wpAny_mono (ht [] s1 (Zo N vs) H _ I hq) (λfl s' hs=>?_) λe s' hs=>hs
 have fin:∀{σ':St} {H':Hp} {v:V} {u:Value},qx (Qc CX P w K mg base N qual scope f cdv A outer s H E) [] σ' H' s'->qN v u->Q v H'->CE outer P w H s Q u s':=
   λ{σ' H' v u} J rv q=>⟨v,H',J.os,J.bare,J.base,J.hok,rv,q⟩
 cases fl with
 | ret u=>
   obtain⟨v,σ',H',J,rv,q⟩:=hs
   exact fin J rv q
 | next=>
   obtain⟨σ',H',J,q⟩:=hs
   exact fin (v:=V.non) (u:=Value.none) J rfl q
 | brk=>
   obtain⟨_,_,_,q⟩:=hs
   exact False.elim q
 | cont=>
   obtain⟨_,_,_,q⟩:=hs
   exact False.elim q
end L2
namespace L2
open PySem PySem.Spec PyProof.Rows
section
variable {X:Cx} {x:Str} {p pos:Pos} {e:Expr} {es:List Expr} {t:TA} {id T:String} {r:List V->Hp->VK->Prop}
def KF (r:List V->Hp->VK->Prop) (t:TA):TE:=λσ H Q=>t σ H λvs H1=>r vs H1 Q
theorem qm (hc:Qr X (.builtin id) r) (hg:Gl X x) (hm:X.mg x=none) (hv:bootBuiltins x=some (.builtin id)) (ha:JA X (e::es) t) (hn:x≠"__name__":=by decide) (hdb:(x==("__debug__":Str))=false:=by decide) (he:starEach (e::es) X.env=(false,eval e X.env)::starEach es X.env:=by rfl) (hpl:(backTo pos (starEach es X.env)).any (·.1)=false:=by rfl):JE X (.Call (.Name x p) (e::es) [] pos) (KF r t):=.of (by
 have ha:=ha.to
 intro pins s σ H Q I h
 refine wpAny_Call_Name_kw (Q4 I hg hm hv ?_ hn hdb)
 exact PyProof.Rows.callWith_builtin1 (jg (ha pos pins s σ H _ I h) λus s1 ⟨vs,H1,I1,r1,q1⟩=>hc pins s1 σ H1 vs us Q I1 r1 q1) he hpl)
theorem jT (hc:Qr X (.type T) r) (hg:Gl X x) (hm:X.mg x=none) (hv:bootBuiltins x=some (.type T)) (ha:JA X (e::es) t) (hn:x≠"__name__":=by decide) (hdb:(x==("__debug__":Str))=false:=by decide) (he:starEach (e::es) X.env=(false,eval e X.env)::starEach es X.env:=by rfl) (hpl:(backTo pos (starEach es X.env)).any (·.1)=false:=by rfl):JE X (.Call (.Name x p) (e::es) [] pos) (KF r t):=.of (by
 have ha:=ha.to
 intro pins s σ H Q I h
 refine wpAny_Call_Name_kw (Q4 I hg hm hv ?_ hn hdb)
 exact PyProof.Rows.callWith_type1 (jg (ha pos pins s σ H _ I h) λus s1 ⟨vs,H1,I1,r1,q1⟩=>hc pins s1 σ H1 vs us Q I1 r1 q1) he hpl)
end
end L2
namespace HT
open PySem PyProof.Rows
section
open PySem.SeqAt
open PySem.AutoSeq1 (wpAny_loadPart')
open PySem.MeetsSeq PySem.MeetsSeq2 PySem.MeetsSeq3
end
section
variable {prog:Program} {w:World} {A:Around} {E:Value->Shared->Prop} {s:Shared}
def sIx (n d:Nat):Option Int->Nat
 | none=>d
 | some v=>if v < 0 then (v+(n:Int)).toNat else min v.toNat n
theorem sIx_none (n d:Nat):sIx n d none=d:=rfl
theorem sIx_nat (n d k:Nat):sIx n d (some (k:Int))=min k n:=by
 show (if (k:Int) < 0 then ((k:Int)+(n:Int)).toNat else min (k:Int).toNat n)=min k n
 rw[if_neg (by omega),Int.toNat_natCast]
end
end HT
namespace L2
open PySem PySem.Spec PyProof.Rows
abbrev TO:=St->Hp->(Option Int->Hp->Prop)->Prop
def PO (X:Cx) (e:Option Expr) (t:TO):Prop:=
 ∀(pins:List (Addr×Obj)) (s:Shared) (σ:St) (H:Hp) (Q:Option Int->Hp->Prop),qx X pins σ H s->t σ H Q->
   wpAny (model X.prog X.w) X.A (evalPart e X.env) (λu s'=>∃o H',qx X pins σ H' s'/\IsPart u o/\Q o H') X.xe s
@[irreducible] def JO (X:Cx) (e:Option Expr) (t:TO):Prop:=PO X e t
theorem JO.of {X:Cx} {e:Option Expr} {t:TO} (h:PO X e t):JO X e t:=by unfold JO;exact h
theorem JO.to {X:Cx} {e:Option Expr} {t:TO} (h:JO X e t):PO X e t:=by unfold JO at h;exact h
def xR:TO:=λ_ H Q=>Q none H
def KQ (t:TE):TO:=λσ H Q=>t σ H λx H1=>∃i,x=.int i/\Q (some i) H1
theorem VF {ns:List Int}:∀{us:List Value},qD (ns.map V.int) us->IntsAre us ns:=by
 induction ns with
 | nil=>intro us r;rw[List.map_nil]at r;cases r;exact .nil
 | cons n ns ih=>
   intro us r
   rw[List.map_cons]at r
   cases r with
   | cons r1 r2=>
     obtain⟨t,e⟩:=r1
     subst e
     exact .cons n t (ih r2)
section
variable {X:Cx} {e:Expr} {te:TE} {lo hi:Option Expr} {tl th:TO} {pos p2:Pos}
theorem qT:JO X none xR:=.of (by
 intro pins s σ H Q I h
 rw[evalPart_none]
 exact wpAny_pure ⟨none,H,I,.none,h⟩)
theorem qS (h:JE X e te):JO X (some e) (KQ te):=.of (by
 have h:=h.to
 intro pins s σ H Q I hw
 rw[evalPart_some]
 refine jg (h pins s σ H _ I hw) λu s1 ⟨x,H1,I1,r1,q1⟩=>?_
 obtain⟨i,rfl,q⟩:=q1
 obtain⟨t,rfl⟩:=r1
 exact⟨some i,H1,I1,.int i t,q⟩)
def Ri (X:Cx) (r:V->Option Int->Option Int->Hp->VK->Prop):Prop:=
 ∀(pins:List (Addr×Obj)) (s:Shared) (σ:St) (H:Hp) (x:V) (v vl vu:Value) (lo hi:Option Int) (sl:Addr) (Q:VK),qx X pins σ H s->qN x v->s.heap.IsSliceOf sl vl vu .none->IsPart vl lo->IsPart vu hi->r x lo hi H Q->
   ∃T id,typeLookup (.type T) "__getitem__"=pure (some (.builtin id))/\s.TypeIs v T/\wpAny (model X.prog X.w) X.A (getItem v (.ref sl)) (EP X pins σ Q) X.xe s
def tSl (r:V->Option Int->Option Int->Hp->VK->Prop) (te:TE) (tl th:TO):TE:=λσ H Q=>te σ H λx H1=>tl σ H1 λl H2=>th σ H2 λu H3=>r x l u H3 Q
theorem qM {r:V->Option Int->Option Int->Hp->VK->Prop} (hr:Ri X r) (he:JE X e te) (hl:JO X lo tl) (hu:JO X hi th):JE X (.Subscript e (.Slice lo hi none p2) pos) (tSl r te tl th):=.of (by
 have he:=he.to
 have hl:=hl.to
 have hu:=hu.to
 intro pins s σ H Q I h
 refine Subscript_ (jg (he pins s σ H _ I h) λv s1 ⟨x,H1,I1,r1,q1⟩=>?_)
 refine wpAny_Slice (jg (hl pins s1 σ H1 _ I1 q1) λvl s2 ⟨l,H2,I2,pl,q2⟩=>jg (hu pins s2 σ H2 _ I2 q2) λvu s3 ⟨u,H3,I3,pu,q3⟩=>?_)
 rw[evalPart_none]
 refine wpAny_pure ?_
 have I4:qx X pins σ H3 {s3 with heap:=s3.heap.push {cls:=.type "slice",data:=.fields #[vl,vu,.none]}}:=I3.kept (t':=s3.toks) λb ob q=>Heap.get?_push_of_some _ q
 obtain⟨T,id,hT,ht,hg⟩:=hr pins {s3 with heap:=s3.heap.push {cls:=.type "slice",data:=.fields #[vl,vu,.none]}} σ H3 x v vl vu l u s3.heap.objs.size Q I4 r1 (Heap.IsSliceOf.new ..) pl pu q3
 show wpAny (model X.prog X.w) X.A (subscriptTail e (.Slice lo hi none p2) v (.ref s3.heap.objs.size)) (EP X pins σ Q) X.xe {s3 with heap:=s3.heap.push {cls:=.type "slice",data:=.fields #[vl,vu,.none]}}
 exact tail_any (ops:=[.ref s3.heap.objs.size,v]) ht hT hg (by with_unfolding_all rfl))
def Jv (xs:List V) (lo hi:Option Int):List V:=(xs.drop (HT.sIx xs.length 0 lo)).take (HT.sIx xs.length xs.length hi - HT.sIx xs.length 0 lo)
theorem WT (xs:List V) (lo hi:Option Int):(Jv xs lo hi).length<=xs.length:=by
 unfold Jv
 rw[List.length_take,List.length_drop]
 omega
end
end L2
namespace L2
open PySem PySem.Spec PyProof.Rows
def xE (n:Nat) (i:Int):Option Nat:=if 0<=i then (if i < n then some i.toNat else none) else if -(n:Int)<=i then some (i+n).toNat else none
def W7 {α:Type} (xs:List α) (i:Int):Option α:=(xE xs.length i).bind λj=>xs[j]?
theorem Uy {n:Nat} {i:Int} {j:Nat} (h:xE n i=some j):seqIndex? i n=some j/\j < n/\-(n:Int)<=i/\i < n:=by
 unfold xE at h
 by_cases h0:0<=i
 . rw[if_pos h0]at h
   by_cases h1:i < n
   . rw[if_pos h1]at h
     have e:i.toNat=j:=Option.some.inj h
     exact⟨by rw[seqIndex_of h0 h1,e],by omega,by omega,h1⟩
   . rw[if_neg h1]at h;cases h
 . rw[if_neg h0]at h
   by_cases h1:-(n:Int)<=i
   . rw[if_pos h1]at h
     have e:(i+n).toNat=j:=Option.some.inj h
     exact⟨by rw[seqIndex_neg (by omega) h1,e],by omega,h1,by omega⟩
   . rw[if_neg h1]at h;cases h
theorem atI_get {α:Type} {xs:List α} {i:Int} {v:α} (h:W7 xs i=some v):∃j,seqIndex? i xs.length=some j/\xs[j]?=some v/\j < xs.length/\-(xs.length:Int)<=i/\i < xs.length:=by
 unfold W7 at h
 cases e:xE xs.length i with
 | none=>rw[e]at h;cases h
 | some j=>
   rw[e]at h
   obtain⟨h1,h2,h3,h4⟩:=Uy e
   exact⟨j,h1,h,h2,h3,h4⟩
theorem Z1 {α:Type} {xs:List α} {j:Nat} {v:α} (h:xs[j]?=some v):W7 xs (j:Int)=some v:=by
 have hj:j < xs.length:=(List.getElem?_eq_some_iff.mp h).1
 have e:xE xs.length (j:Int)=some j:=by
   unfold xE
   rw[if_pos (by omega),if_pos (by omega)];simp
 unfold W7;rw[e];exact h
def wZ (b:Expr):Prop:=∀o i,subscripted b false o i=operate [o,i] (getItem o i)
def Rj (X:Cx) (r:R2):Prop:=
 ∀(value slice:Expr) (pins:List (Addr×Obj)) (s:Shared) (σ:St) (H:Hp) (x y:V) (v u:Value) (Q:VK),qx X pins σ H s->qN x v->qN y u->r x y H Q->
   subscripted slice false v u=operate [v,u] (getItem v u)->wpAny (model X.prog X.w) X.A (subscriptTail value slice v u) (EP X pins σ Q) X.xe s
def KL (X:Cx) (id:String) (r:V->List V->Hp->VK->Prop):Prop:=
 ∀(pins:List (Addr×Obj)) (s:Shared) (σ:St) (H:Hp) (x:V) (xs:List V) (v:Value) (us:List Value) (Q:VK),qx X pins σ H s->qN x v->qD xs us->r x xs H Q->
   wpAny (model X.prog X.w) X.A (call (.builtin id) (v::us)) (EP X pins σ Q) X.xe s
section
variable {X:Cx} {a b:Expr} {ta tb:TE} {pos:Pos}
theorem qU {r:R2} (hr:Rj X r) (ha:JE X a ta) (hb:JE X b tb) (hs:wZ b):JE X (.Subscript a b pos) (Vg r ta tb):=.of (by
 have ha:=ha.to
 have hb:=hb.to
 intro pins s σ H Q I h
 exact Subscript_ (Kv ha hb I h λv u s2 x y H2 I2 rx ry q=>hr a b pins s2 σ H2 x y v u Q I2 rx ry q (hs _ _)))
def Gc (K:PySem.W.Frag):R2:=λx y H Q=>∃p xs i v,x=.ref p/\y=.int i/\SqL K H p xs/\W7 xs i=some v/\Q v H
def Wy (K:PySem.W.Frag):R2:=λx y H Q=>∃p xs i v,x=.ref p/\y=.int i/\SqT K H p xs/\W7 xs i=some v/\Q v H
def RH:R2:=λx y H Q=>∃z i c,x=.str z/\y=.int i/\z.length<=sizeLine/\W7 z.cps.toList i=some c/\Q (.str ⟨#[c]⟩) H
theorem je:Rj X (Gc X.K):=by
 intro value slice pins s σ H x y v u Q I rx ry h hs
 obtain⟨p,xs,i,z,rfl,rfl,hq,he,q⟩:=h
 cases rx
 obtain⟨t,rfl⟩:=ry
 obtain⟨its,r,pl,hz⟩:=I.list hq
 obtain⟨j,h1,h2,h3,h4,h5⟩:=atI_get he
 obtain⟨w,ew,rw'⟩:=r.get h2
 have hl:=r.length
 have hn:=zm
 have fin:EP X pins σ Q w s:=⟨z,H,I,rw',q⟩
 by_cases h0:0<=i
 . have hj:i.toNat=j:=by
     rw[seqIndex_of h0 h5]at h1
     exact Option.some.inj h1
   exact item_listR pl.isList h0 (by omega) (by rw[hj];simpa using ew) fin hs
 . have hj:(i+(its.toArray.size:Int)).toNat=j:=by
     rw[seqIndex_neg (by omega) h4]at h1
     rw[List.size_toArray,<-hl]
     exact Option.some.inj h1
   exact subscriptTail_builtinR (x:=w) pl.isList.typeIs slot_list_getitem.lookup
     (wpAny_getItem_list_neg (Q:=λr s'=>r=w/\EP X pins σ Q r s') pl.isList (by omega) (by rw[List.size_toArray]<;>omega) (by omega) (by rw[hj];simpa using ew) ⟨rfl,fin⟩) hs
theorem j3:Rj X (Wy X.K):=by
 intro value slice pins s σ H x y v u Q I rx ry h hs
 obtain⟨p,xs,i,z,rfl,rfl,hq,he,q⟩:=h
 cases rx
 obtain⟨t,rfl⟩:=ry
 obtain⟨its,r,pl,hz⟩:=I.tuple hq
 obtain⟨j,h1,h2,h3,h4,h5⟩:=atI_get he
 obtain⟨w,ew,rw'⟩:=r.get h2
 have hl:=r.length
 have hn:=zm
 have fin:EP X pins σ Q w s:=⟨z,H,I,rw',q⟩
 exact subscriptTail_builtinR (x:=w) pl.typeIs slot_tuple_getitem.lookup
   (getItem_tuple (j:=j) (Q:=λr s'=>r=w/\EP X pins σ Q r s') pl (by omega) (by omega) (by rw[List.size_toArray,<-hl];exact h1) (by simpa using ew) ⟨rfl,fin⟩) hs
theorem zy:Rj X RH:=by
 intro value slice pins s σ H x y v u Q I rx ry h hs
 obtain⟨z,i,c,rfl,rfl,hz,he,q⟩:=h
 obtain⟨t,rfl⟩:=rx
 obtain⟨t',rfl⟩:=ry
 obtain⟨j,h1,h2,h3,h4,h5⟩:=atI_get he
 have hl:z.cps.toList.length=z.length:=by simp [Str.length]
 rw[hl]at h1 h4 h5
 have hn:=zm
 exact tail_any (typeIs_str s z t) slot_str_getitem.lookup (getItem_str (c:=c) (by
   have e1:decide (i < -(2^63:Int))=false:=decide_eq_false (by omega)
   have e2:decide (i ≥ 2^63)=false:=decide_eq_false (by omega)
   rw[e1,e2,Bool.or_false]) (by rw[h1];simpa using h2) ⟨.str ⟨#[c]⟩,H,I.tok _,⟨_,rfl⟩,q⟩) hs
theorem VA (its:List Value) (n j:Nat) (u:Value):Obj.mapSeq (·.setIfInBounds j u) {cls:=.type "list",data:=.seq its.toArray n}={cls:=.type "list",data:=.seq (its.set j u).toArray n}:=by
 simp [Obj.mapSeq]
theorem qx.lst {pins:List (Addr×Obj)} {σ:St} {H:Hp} {s:Shared} {p:Addr} {xs:List V} (I:qx X pins σ H s) (h:H p=some (.lst xs)):
   ∃(its:List Value) (n:Nat),qD xs its/\s.heap.get? p=some {cls:=.type "list",data:=.seq its.toArray n}/\xs.length<=sizeLine:=by
 obtain⟨z,its,n,r,e⟩:=I.hok p _ h
 exact⟨its,n,r,e,z⟩
theorem qx.lstUpd {pins:List (Addr×Obj)} {σ:St} {H:Hp} {s:Shared} {p:Addr} {xs ys:List V} {its its':List Value} {n n':Nat} {f:Obj->Obj} (I:qx X pins σ H s) (h:H p=some (.lst xs))
   (ho:s.heap.get? p=some {cls:=.type "list",data:=.seq its.toArray n}) (hf:f {cls:=.type "list",data:=.seq its.toArray n}={cls:=.type "list",data:=.seq its'.toArray n'}) (r:qD ys its') (hz:ys.length<=sizeLine) (t:Nat):
   qx X pins σ (upd H p (.lst ys)) {s with heap:=s.heap.update p f,toks:=t}:=by
 have e:(s.heap.update p f).get? p=some {cls:=.type "list",data:=.seq its'.toArray n'}:=by
   rw[Heap.get?_update_self f ho (by rw[hf]<;>rfl),hf]
 refine I.write (x:=p) (e:=p) (by rw[h];trivial) (.inl rfl) (λb u hb q=>(Heap.get?_update_other _ _ (Ne.symm hb)).trans q) ⟨_,e⟩ ?_
 exact⟨hz,its',n',r,e⟩
def K9:V->V->V->Hp->(Hp->Prop)->Prop:=λo i v H Q=>∃p xs k j,o=.ref p/\i=.int k/\H p=some (.lst xs)/\xE xs.length k=some j/\Q (upd H p (.lst (xs.set j v)))
theorem Ja:Kx X K9:=by
 intro pins s σ H o i v ov iv u Q I ro ri rv h
 obtain⟨p,xs,k,j,rfl,rfl,hp,hj,q⟩:=h
 cases ro
 obtain⟨t,rfl⟩:=ri
 obtain⟨its,n,r,ho,hz⟩:=I.lst hp
 obtain⟨h1,h2,h3,h4⟩:=Uy hj
 have hl:=r.length
 have hn:=zm
 have I':qx X pins σ (upd H p (.lst (xs.set j v))) {s with heap:=s.heap.update p (Obj.mapSeq (·.setIfInBounds j u))}:=
   I.lstUpd hp ho (VA its n j u) (r.set rv j) (by rw[List.length_set];exact hz) s.toks
 by_cases h0:0<=k
 . have hk:k.toNat=j:=by
     rw[seqIndex_of h0 h4]at h1
     exact Option.some.inj h1
   exact PySem.W.ki_setAt ho h0 (by omega) (by rw[List.size_toArray,<-hl];exact h4) (by rw[hk];exact⟨_,I',q⟩)
 . have hk:(k+(its.toArray.size:Int)).toNat=j:=by
     rw[seqIndex_neg (by omega) h3]at h1
     rw[List.size_toArray,<-hl]
     exact Option.some.inj h1
   exact PySem.W.ki_setBack ho (by omega) (by rw[List.size_toArray,<-hl];exact h3) (by omega) (by rw[hk];exact⟨_,I',q⟩)
theorem Xy (lo hi:Option Int) (n:Nat):(sliceBounds lo hi none n).1=((HT.sIx n 0 lo:Nat):Int)/\(sliceBounds lo hi none n).2.1=((HT.sIx n n hi:Nat):Int)/\(sliceBounds lo hi none n).2.2=1:=by
 refine⟨?_,?_,rfl⟩
 . cases lo with
   | none=>simp [sliceBounds,HT.sIx]
   | some i=>
     simp only[sliceBounds,HT.sIx,Option.getD_none,show (1:Int) > 0 by decide,if_true]
     by_cases h:i < 0
     . simp only[h,if_true]<;>omega
     . simp only[h,if_false]<;>omega
 . cases hi with
   | none=>simp [sliceBounds,HT.sIx]
   | some i=>
     simp only[sliceBounds,HT.sIx,Option.getD_none,show (1:Int) > 0 by decide,if_true]
     by_cases h:i < 0
     . simp only[h,if_true]<;>omega
     . simp only[h,if_false]<;>omega
theorem YG (its:List Value) (lo hi:Option Int):slicePick its.toArray lo hi none=((its.drop (HT.sIx its.length 0 lo)).take (HT.sIx its.length its.length hi - HT.sIx its.length 0 lo)).toArray:=by
 obtain⟨h1,h2,h3⟩:=Xy lo hi its.toArray.size
 unfold slicePick
 rw[h1,h2,h3]
 simp only[sliceRange_one,pick_run,List.size_toArray]<;>rfl
def RE (K:PySem.W.Frag):V->Option Int->Option Int->Hp->VK->Prop:=λx lo hi H Q=>∃a xs,x=.ref a/\SqL K H a xs/\∀p,H p=none->Q (.ref p) (upd H p (.lst (Jv xs lo hi)))
theorem jF:Ri X (RE X.K):=by
 intro pins s σ H x v vl vu lo hi sl Q I rx hs pl pu h
 obtain⟨a,xs,rfl,hx,q⟩:=h
 cases rx
 obtain⟨its,r,ht,hz⟩:=I.list hx
 have hlen:=r.length
 refine⟨"list",_,slot_list_getitem.lookup,ht.isList.typeIs,?_⟩
 refine wpAny_getItem_list_slice ht.isList hs pl pu .none (by simp) ?_ (by rw[List.size_toArray]<;>omega)
 rw[YG,<-hlen]
 refine⟨.ref s.heap.objs.size,_,I.laid (t':=s.toks) (o:=.lst (Jv xs lo hi)) (λb ob q=>Heap.get?_push_of_some _ q) (Nat.le_refl _) ?_,rfl,q _ (I.hok.fresh (Nat.le_refl _))⟩
 exact⟨Nat.le_trans (WT xs lo hi) hz,_,0,(r.drop (HT.sIx xs.length 0 lo)).take (HT.sIx xs.length xs.length hi - HT.sIx xs.length 0 lo),Heap.get?_push_size _ rfl⟩
def J9:V->Bool
 | .non=>true
 | .bl _=>true
 | .int _=>true
 | .str _=>true
 | _=>false
def vM:V->V->Bool
 | .non,.non=>true
 | .bl a,.bl b=>a==b
 | .bl a,.int b=>(if a then 1 else 0)==b
 | .int a,.bl b=>a==(if b then 1 else 0)
 | .int a,.int b=>a==b
 | .str a,.str b=>a==b
 | _,_=>false
theorem xi {A:Around} {s:Shared} {y x:V} {u v:Value} (ry:qN y u) (rx:qN x v) (fy:J9 y=true) (fx:J9 x=true):SeqAt.EqAt A s u v (vM y x):=by
 cases y with
 | non=>
   cases ry
   cases x with
   | non=>cases rx;exact SeqAt.EqAt.same _
   | bl b=>cases rx;exact SeqAt.EqAt.none_bool b
   | int b=>obtain⟨t,rfl⟩:=rx;exact SeqAt.EqAt.none_int b t
   | str b=>obtain⟨t,rfl⟩:=rx;exact SeqAt.EqAt.none_str b t
   | _=>exact absurd (show false=true from fx) Bool.false_ne_true
 | bl a=>
   cases ry
   cases x with
   | non=>cases rx;exact SeqAt.EqAt.bool_none a
   | bl b=>cases rx;exact SeqAt.EqAt.bool_bool a b
   | int b=>obtain⟨t,rfl⟩:=rx;exact SeqAt.EqAt.bool_int a b t
   | str b=>obtain⟨t,rfl⟩:=rx;exact SeqAt.EqAt.bool_str a b t
   | _=>exact absurd (show false=true from fx) Bool.false_ne_true
 | int a=>
   obtain⟨t',rfl⟩:=ry
   cases x with
   | non=>cases rx;exact SeqAt.EqAt.int_none a t'
   | bl b=>cases rx;exact SeqAt.EqAt.int_bool a t' b
   | int b=>obtain⟨t,rfl⟩:=rx;exact SeqAt.EqAt.int_int a t' b t
   | str b=>obtain⟨t,rfl⟩:=rx;exact SeqAt.EqAt.int_str a t' b t
   | _=>exact absurd (show false=true from fx) Bool.false_ne_true
 | str a=>
   obtain⟨t',rfl⟩:=ry
   cases x with
   | non=>cases rx;exact SeqAt.EqAt.str_none a t'
   | bl b=>cases rx;exact SeqAt.EqAt.str_bool a t' b
   | int b=>obtain⟨t,rfl⟩:=rx;exact SeqAt.EqAt.str_int a t' b t
   | str b=>obtain⟨t,rfl⟩:=rx;exact SeqAt.EqAt.str_str a t' b t
   | _=>exact absurd (show false=true from fx) Bool.false_ne_true
 | _=>exact absurd (show false=true from fy) Bool.false_ne_true
def VM (x:V) (u:Value):Bool:=match u with
 | .none=>vM .non x
 | .bool b=>vM (.bl b) x
 | .int i _=>vM (.int i) x
 | .str z _=>vM (.str z) x
 | _=>false
theorem xh {x y:V} {u:Value} (r:qN y u) (f:J9 y=true):VM x u=vM y x:=by
 cases y with
 | non=>cases r;rfl
 | bl b=>cases r;rfl
 | int i=>obtain⟨t,rfl⟩:=r;rfl
 | str z=>obtain⟨t,rfl⟩:=r;rfl
 | _=>exact absurd (show false=true from f) Bool.false_ne_true
theorem Z2 {x:V}:∀{xs:List V} {us:List Value},qD xs us->xs.all J9=true->us.any (VM x)=xs.any λy=>vM y x
 | _,_,.nil,_=>rfl
 | y::xs,u::us,.cons r t,f=>by
   rw[List.all_cons,Bool.and_eq_true]at f
   rw[List.any_cons,List.any_cons,xh r f.1,Z2 t f.2]
theorem JZ {A:Around} {s:Shared} {x:V} {v:Value} (rx:qN x v) (fx:J9 x=true):∀{xs:List V} {us:List Value},qD xs us->xs.all J9=true->∀u∈us,SeqAt.EqAt A s u v (VM x u)
 | _,_,.nil,_=>λu hu=>by cases hu
 | y::xs,u::us,.cons r t,f=>λu' hu=>by
   rw[List.all_cons,Bool.and_eq_true]at f
   rcases List.mem_cons.mp hu with rfl | hu
   . rw[xh r f.1];exact xi r rx f.1 fx
   . exact JZ rx fx t f.2 u' hu
def YJ (x:V) (xs:List V):Bool:=xs.any λy=>vM y x
def Ge (K:PySem.W.Frag) (neg:Bool):R2:=λx y H Q=>∃p xs,y=.ref p/\(SqL K H p xs\/SqT K H p xs)/\J9 x=true/\xs.all J9=true/\Q (.bl (if neg then !YJ x xs else YJ x xs)) H
theorem Y5:ZF X (compareOp .In) (Ge X.K false):=by
 intro pins s σ H x y v u Q I rx ry h
 obtain⟨p,xs,rfl,hq,fx,fs,q⟩:=h
 cases ry
 rcases hq with hq | hq
 . obtain⟨its,r,pl,hz⟩:=I.list hq
   refine SeqAt.in_listAt (VM x) pl.isList (λw hw=>JZ rx fx r fs w (by simpa using hw)) ⟨.bl _,H,I,rfl,?_⟩
   rw[show its.toArray.any (VM x)=its.any (VM x) by simp,Z2 r fs]
   exact q
 . obtain⟨its,r,pl,hz⟩:=I.tuple hq
   refine SeqAt.in_tupleAt (VM x) pl (λw hw=>JZ rx fx r fs w (by simpa using hw)) ⟨.bl _,H,I,rfl,?_⟩
   rw[show its.toArray.any (VM x)=its.any (VM x) by simp,Z2 r fs]
   exact q
theorem ZQ:ZF X (compareOp .NotIn) (Ge X.K true):=by
 intro pins s σ H x y v u Q I rx ry h
 obtain⟨p,xs,rfl,hq,fx,fs,q⟩:=h
 cases ry
 rcases hq with hq | hq
 . obtain⟨its,r,pl,hz⟩:=I.list hq
   refine SeqAt.notIn_listAt (VM x) pl.isList (λw hw=>JZ rx fx r fs w (by simpa using hw)) ⟨.bl _,H,I,rfl,?_⟩
   rw[show its.toArray.any (VM x)=its.any (VM x) by simp,Z2 r fs]
   exact q
 . obtain⟨its,r,pl,hz⟩:=I.tuple hq
   refine SeqAt.notIn_tupleAt (VM x) pl (λw hw=>JZ rx fx r fs w (by simpa using hw)) ⟨.bl _,H,I,rfl,?_⟩
   rw[show its.toArray.any (VM x)=its.any (VM x) by simp,Z2 r fs]
   exact q
theorem qH:Qr X (.builtin "len") (λxs H Q=>∃p ys,xs=[.ref p]/\(SqL X.K H p ys\/SqT X.K H p ys)/\Q (.int ys.length) H):=by
 intro pins s σ H xs us Q I r h
 obtain⟨p,ys,rfl,hq,q⟩:=h
 obtain⟨u,rfl,rx⟩:=QU r
 cases rx
 have hn:=zm
 rcases hq with hq | hq
 . obtain⟨its,r',pl,hz⟩:=I.list hq
   have hlen:=r'.length
   exact Calls.call_len_list pl.isList (by simp only[List.size_toArray]<;>omega) ⟨.int ys.length,H,I.tok _,⟨s.toks+1,by rw[List.size_toArray,hlen]⟩,q⟩
 . obtain⟨its,r',pl,hz⟩:=I.tuple hq
   have hlen:=r'.length
   exact len_tuple pl (by simp only[List.size_toArray]<;>omega) ⟨.int ys.length,H,I.tok _,⟨s.toks+1,by rw[List.size_toArray,hlen]⟩,q⟩
theorem jf:Qr X (.builtin "len") (λxs H Q=>∃z,xs=[.str z]/\z.length<=sizeLine/\Q (.int z.length) H):=by
 intro pins s σ H xs us Q I r h
 obtain⟨z,rfl,hz,q⟩:=h
 obtain⟨u,rfl,t,rfl⟩:=QU r
 have hn:=zm
 exact len_str (by omega) ⟨.int z.length,H,I.tok _,⟨_,rfl⟩,q⟩
theorem Jw:Qr X (.type "list") (λxs H Q=>∃p ys,xs=[.ref p]/\(SqL X.K H p ys\/SqT X.K H p ys)/\∀l,H l=none->Q (.ref l) (upd H l (.lst ys))):=by
 intro pins s σ H xs us Q I r h
 obtain⟨p,ys,rfl,hq,q⟩:=h
 obtain⟨u,rfl,rx⟩:=QU r
 cases rx
 have fin:∀(its:List Value),qD ys its->ys.length<=sizeLine->∀(h':Heap) (c':Nat),(∀b o',s.heap.get? b=some o'->h'.get? b=some o')->
     h'.get? s.heap.objs.size=some {cls:=.type "list",dict:=none,data:=.seq its.toArray c',slots:=#[]}->EP X pins σ Q (.ref s.heap.objs.size) {s with heap:=h'}:=λits r' hz h' c' kp e=>
   ⟨.ref s.heap.objs.size,_,I.laid (t':=s.toks) kp (Nat.le_refl _) (show qI X.prog X.w _ h' _ (.lst ys) from⟨hz,its,c',r',e⟩),rfl,q _ (I.hok.fresh (Nat.le_refl _))⟩
 rcases hq with hq | hq
 . obtain⟨its,r',pl,hz⟩:=I.list hq
   have hlen:=r'.length
   obtain⟨o,ho,hc,n,hd⟩:=pl.isList
   exact call_list_seq p (.inl rfl) ho hc hd (λh' c' kp e=>fin its r' hz h' c' kp e) (by simp only[List.size_toArray]<;>omega)
 . obtain⟨its,r',pl,hz⟩:=I.tuple hq
   have hlen:=r'.length
   obtain⟨o,ho,hc,n,hd⟩:=pl
   exact call_list_seq p (.inr rfl) ho hc hd (λh' c' kp e=>fin its r' hz h' c' kp e) (by simp only[List.size_toArray]<;>omega)
theorem Qm:Qr X (.type "tuple") (λxs H Q=>∃p ys,xs=[.ref p]/\((SqL X.K H p ys/\∀l,H l=none->Q (.ref l) (upd H l (.tup ys)))\/(SqT X.K H p ys/\Q (.ref p) H))):=by
 intro pins s σ H xs us Q I r h
 obtain⟨p,ys,rfl,h⟩:=h
 obtain⟨u,rfl,rx⟩:=QU r
 cases rx
 rcases h with ⟨hq,q⟩ | ⟨hq,q⟩
 . obtain⟨its,r',pl,hz⟩:=I.list hq
   have hlen:=r'.length
   refine call_tuple_list pl.isList (λh' kp=>?_) (by simp only[List.size_toArray]<;>omega)
   have I1:qx X pins σ H {s with heap:=h'}:=I.kept (t':=s.toks) kp
   have I2:qx X pins σ (upd H h'.objs.size (.tup ys)) {s with heap:=h'.push {cls:=.type "tuple",data:=.seq its.toArray}}:=
     I1.laid (t':=s.toks) (λb o e=>Heap.get?_push_of_some _ e) (Nat.le_refl _) (show qI X.prog X.w _ _ _ (.tup ys) from⟨hz,its,r',IsTup.new _ _⟩)
   exact⟨.ref h'.objs.size,_,I2,rfl,q _ (I1.hok.fresh (Nat.le_refl _))⟩
 . obtain⟨its,r',pl,hz⟩:=I.tuple hq
   exact call_tuple_same pl ⟨.ref p,H,I,rfl,q⟩
def Rk (K:PySem.W.Frag) (T:String) (x:V) (H:Hp):Prop:=match x with
 | .str _=>T="str"
 | .int _=>T="int"
 | .ref p=>(T="list"/\∃xs,SqL K H p xs)\/(T="tuple"/\∃o,K.lookup p=some o/\o.cls=.type "tuple"/\o.dict=none)\/
     (T="dict"/\((∃kvs,H p=some (.dK kvs))\/∃kvs,H p=some (.dT kvs)))\/(T="set"/\∃S n,H p=some (.set S n))
 | _=>False
theorem vR {pins:List (Addr×Obj)} {σ:St} {H:Hp} {s:Shared} {T:String} {x:V} {v:Value} (I:qx X pins σ H s) (r:qN x v) (ty:Rk X.K T x H):
   s.TypeIs v T/\∀a,v=.ref a->∃ob,s.heap.get? a=some ob/\ob.dict=none:=by
 cases x with
 | str z=>
   obtain⟨t,rfl⟩:=r
   cases (show T="str" from ty)
   exact⟨typeIs_str s z t,λ_ e=>nomatch e⟩
 | int i=>
   obtain⟨t,rfl⟩:=r
   cases (show T="int" from ty)
   exact⟨typeIs_int s i t,λ_ e=>nomatch e⟩
 | ref p=>
   cases r
   rcases ty with ⟨rfl,xs,hq⟩ | ⟨rfl,o,hk,hc,hd⟩ | ⟨rfl,hk⟩ | ⟨rfl,S,n,hk⟩
   . obtain⟨its,_,pl,_⟩:=I.list hq
     refine⟨pl.isList.typeIs,λa e=>?_⟩
     cases e
     obtain⟨o,n,e,c,hd,_⟩:=pl
     exact⟨o,e,hd⟩
   . refine⟨⟨o,I.kIn p o hk,hc⟩,λa e=>?_⟩
     cases e
     exact⟨o,I.kIn _ o hk,hd⟩
   . have z:∃o,s.heap.get? p=some o/\o.ExactDict:=by
       rcases hk with ⟨kvs,hk⟩ | ⟨kvs,hk⟩
       . obtain⟨_,_,_,_,o,_,_,e,ex,_⟩:=I.hok p _ hk
         exact⟨o,e,ex⟩
       . obtain⟨_,_,_,_,o,_,_,e,ex,_⟩:=I.hok p _ hk
         exact⟨o,e,ex⟩
     obtain⟨o,e,ex⟩:=z
     refine⟨⟨o,e,ex.1⟩,λa e2=>?_⟩
     cases e2
     exact⟨o,e,ex.2.1⟩
   . obtain⟨o,_,_,_,e,ex,_⟩:=I.hok p _ hk
     refine⟨⟨o,e,ex.1⟩,λa e2=>?_⟩
     cases e2
     exact⟨o,e,ex.2.1⟩
 | _=>exact False.elim ty
def Rs (K:PySem.W.Frag) (T:String) (r:V->List V->Hp->VK->Prop) (to:TE):TE:=λσ H Q=>to σ H λx H1=>Rk K T x H1/\r x [] H1 Q
def tBM (K:PySem.W.Frag) (T:String) (r:V->List V->Hp->VK->Prop) (to:TE) (t:TA):TE:=λσ H Q=>to σ H λx H1=>Rk K T x H1/\t σ H1 λxs H2=>r x xs H2 Q
variable {o e:Expr} {es:List Expr} {to:TE} {t:TA} {name:Str} {apos cpos:Pos} {T id:String} {r:V->List V->Hp->VK->Prop}
theorem yP (pa:PlainAttrs T) (slot:Slot T name id) (hty:typeOf (.builtin id)=pure (.type "method_descriptor")) (hm:KL X id r) (ho:JE X o to) (hbase:attributeBase o name X.env (eval o X.env)=eval o X.env:=by rfl) (hline:(apos.endLine==cpos.line)=true:=by rfl):JE X (.Call (.Attribute o name apos) [] [] cpos) (Rs X.K T r to):=.of (by
 have ho:=ho.to
 intro pins s σ H Q I h
 refine wpAny_Call_method0_late hbase hline (jg (ho pins s σ H _ I h) λv s1 ⟨x,H1,I1,r1,ty,q1⟩=>?_)
 obtain⟨h1,h2⟩:=vR I1 r1 ty
 exact⟨T,id,pa,slot,hty,h1,h2,Calls.callWith_builtin rfl (PySem.evalArgs_none (hm pins s1 σ H1 x [] v [] Q I1 r1 .nil q1))⟩)
theorem Gh (pa:PlainAttrs T) (slot:Slot T name id) (hty:typeOf (.builtin id)=pure (.type "method_descriptor")) (hm:KL X id r) (ho:PE X o to) (ha:PA X (e::es) t)
   (hbase:attributeBase o name X.env (eval o X.env)=eval o X.env:=by rfl)
   (hfew:((backTo cpos (starEach (e::es) X.env)).all (λx=> !x.1)&&(backToKw cpos (keywordEach [] X.env)).all (λx=>x.1.isSome)
     &&decide ((e::es).length+([]:List Keyword).length+(if ([]:List Keyword).isEmpty then 0 else 1) < 30))=true:=by rfl)
   (hline:(apos.endLine==cpos.line)=true:=by rfl) (hs:starEach (e::es) X.env=(false,eval e X.env)::starEach es X.env:=by rfl) (hplain:(backTo cpos (starEach es X.env)).any (·.1)=false:=by rfl):
   PE X (.Call (.Attribute o name apos) (e::es) [] cpos) (tBM X.K T r to t):=by
 intro pins s σ H Q I h
 refine wpAny_Call_method_late hbase hfew hline rfl (jg (ho pins s σ H _ I h) λv s1 ⟨x,H1,I1,r1,ty,q1⟩=>?_)
 obtain⟨h1,h2⟩:=vR I1 r1 ty
 refine⟨T,id,pa,slot,hty,h1,h2,?_⟩
 have hA:=ha cpos pins s1 σ H1 _ I1 q1
 rw[hs]at hA ⊢
 refine Calls.callWith_builtin (by show (false || (backTo cpos (starEach es X.env)).any (·.1))=false;rw[hplain]<;>rfl) (Calls.evalArgs_plain ?_)
 exact jg hA λus s2 ⟨vs,H2,I2,r2,q2⟩=>hm pins s2 σ H2 x vs v us Q I2 r1 r2 q2
theorem jm (pa:PlainAttrs T) (slot:Slot T name id) (hty:typeOf (.builtin id)=pure (.type "method_descriptor")) (hm:KL X id r) (ho:JE X o to) (ha:JA X (e::es) t) (hbase:attributeBase o name X.env (eval o X.env)=eval o X.env:=by rfl) (hfew:((backTo cpos (starEach (e::es) X.env)).all (λx=> !x.1)&&(backToKw cpos (keywordEach [] X.env)).all (λx=>x.1.isSome)
     &&decide ((e::es).length+([]:List Keyword).length+(if ([]:List Keyword).isEmpty then 0 else 1) < 30))=true:=by rfl) (hline:(apos.endLine==cpos.line)=true:=by rfl) (hs:starEach (e::es) X.env=(false,eval e X.env)::starEach es X.env:=by rfl) (hplain:(backTo cpos (starEach es X.env)).any (·.1)=false:=by rfl):JE X (.Call (.Attribute o name apos) (e::es) [] cpos) (tBM X.K T r to t):=.of (Gh pa slot hty hm ho.to ha.to hbase hfew hline hs hplain)
end
end L2
namespace L2
open PySem PySem.Spec PyProof.Rows
def R6 (X:Cx) (id:String) (r:V->List V->Hp->VK->Prop):Prop:=
 ∀(pins:List (Addr×Obj)) (s:Shared) (σ:St) (H:Hp) (x:V) (xs:List V) (v:Value) (us:List Value) (Q:VK),qx X pins σ H s->qN x v->qD xs us->r x xs H Q->
   wpAny (model X.prog X.w) X.A (call (.builtin id) (v::us)) (EP X pins σ Q) X.xe s
theorem qD.one:∀{x:V} {us:List Value},qD [x] us->∃u,us=[u]/\qN x u
 | _,_,.cons r .nil=>⟨_,rfl,r⟩
theorem qD.zero:∀{us:List Value},qD [] us->us=[]
 | _,.nil=>rfl
theorem qD.eraseIdx:∀{xs:List V} {us:List Value} (i:Nat),qD xs us->qD (xs.eraseIdx i) (us.eraseIdx i)
 | _,_,_,.nil=>.nil
 | _,_,0,.cons _ t=>t
 | _,_,i+1,.cons r t=>.cons r (qD.eraseIdx i t)
theorem qD.reverse {xs:List V} {us:List Value} (h:qD xs us):qD xs.reverse us.reverse:=by
 induction h with
 | nil=>exact .nil
 | cons r t ih=>rw[List.reverse_cons,List.reverse_cons];exact qD.append ih (.cons r .nil)
theorem Xa {α:Type}:∀(l:List α) (i:Nat),(l.eraseIdx i).length<=l.length
 | [],_=>Nat.le_refl _
 | _::_,0=>Nat.le_succ _
 | _::r,i+1=>Nat.succ_le_succ (Xa r i)
section
variable {X:Cx} {pins:List (Addr×Obj)} {σ:St} {H:Hp} {s:Shared} {l b:Addr} {xs ys zs:List V}
theorem qx.lset {its its':List Value} {n:Nat} {f:Array Value->Array Value} {t':Nat} (I:qx X pins σ H s) (hH:H l=some (.lst xs))
   (e:s.heap.get? l=some {cls:=.type "list",data:=.seq its.toArray n}) (hf:f its.toArray=its'.toArray) (hv:qD ys its') (hz:ys.length<=sizeLine):
   qx X pins σ (upd H l (.lst ys)) {s with heap:=s.heap.update l (Obj.mapSeq f),toks:=t'}:=by
 have q:=PySem.IsL.update e f
 rw[hf]at q
 refine I.write (x:=l) (e:=l) (by rw[hH];exact trivial) (.inl rfl) (λb' u hb hu=>(Heap.get?_update_other s.heap (Obj.mapSeq f) (Ne.symm hb)).trans hu) ⟨_,q⟩ ?_
 exact⟨hz,its',_,hv,q⟩
theorem qx.lnew {its:List Value} {t':Nat} (I:qx X pins σ H s) (hv:qD ys its) (hz:ys.length<=sizeLine):
   qx X pins σ (upd H s.heap.objs.size (.lst ys)) {s with heap:=s.heap.push {cls:=.type "list",data:=.seq its.toArray},toks:=t'}:=
 I.laid (λ_ _ q=>Heap.get?_push_of_some _ q) (Nat.le_refl _) ⟨hz,its,0,hv,Heap.get?_push_size _ rfl⟩
theorem qx.fresh (I:qx X pins σ H s):H s.heap.objs.size=none:=I.hok.fresh (Nat.le_refl _)
theorem qx.lstM (I:qx X pins σ H s) (hH:H l=some (.lst xs)):xs.length<=sizeLine/\∃(its:List Value) (n:Nat),qD xs its/\xs.length=its.length/\s.heap.get? l=some {cls:=.type "list",data:=.seq its.toArray n}:=by
 obtain⟨z,its,n,r,e⟩:=I.hok l _ hH
 exact⟨z,its,n,r,r.length,e⟩
end
section
variable {X:Cx}
def Uj:V->List V->Hp->VK->Prop:=λx vs H Q=>∃l xs y,x=.ref l/\vs=[y]/\H l=some (.lst xs)/\xs.length < sizeLine/\Q .non (upd H l (.lst (xs++[y])))
theorem jR:R6 X "list.append" Uj:=by
 intro pins s σ H x vs v us Q I rx rv h
 obtain⟨l,xs,y,rfl,rfl,hH,hz,q⟩:=h
 cases rx
 obtain⟨u,rfl,ru⟩:=rv.one
 obtain⟨z,its,n,r,hl,e⟩:=I.lstM hH
 refine call_meets F.slot_list_append ⟨_,e,rfl⟩ F.entry_list_append (F.args_list_append_2 _ _) (PySem.list_append l its.toArray n u (by rw[List.size_toArray];omega)) ⟨e,?_⟩
 refine⟨.non,_,I.lset (its':=its++[u]) hH e (by simp) (r.append (.cons ru .nil)) ?_,rfl,q⟩
 rw[List.length_append,List.length_singleton]
 omega
def uX:V->List V->Hp->VK->Prop:=λx vs H Q=>∃l xs i k y,x=.ref l/\vs=[.int i]/\H l=some (.lst xs)/\-(2^63)<=i/\i < 2^63/\seqIndex? i xs.length=some k/\xs[k]?=some y/\Q y (upd H l (.lst (xs.eraseIdx k)))
theorem yw:R6 X "list.pop" uX:=by
 intro pins s σ H x vs v us Q I rx rv h
 obtain⟨l,xs,i,k,y,rfl,rfl,hH,h1,h2,hk,hy,q⟩:=h
 cases rx
 obtain⟨u,rfl,ru⟩:=rv.one
 obtain⟨t,rfl⟩:=ru
 obtain⟨z,its,n,r,hl,e⟩:=I.lstM hH
 obtain⟨w,hw,rw'⟩:=r.get hy
 refine call_meets F.slot_list_pop ⟨_,e,rfl⟩ F.entry_list_pop (F.args_list_pop_2 _ _)
   (MeetsSeq.list_pop_at l its.toArray n i t k w (fitsIndex_both h1 h2) (by rw[List.size_toArray,<-hl];exact hk) (by rw[<-Array.getElem?_toList];exact hw) (by rw[List.size_toArray];omega)) ⟨e,?_⟩
 refine⟨y,_,I.lset (its':=its.eraseIdx k) hH e ?_ (r.eraseIdx k) ?_,rw',q⟩
 . show its.toArray.eraseIdxIfInBounds k=(its.eraseIdx k).toArray
   rw[List.eraseIdxIfInBounds_toArray]
 . have:=Xa xs k
   omega
def kW:V->List V->Hp->VK->Prop:=λx vs H Q=>∃l xs,x=.ref l/\vs=[]/\H l=some (.lst xs)/\Q .non (upd H l (.lst xs.reverse))
theorem Vz:R6 X "list.reverse" kW:=by
 intro pins s σ H x vs v us Q I rx rv h
 obtain⟨l,xs,rfl,rfl,hH,q⟩:=h
 cases rx
 have hus:=rv.zero
 subst hus
 obtain⟨z,its,n,r,hl,e⟩:=I.lstM hH
 refine call_meets F.slot_list_reverse ⟨_,e,rfl⟩ F.entry_list_reverse (F.args_list_reverse_1 _) (AutoSeq1.list_reverse_list_0 l its.toArray n (by rw[List.size_toArray];omega)) ⟨e,?_⟩
 refine⟨.non,_,I.lset (its':=its.reverse) hH e (by simp) r.reverse ?_,rfl,q⟩
 rw[List.length_reverse]
 omega
def RI:R2:=λx y H Q=>∃l b xs zs,x=.ref l/\y=.ref b/\H l=some (.lst xs)/\H b=some (.lst zs)/\xs.length+zs.length<=sizeLine/\∀p,H p=none->Q (.ref p) (upd H p (.lst (xs++zs)))
theorem Zy:ZF X (binaryOp .Add) RI:=by
 intro pins s σ H x y v u Q I rx ry h
 obtain⟨l,b,xs,zs,rfl,rfl,hH,hB,hz,q⟩:=h
 cases rx
 cases ry
 obtain⟨z,its,n,r,hl,e⟩:=I.lstM hH
 obtain⟨z2,its2,n2,r2,hl2,e2⟩:=I.lstM hB
 refine PySem.P.add_list e e2 ?_ (by rw[List.size_toArray,List.size_toArray];omega)
 have ea:its.toArray++its2.toArray=(its++its2).toArray:=by simp
 rw[ea]
 exact⟨.ref _,_,I.lnew (t':=s.toks) (r.append r2) (by rw[List.length_append];omega),rfl,q _ I.fresh⟩
end
section
variable {prog:Program} {w:World} {A:Around} {E:Value->Shared->Prop} {s:Shared}
set_option maxRecDepth 100000 in
end
section
variable {X:Cx}
end
end L2
namespace L2
open PySem PySem.Spec PyProof.Rows
section
variable {κ:Type} [DecidableEq κ]
def jI (kvs:List (κ×V)) (k:κ):Option V:=(kvs.find? λkv=>decide (kv.1=k)).map (·.2)
def jW (kvs:List (κ×V)) (k:κ) (v:V):List (κ×V):=
 if (kvs.any λkv=>decide (kv.1=k))=true then kvs.map (λkv=>if kv.1=k then (kv.1,v) else kv) else kvs++[(k,v)]
theorem jq {p:κ×V} {r:List (κ×V)} {k:κ} (e:p.1=k):jI (p::r) k=some p.2:=by simp [jI,List.find?_cons,e]
theorem jr {p:κ×V} {r:List (κ×V)} {k:κ} (e:¬p.1=k):jI (p::r) k=jI r k:=by simp [jI,List.find?_cons,e]
theorem QG (k:κ):∀kvs:List (κ×V),(kvs.any λkv=>decide (kv.1=k))=(jI kvs k).isSome
 | []=>rfl
 | p::r=>by
   rw[List.any_cons]
   by_cases e:p.1=k
   . simp only[jq e,decide_eq_true e,Bool.true_or,Option.isSome_some]
   . rw[jr e,decide_eq_false e,Bool.false_or];exact QG k r
theorem Wd (k j:κ) (y:V):∀kvs:List (κ×V),jI (kvs.map λkv=>if kv.1=k then (kv.1,y) else kv) j=(jI kvs j).map λx=>if j=k then y else x
 | []=>rfl
 | p::r=>by
   have ih:=Wd k j y r
   rw[List.map_cons]
   by_cases h:p.1=k
   . rw[if_pos h]
     by_cases e:p.1=j
     . rw[jq (p:=(p.1,y)) e,jq e,Option.map_some,if_pos (e.symm.trans h)]
     . rw[jr (p:=(p.1,y)) e,jr e,ih]
   . rw[if_neg h]
     by_cases e:p.1=j
     . rw[jq (p:=p) e,jq e,Option.map_some,if_neg (λz=>h (e.trans z))]
     . rw[jr (p:=p) e,jr e,ih]
theorem YO (k j:κ) (y:V):∀kvs:List (κ×V),jI kvs k=none->jI (kvs++[(k,y)]) j=if j=k then some y else jI kvs j
 | [],_=>by
   by_cases e:k=j
   . rw[if_pos e.symm];exact jq (p:=(k,y)) e
   . rw[if_neg (λz=>e z.symm)];exact jr (p:=(k,y)) e
 | p::r,hn=>by
   rw[List.cons_append]
   have hk:¬p.1=k:=λz=>by rw[jq z]at hn;cases hn
   rw[jr hk]at hn
   have ih:=YO k j y r hn
   by_cases e:p.1=j
   . rw[jq e,jq e,if_neg (λz=>hk (e.trans z))]
   . rw[jr e,jr e,ih]
theorem Wc (kvs:List (κ×V)) (k j:κ) (y:V):jI (jW kvs k y) j=if j=k then some y else jI kvs j:=by
 unfold jW
 by_cases a:(kvs.any λkv=>decide (kv.1=k))=true
 . rw[if_pos a,Wd]
   rw[QG]at a
   by_cases e:j=k
   . obtain⟨x,hx⟩:=Option.isSome_iff_exists.mp a
     rw[if_pos e,e,hx,Option.map_some,if_pos rfl]
   . rw[if_neg e]
     cases jI kvs j with
     | none=>rfl
     | some x=>rw[Option.map_some,if_neg e]
 . rw[if_neg a]
   refine YO k j y kvs ?_
   rw[QG]at a
   cases q:jI kvs k with
   | none=>rfl
   | some x=>rw[q]at a;exact(a rfl).elim
theorem J0 (kvs:List (κ×V)) (k:κ) (v:V):(jW kvs k v).length<=kvs.length+1:=by
 unfold jW
 split
 . rw[List.length_map];omega
 . rw[List.length_append,List.length_cons,List.length_nil];omega
theorem k4 {kvs:List (κ×V)} {k:κ} (v:V) (h:jI kvs k=none):jW kvs k v=kvs++[(k,v)]:=by
 unfold jW
 rw[QG,h]
 exact if_neg (by decide)
theorem JF.isSome_eq {o:Option V} {u:Option Value} (r:JF o u):o.isSome=u.isSome:=by
 cases o with
 | none=>cases u with
   | none=>rfl
   | some _=>exact(show False from r).elim
 | some _=>cases u with
   | none=>exact(show False from r).elim
   | some _=>rfl
theorem KV.val {kvs:List (κ×V)} {vs:List (κ×Value)} (r:KV kvs vs) (k:κ):JF (jI kvs k) (valueAt vs k):=by
 unfold KV at r
 induction r with
 | nil=>exact True.intro
 | @cons p q ps qs h t ih=>
   obtain⟨h1,h2⟩:=h
   by_cases e:p.1=k
   . have e':q.1=k:=h1.symm.trans e
     have b:valueAt (q::qs) k=some q.2:=by simp [valueAt,List.find?_cons,e']
     rw[jq e,b];exact h2
   . have e':¬q.1=k:=λz=>e (h1.trans z)
     have b:valueAt (q::qs) k=valueAt qs k:=by simp [valueAt,List.find?_cons,e']
     rw[jr e,b];exact ih
theorem KV.any {kvs:List (κ×V)} {vs:List (κ×Value)} (r:KV kvs vs) (k:κ):(kvs.any λkv=>decide (kv.1=k))=vs.any λkv=>decide (kv.1=k):=by
 unfold KV at r
 induction r with
 | nil=>rfl
 | cons h t ih=>rw[List.any_cons,List.any_cons,ih,h.1]
theorem KV.repl {kvs:List (κ×V)} {vs:List (κ×Value)} (r:KV kvs vs) (k:κ) {y:V} {u:Value} (ry:qN y u):
   KV (kvs.map λkv=>if kv.1=k then (kv.1,y) else kv) (vs.map λkv=>if kv.1=k then (kv.1,u) else kv):=by
 unfold KV at r ⊢
 induction r with
 | nil=>exact .nil
 | @cons p q ps qs h t ih=>
   rw[List.map_cons,List.map_cons]
   refine .cons ?_ ih
   obtain⟨h1,h2⟩:=h
   by_cases e:p.1=k
   . rw[if_pos e,if_pos (h1.symm.trans e)];exact⟨h1,ry⟩
   . rw[if_neg e,if_neg (λz=>e (h1.trans z))];exact⟨h1,h2⟩
theorem KV.put {kvs:List (κ×V)} {vs:List (κ×Value)} (r:KV kvs vs) (k:κ) {y:V} {u:Value} (ry:qN y u):KV (jW kvs k y) (stored vs k u):=by
 unfold jW stored
 rw[r.any k]
 by_cases e:(vs.any λkv=>decide (kv.1=k))=true
 . rw[if_pos e,if_pos e];exact r.repl k ry
 . rw[if_neg e,if_neg e];exact Paired.snoc r ⟨rfl,ry⟩
theorem KV.length {kvs:List (κ×V)} {vs:List (κ×Value)} (r:KV kvs vs):kvs.length=vs.length:=Paired.length r
end
theorem WK {P:Program} {w:World} {k:ja} {u:Value} (r:qN (kV k) u):(jB P w).is k u=true:=by
 cases k with
 | inl i=>obtain⟨t,e⟩:=(show ∃t,u=Value.int i t from r);subst e;exact WG P w i t
 | inr x=>obtain⟨t,e⟩:=(show ∃t,u=Value.str x t from r);subst e;exact WF P w x t
theorem Xc {P:Program} {w:World}:∀{ks:List ja} {us:List Value},qD (ks.map kV) us->ItemsAre (jB P w) ks us
 | [],_,r=>by rw[List.map_nil]at r;cases r;exact .nil
 | k::ks,_,r=>by
   rw[List.map_cons]at r
   cases r with
   | cons h t=>exact .cons (WK h) (Xc t)
abbrev KT (H:Hp):List (List ja×V)->List (List ja×Addr×Value)->Prop:=Paired λp q=>p.1=q.1/\H q.2.1=some (.tup (p.1.map kV))/\qN p.2 q.2.2
theorem KT.val {H:Hp} {kvs:List (List ja×V)} {xs:List (List ja×Addr×Value)} (r:KT H kvs xs) (k:List ja):JF (jI kvs k) ((atKey xs k).map (·.2)):=by
 induction r with
 | nil=>exact True.intro
 | @cons p q ps qs h t ih=>
   obtain⟨h1,_,h2⟩:=h
   by_cases e:p.1=k
   . have e':q.1=k:=h1.symm.trans e
     have b:atKey (q::qs) k=some q.2:=by simp [atKey,List.find?_cons,e']
     rw[jq e,b];exact h2
   . have e':¬q.1=k:=λz=>e (h1.trans z)
     have b:atKey (q::qs) k=atKey qs k:=by simp [atKey,List.find?_cons,e']
     rw[jr e,b];exact ih
theorem KT.repl {H:Hp} {kvs:List (List ja×V)} {xs:List (List ja×Addr×Value)} (r:KT H kvs xs) (k:List ja) {y:V} {u:Value} (ry:qN y u):
   KT H (kvs.map λkv=>if kv.1=k then (kv.1,y) else kv) (xs.map (putAt k u)):=by
 induction r with
 | nil=>exact .nil
 | @cons p q ps qs h t ih=>
   rw[List.map_cons,List.map_cons]
   refine .cons ?_ ih
   obtain⟨h1,h2,h3⟩:=h
   unfold putAt
   by_cases e:p.1=k
   . rw[if_pos e,if_pos (h1.symm.trans e)];exact⟨h1,h2,ry⟩
   . rw[if_neg e,if_neg (λz=>e (h1.trans z))];exact⟨h1,h2,h3⟩
theorem KT.put {H:Hp} {kvs:List (List ja×V)} {xs:List (List ja×Addr×Value)} (r:KT H kvs xs) (k:List ja) {b:Addr} {y:V} {u:Value} (hb:H b=some (.tup (k.map kV))) (ry:qN y u):
   KT H (jW kvs k y) (storedH xs k b u):=by
 have e:(kvs.any λkv=>decide (kv.1=k))=(atKey xs k).isSome:=by
   rw[QG,(r.val k).isSome_eq,Option.isSome_map]
 unfold jW storedH
 rw[e]
 by_cases q:(atKey xs k).isSome=true
 . rw[if_pos q,if_pos q];exact r.repl k ry
 . rw[if_neg q,if_neg q];exact Paired.snoc r ⟨rfl,hb,ry⟩
theorem KT.keeps {H H':Hp} {kvs:List (List ja×V)} {xs:List (List ja×Addr×Value)} (r:KT H kvs xs) (ht:∀b ys,H b=some (.tup ys)->H' b=some (.tup ys)):KT H' kvs xs:=
 Paired.mapP r λ_ _ z=>⟨z.1,ht _ _ z.2.1,z.2.2⟩
section
variable {P:Program} {w:World} {H:Hp} {h:Heap} {a:Addr}
theorem uq {u:HO} (ok:JJ P w H h) (e:Rd H a u):qI P w H h a u:=e.ok ok
theorem UF {kvs:List (ja×V)} (ok:JJ P w H h) (e:Rd H a (.dK kvs)):kvs.length<=sizeLine/\(a==sysModules)=false/\∃vs,KV kvs vs/\h.DictOf (jB P w) a vs:=
 show qI P w H h a (.dK kvs) from uq ok e
theorem uy {kvs:List (ja×V)} (ok:JJ P w H h) (e:H a=some (.dK kvs)):kvs.length<=sizeLine/\(a==sysModules)=false/\∃vs,KV kvs vs/\h.DictOf (jB P w) a vs:=UF ok (.inl e)
theorem XF {ks:List ja} (ok:JJ P w H h) (e:H a=some (.tup (ks.map kV))):(tupleKind (jB P w)).is h ks a:=by
 obtain⟨_,its,r,o,h1,h2,n,h3⟩:=(show qI P w H h a (.tup (ks.map kV)) from ok a _ e)
 exact⟨o,its.toArray,n,h1,h2,h3,by simpa using Xc r⟩
theorem UE {kvs:List (List ja×V)} (ok:JJ P w H h) (e:Rd H a (.dT kvs)):kvs.length<=sizeLine/\(a==sysModules)=false/\
   ∃xs,KT H kvs xs/\h.DictOfH (tupleKind (jB P w)) a xs:=by
 obtain⟨z,y,xs,r,o,es,ep,h1,h2,h3,h4,h5⟩:=(show qI P w H h a (.dT kvs) from uq ok e)
 refine⟨z,y,xs,r,o,es,ep,h1,h2,h3,h4,λx hx=>?_,h5⟩
 have all:∀{l:List (List ja×V)} {m:List (List ja×Addr×Value)},KT H l m->∀x∈m,(tupleKind (jB P w)).is h x.1 x.2.1:=by
   intro l m q
   induction q with
   | nil=>intro x hx;exact nomatch hx
   | @cons p q ps qs hq t ih=>
     intro x hx
     rcases List.mem_cons.mp hx with e | hx
     . subst e
       exact XF ok (by rw[<-hq.1];exact hq.2.1)
     . exact ih x hx
 exact all r x hx
theorem GV {kvs:List (List ja×V)} (ok:JJ P w H h) (e:H a=some (.dT kvs)):kvs.length<=sizeLine/\(a==sysModules)=false/\
   ∃xs,KT H kvs xs/\h.DictOfH (tupleKind (jB P w)) a xs:=UE ok (.inl e)
end
def Q7 (H:Hp) (a:Addr) (y:V) (r:Option V):Prop:=
 (∃kvs k,Rd H a (.dK kvs)/\y=kV k/\r=jI kvs k)\/∃kvs k b,Rd H a (.dT kvs)/\y=.ref b/\H b=some (.tup (k.map kV))/\r=jI kvs k
def JK (H:Hp) (a:Addr) (y v:V) (H':Hp):Prop:=
 (∃kvs k,H a=some (.dK kvs)/\y=kV k/\kvs.length < sizeLine/\H'=upd H a (.dK (jW kvs k v)))\/
 ∃kvs k b,H a=some (.dT kvs)/\y=.ref b/\H b=some (.tup (k.map kV))/\kvs.length < sizeLine/\H'=upd H a (.dT (jW kvs k v))
theorem Q7.k {H:Hp} {a:Addr} {kvs:List (ja×V)} {k:ja} (e:H a=some (.dK kvs)):Q7 H a (kV k) (jI kvs k):=.inl ⟨kvs,k,.inl e,rfl,rfl⟩
theorem JK.k {H:Hp} {a:Addr} {kvs:List (ja×V)} {k:ja} {v:V} (e:H a=some (.dK kvs)) (hl:kvs.length < sizeLine):JK H a (kV k) v (upd H a (.dK (jW kvs k v))):=.inl ⟨kvs,k,e,rfl,hl,rfl⟩
theorem JK.t {H:Hp} {a b:Addr} {kvs:List (List ja×V)} {k:List ja} {v:V} (e:H a=some (.dT kvs)) (eb:H b=some (.tup (k.map kV))) (hl:kvs.length < sizeLine):
   JK H a (.ref b) v (upd H a (.dT (jW kvs k v))):=.inr ⟨kvs,k,b,e,rfl,eb,hl,rfl⟩
section
variable {X:Cx} {pins:List (Addr×Obj)} {σ:St} {H:Hp} {s:Shared} {a:Addr} {y v:V} {u r:Value} {o:Option V} {A:Around} {E:Value->Shared->Prop}
theorem qx.big (I:qx X pins σ H s):sysModules < s.heap.objs.size:=by
 have h:mainGlobals < s.heap.objs.size:=(I.mod.glob.keeps I.bk).lt
 exact Nat.lt_trans (by decide) h
theorem vD {Q:Value->Shared->Prop} (hu:A.units+1 < cLine) (I:qx X pins σ H s) (g:Q7 H a y (some v)) (ry:qN y u) (h:∀w' s',qx X pins σ H s'->qN v w'->Q w' s'):
   wpAny (model X.prog X.w) A (getItem (.ref a) u) Q E s:=by
 rcases g with ⟨kvs,k,e,ey,l⟩ | ⟨kvs,k,b,e,ey,eb,l⟩
 . subst ey
   obtain⟨z,hd,vs,rel,dd⟩:=UF I.hok e
   obtain⟨w',hw,rw'⟩:=JF.some_of (v:=v) (o:=valueAt vs k) (by rw[l];exact rel.val k)
   exact wpAny_getItem_of (WK ry) dd.mapOf hw (h w' _ (I.tok _) rw')
 . subst ey
   cases (show u=Value.ref b from ry)
   obtain⟨z,hd,xs,rel,dd⟩:=UE I.hok e
   obtain⟨w',hw,rw'⟩:=JF.some_of (v:=v) (o:=(atKey xs k).map (·.2)) (by rw[l];exact rel.val k)
   obtain⟨p,hp,hp2⟩:=Option.map_eq_some_iff.mp hw
   refine wpAny_getItem_heap (tupleKind_room_in1 hu) (XF I.hok eb) dd hp ?_
   rw[hp2]
   exact h w' _ (I.tok _) rw'
theorem R0 {Q:Value->Shared->Prop} (hu:A.units+1 < cLine) (I:qx X pins σ H s) (g:Q7 H a y o) (ry:qN y u) (h:∀s',qx X pins σ H s'->Q (.bool o.isSome) s'):
   wpAny (model X.prog X.w) A (compareOp .In u (.ref a)) Q E s:=by
 rcases g with ⟨kvs,k,e,ey,l⟩ | ⟨kvs,k,b,e,ey,eb,l⟩
 . subst ey
   obtain⟨z,hd,vs,rel,dd⟩:=UF I.hok e
   refine wpAny_in_of (WK ry) hd dd.mapOf ?_
   rw[<-(rel.val k).isSome_eq,<-l]
   exact h _ (I.tok _)
 . subst ey
   cases (show u=Value.ref b from ry)
   obtain⟨z,hd,xs,rel,dd⟩:=UE I.hok e
   refine wpAny_in_heap (tupleKind_room_in1 hu) (XF I.hok eb) hd dd ?_
   have q:=(rel.val k).isSome_eq
   rw[Option.isSome_map]at q
   rw[<-q,<-l]
   exact h _ (I.tok _)
theorem XN {h':Heap} {t':Nat} {ob:HO} (I:qx X pins σ H s) (mu:KI (H a)) (hs:Heap.SameBut a s.heap h') (he:∃q,h'.get? a=some q) (new:qI X.prog X.w (upd H a ob) h' a ob):
   qx X pins σ (upd H a ob) {s with heap:=h',toks:=t'}:=
 I.write (x:=a) (e:=a) mu (.inl rfl) (λb q hb z=>(hs.2 b hb).trans z) he new
theorem xr {P:Program} {w:World} {H':Hp} {h':Heap} {kvs:List (ja×V)} {vs:List (ja×Value)} (z:kvs.length<=sizeLine) (hd:(a==sysModules)=false) (rel:KV kvs vs) (dd:h'.DictOf (jB P w) a vs):
   qI P w H' h' a (.dK kvs):=⟨z,hd,vs,rel,dd⟩
theorem vC {H':Hp} {Q:Unit->Shared->Prop} (hu:A.units+1 < cLine) (I:qx X pins σ H s) (g:JK H a y v H') (ry:qN y u) (rv:qN v r) (h:∀s',qx X pins σ H' s'->Q () s'):
   wpAny (model X.prog X.w) A (setItem (.ref a) u r) Q E s:=by
 rcases g with ⟨kvs,k,e,ey,l,eH⟩ | ⟨kvs,k,b,e,ey,eb,l,eH⟩
 . subst ey eH
   obtain⟨z,hd,vs,rel,dd⟩:=uy I.hok e
   have hz:vs.length<=sizeLine:=by rw[<-rel.length];exact z
   have hl:(jW kvs k v).length<=sizeLine:=by have:=J0 kvs k v;omega
   refine wpAny_setItem_pairs (hsz:=hz) (WK ry) dd λh' dd' hs=>h _ ?_
   have he:∃q,h'.get? a=some q:=let ⟨q,_,_,hq,_⟩:=dd';⟨q,hq⟩
   exact XN I (by rw[e];exact True.intro) hs he (xr hl hd (rel.put k rv) dd')
 . subst ey eH
   cases (show u=Value.ref b from ry)
   obtain⟨z,hd,xs,rel,dd⟩:=GV I.hok e
   have hz:xs.length<=sizeLine:=by rw[<-Paired.length rel];exact z
   have hl:(jW kvs k v).length<=sizeLine:=by have:=J0 kvs k v;omega
   refine wpAny_setItem_heap (hsz:=hz) (tupleKind_room_in1 hu) (XF I.hok eb) dd λh' dd' hs=>h _ ?_
   obtain⟨q,es,ep,hq,h2,h3,h4,_,h5⟩:=dd'
   refine XN I (by rw[e];exact True.intro) hs ⟨q,hq⟩ ⟨hl,hd,_,(rel.put k eb rv).keeps λc ys ec=>?_,q,es,ep,hq,h2,h3,h4,h5⟩
   rw[qg (Gu ec e (λz=>nomatch z))]
   exact ec
end
section
variable {X:Cx} {pins:List (Addr×Obj)} {σ:St} {H:Hp} {s:Shared} {a:Addr} {kvs:List (ja×V)} {k:ja} {u:Value} {A:Around} {E:Value->Shared->Prop}
end
def G3 (i:Expr):Prop:=∀ov iv,subscripted i false ov iv=operate [ov,iv] (getItem ov iv)
theorem xU {prog:Program} {w:World} {A:Around} {E:Value->Shared->Prop} {s:Shared} {env:Env} {value slice:Expr} {pos:Pos} {T id:String} {Q:Value->Shared->Prop}
   (hl:typeLookup (.type T) "__getitem__"=pure (some (.builtin id))) (hs:G3 slice)
   (h:wpAny (model prog w) A (eval value env) (λo s₁=>wpAny (model prog w) A (eval slice env) (λi s₂=>s₂.TypeIs o T/\wpAny (model prog w) A (getItem o i) Q E s₂) E s₁) E s):
   wpAny (model prog w) A (eval (.Subscript value slice pos) env) Q E s:=by
 refine Subscript_ (wpAny_mono h (λo s₁ h₁=>wpAny_mono h₁ (λi s₂ h₂=>?_) λ_ _ x=>x) λ_ _ x=>x)
 obtain⟨hT,h₂⟩:=h₂
 unfold subscriptTail
 refine wpAny_bind ?_
 rw[getitemInPython_of_ne hT.not_modules]
 refine wpAny_bind (wpAny_specialOf hT hl ?_)
 have fin:wpAny (model prog w) A (subscripted slice false o i) (λr s₃=>wpAny (model prog w) A (letTemporaryGo value o r >>= λ_=>pure r) Q E s₃) E s₂:=by
   rw[hs o i]
   exact wpAny_operating (wpAny_mono h₂ (λr s₃ h₃=>wpAny_bind (wpAny_letTemporaryGo (wpAny_pure h₃))) λ_ _ x=>x)
 first
   | exact wpAny_pure (wpAny_bind fin)
   | exact wpAny_bind (wpAny_pure (wpAny_bind fin))
   | exact wpAny_bind fin
theorem WR {X:Cx} {pins:List (Addr×Obj)} {σ:St} {H:Hp} {s:Shared} {a:Addr} {y:V} {o:Option V} (I:qx X pins σ H s) (g:Q7 H a y o):s.TypeIs (.ref a) "dict":=by
 rcases g with ⟨kvs,k,e,_,_⟩ | ⟨kvs,k,b,e,_,_,_⟩
 . obtain⟨_,_,vs,_,dd⟩:=UF I.hok e
   exact dd.typeIs
 . obtain⟨_,_,xs,_,dd⟩:=UE I.hok e
   exact dd.typeIs
def ug (td ty:TE):TE:=λσ H Q=>td σ H λx H1=>ty σ H1 λy H2=>∃a v,x=.ref a/\Q7 H2 a y (some v)/\Q v H2
def uE (ty td:TE):TE:=λσ H Q=>ty σ H λy H1=>td σ H1 λx H2=>∃a o,x=.ref a/\Q7 H2 a y o/\Q (.bl o.isSome) H2
def Ue (td ty tv:TE):TS:=λD σ H=>tv σ H λv H1=>td σ H1 λx H2=>ty σ H2 λy H3=>∃a H4,x=.ref a/\JK H3 a y v H4/\D.nx σ H4
section
variable {X:Cx} {o i e value:Expr} {pos pos' tpos:Pos} {td ty tv:TE}
theorem Q2 (hu:X.A.units+1 < cLine) (ho:JE X o td) (hi:JE X i ty) (hs:G3 i):JE X (.Subscript o i pos) (ug td ty):=.of (by
 have ho:=ho.to
 have hi:=hi.to
 intro pins s σ H Q I h
 refine xU PySem.F.slot_dict_getitem.lookup hs (jg (ho pins s σ H _ I h) λu s1 ⟨x,H1,I1,rx,q1⟩=>jg (hi pins s1 σ H1 _ I1 q1) λiv s2 ⟨y,H2,I2,ry,a,v,ex,g,q2⟩=>?_)
 subst ex
 obtain rfl:u=Value.ref a:=rx
 exact⟨WR I2 g,vD hu I2 g ry λw' s3 I3 rw'=>⟨v,H2,I3,rw',q2⟩⟩)
theorem XI (hu:X.A.units+1 < cLine) (hi:JE X i ty) (ho:JE X o td):JC X .In i o (uE ty td):=.of (by
 have hi:=hi.to
 have ho:=ho.to
 intro pins s σ H Q I h
 refine jg (hi pins s σ H _ I h) λiv s1 ⟨y,H1,I1,ry,q1⟩=>jg (ho pins s1 σ H1 _ I1 q1) λu s2 ⟨x,H2,I2,rx,a,ov,ex,g,q2⟩=>?_
 subst ex
 obtain rfl:u=Value.ref a:=rx
 exact R0 hu I2 g ry λs3 I3=>⟨.bl ov.isSome,H2,I3,rfl,q2⟩)
theorem jY (hu:X.A.units+1 < cLine) (ho:JE X o td) (hi:JE X i ty) (hv:JE X value tv) (hs:swapsWith value (some (.Subscript o i pos')) pos.line X.env=pure false):JS X (.Assign [.Subscript o i pos'] value pos) (Ue td ty tv):=.of (by
 have ho:=ho.to
 have hi:=hi.to
 have hv:=hv.to
 intro pins s σ H D I h
 refine wpAny_Assign_Subscript (jg (hv pins s σ H _ I h) λr s1 ⟨v,H1,I1,rv,q1⟩=>jg (ho pins s1 σ H1 _ I1 q1) λu s2 ⟨x,H2,I2,rx,q2⟩=>jg (hi pins s2 σ H2 _ I2 q2) λiv s3 ⟨y,H3,I3,ry,a,H4,ex,g,q3⟩=>?_) hs
 subst ex
 obtain rfl:u=Value.ref a:=rx
 exact vC hu I3 g ry rv λs4 I4=>⟨σ,H4,I4,q3⟩)
end
theorem WQ {P:Program} {w:World} {H:Hp} (h:Heap) (hb:sysModules < h.objs.size):qI P w H (h.push {cls:=.type "dict",data:=.dict #[]}) h.objs.size (.dK []):=
 ⟨Nat.zero_le _,beq_eq_false_iff_ne.mpr (Ne.symm (Nat.ne_of_lt hb)),[],.nil,Heap.DictOf.new h⟩
theorem xq {P:Program} {w:World} {H:Hp} (h:Heap) (hb:sysModules < h.objs.size):qI P w H (h.push {cls:=.type "dict",data:=.dict #[]}) h.objs.size (.dT []):=
 ⟨Nat.zero_le _,beq_eq_false_iff_ne.mpr (Ne.symm (Nat.ne_of_lt hb)),[],.nil,_,#[],0,Heap.get?_push_size _ rfl,⟨rfl,rfl,rfl⟩,rfl,rfl,List.nodup_nil⟩
def ka:TE:=λ_ H Q=>∀p,H p=none->Q (.ref p) (upd H p (.dK []))
def vZ:TE:=λ_ H Q=>∀p,H p=none->Q (.ref p) (upd H p (.dT []))
section
variable {X:Cx} {pos:Pos}
theorem yb:PE X (.Dict [] [] pos) ka:=λpins s σ H Q I h=>
 wpAny_Dict_empty ⟨.ref s.heap.objs.size,_,I.laid (a:=s.heap.objs.size) (o:=.dK []) (t':=s.toks) (λ_ _ q=>Heap.get?_push_of_some _ q) (Nat.le_refl _) (WQ s.heap I.big),rfl,h _ (I.hok.fresh (Nat.le_refl _))⟩
theorem Jf:JE X (.Dict [] [] pos) ka:=.of (yb)
theorem ya:PE X (.Dict [] [] pos) vZ:=λpins s σ H Q I h=>
 wpAny_Dict_empty ⟨.ref s.heap.objs.size,_,I.laid (a:=s.heap.objs.size) (o:=.dT []) (t':=s.toks) (λ_ _ q=>Heap.get?_push_of_some _ q) (Nat.le_refl _) (xq s.heap I.big),rfl,h _ (I.hok.fresh (Nat.le_refl _))⟩
theorem yN:JE X (.Dict [] [] pos) vZ:=.of (ya)
end
def Vf:List (TE×TE)->St->Hp->(List (V×V)->Hp->Prop)->Prop
 | [],_,H,Q=>Q [] H
 | (tk,tv)::r,σ,H,Q=>tk σ H λx H1=>tv σ H1 λy H2=>Vf r σ H2 λps H3=>Q ((x,y)::ps) H3
abbrev VV:List (V×V)->List (Value×Value)->Prop:=Paired λp q=>qN p.1 q.1/\qN p.2 q.2
def G2 (X:Cx) (pos:Pos) (keys:List (Option Expr)) (values:List Expr) (trs:List (TE×TE)):Prop:=
 ∀(pins:List (Addr×Obj)) (s:Shared) (σ:St) (H:Hp) (Q:List (V×V)->Hp->Prop),qx X pins σ H s->Vf trs σ H Q->
   wpAny (model X.prog X.w) X.A (evalPairs (pairTrees keys values X.env pos)) (λvs s'=>∃ps H',qx X pins σ H' s'/\VV ps vs/\Q ps H') X.xe s
@[irreducible] def xI (X:Cx) (pos:Pos) (keys:List (Option Expr)) (values:List Expr) (trs:List (TE×TE)):Prop:=G2 X pos keys values trs
theorem xI.of {X:Cx} {pos:Pos} {keys:List (Option Expr)} {values:List Expr} {trs:List (TE×TE)} (h:G2 X pos keys values trs):xI X pos keys values trs:=by unfold xI;exact h
theorem xI.to {X:Cx} {pos:Pos} {keys:List (Option Expr)} {values:List Expr} {trs:List (TE×TE)} (h:xI X pos keys values trs):G2 X pos keys values trs:=by unfold xI at h;exact h
theorem wI {X:Cx} {pos:Pos}:xI X pos [] [] []:=.of (by
 exact λpins s σ H Q I h=>pairTrees_nil_walk ⟨[],H,I,.nil,h⟩)
theorem k7 {X:Cx} {pos:Pos} {k v:Expr} {ks:List (Option Expr)} {vs:List Expr} {tk tv:TE} {trs:List (TE×TE)} (hk:PE X k tk) (hv:PE X v tv) (hr:G2 X pos ks vs trs):
   G2 X pos (some k::ks) (v::vs) ((tk,tv)::trs):=λpins s σ H Q I h=>
 pairTrees_cons_walk (jg (hk pins s σ H _ I h) λu s1 ⟨x,H1,I1,rx,q1⟩=>jg (hv pins s1 σ H1 _ I1 q1) λw2 s2 ⟨y,H2,I2,ry,q2⟩=>
   jg (hr pins s2 σ H2 _ I2 q2) λws s3 ⟨ps,H3,I3,rel,q3⟩=>⟨(x,y)::ps,H3,I3,.cons ⟨rx,ry⟩ rel,q3⟩)
theorem Ys {X:Cx} {pos:Pos} {k v:Expr} {ks:List (Option Expr)} {vs:List Expr} {tk tv:TE} {trs:List (TE×TE)} (hk:JE X k tk) (hv:JE X v tv) (hr:xI X pos ks vs trs):xI X pos (some k::ks) (v::vs) ((tk,tv)::trs):=.of (k7 hk.to hv.to hr.to)
def Zz (kvs more:List (ja×V)):List (ja×V):=more.foldl (λacc kv=>jW acc kv.1 kv.2) kvs
theorem KV.merge:∀{more:List (ja×V)} {rs:List (ja×Value)} {kvs:List (ja×V)} {vs:List (ja×Value)},KV more rs->KV kvs vs->KV (Zz kvs more) (merged vs rs):=by
 intro more rs kvs vs r
 unfold KV at r
 induction r generalizing kvs vs with
 | nil=>intro q;exact q
 | @cons p q ps qs h t ih=>
   intro r0
   have e:KV (jW kvs p.1 p.2) (stored vs q.1 q.2):=by
     have:=r0.put p.1 h.2
     rw[<-h.1];exact this
   exact ih e
theorem Zr:∀(more kvs:List (ja×V)),(Zz kvs more).length<=kvs.length+more.length
 | [],kvs=>by show kvs.length<=kvs.length+0;omega
 | p::r,kvs=>by
   have h1:=Zr r (jW kvs p.1 p.2)
   have h2:=J0 kvs p.1 p.2
   show (Zz (jW kvs p.1 p.2) r).length<=_
   rw[List.length_cons];omega
theorem Yz {P:Program} {w:World}:∀{kvs:List (ja×V)} {ws:List (Value×Value)},VV (kvs.map λkv=>(kV kv.1,kv.2)) ws->∃rs,Carries (jB P w) ws rs/\KV kvs rs
 | [],_,r=>by rw[List.map_nil]at r;cases r;exact⟨[],True.intro,.nil⟩
 | p::kvs,_,r=>by
   rw[List.map_cons]at r
   cases r with
   | @cons a b as bs h t=>
     obtain⟨rs,c,q⟩:=Yz (P:=P) (w:=w) t
     obtain⟨b1,b2⟩:=b
     exact⟨(p.1,b2)::rs,⟨WK h.1,rfl,c⟩,.cons ⟨rfl,h.2⟩ q⟩
def KU (trs:List (TE×TE)):TE:=λσ H Q=>∀p,H p=none->Vf trs σ (upd H p (.dK [])) λps H2=>H2 p=some (.dK [])/\∃kvs:List (ja×V),ps=kvs.map (λkv=>(kV kv.1,kv.2))/\kvs.length<=15/\Q (.ref p) (upd H2 p (.dK (Zz [] kvs)))
theorem wK {X:Cx} {pos:Pos} {keys:List (Option Expr)} {values:List Expr} {trs:List (TE×TE)} (h:xI X pos keys values trs) (hall:keys.all (·.isSome)=true) (hl:keys.length=values.length) (h0:keys≠[]) (h15:keys.length<=15):JE X (.Dict keys values pos) (KU trs):=.of (by
 have h:=h.to
 intro pins s σ H Q I q
 have hn:=I.hok.fresh (Nat.le_refl s.heap.objs.size)
 have I1:=I.laid (a:=s.heap.objs.size) (o:=.dK []) (h':=s.heap.push {cls:=.type "dict",data:=.dict #[]}) (t':=s.toks) (λ_ _ q=>Heap.get?_push_of_some _ q) (Nat.le_refl _) (WQ s.heap I.big)
 refine wpAny_Dict_walk (knd:=jB X.prog X.w) hall hl h0 h15 (jg (h pins _ σ _ _ I1 (q _ hn)) λws s2 ⟨ps,H2,I2,rel,e,kvs,ep,lk,q2⟩=>?_)
 subst ep
 obtain⟨rs,c,rk⟩:=Yz (P:=X.prog) (w:=X.w) rel
 obtain⟨z,hd,vs0,r0,dd⟩:=uy I2.hok e
 cases r0
 refine⟨rs,c,dd,λh' dd' hs=>⟨.ref s.heap.objs.size,_,?_,rfl,q2⟩⟩
 have hz:(Zz [] kvs).length<=sizeLine:=by
   have h1:=Zr kvs []
   rw[List.length_nil]at h1
   rw[sizeLine_eq];omega
 have he:∃q,h'.get? s.heap.objs.size=some q:=let ⟨q,_,_,hq,_⟩:=dd';⟨q,hq⟩
 exact XN I2 (by rw[e];exact True.intro) hs he (xr hz hd (rk.merge .nil) dd'))
structure M1 (X:Cx) (o:Expr) (m:Str) (apos:Pos) (e:Expr) (cpos:Pos):Prop where
 base:attributeBase o m X.env (eval o X.env)=eval o X.env
 few:((backTo cpos (starEach [e] X.env)).all (λx=> !x.1)&&(backToKw cpos (keywordEach [] X.env)).all (λx=>x.1.isSome)
   &&decide (([e]:List Expr).length+([]:List Keyword).length+(if ([]:List Keyword).isEmpty then 0 else 1) < 30))=true
 line:(apos.endLine==cpos.line)=true
 trees:backTo cpos (starEach [e] X.env)=[(false,eval e X.env)]
structure M2 (X:Cx) (o:Expr) (m:Str) (apos:Pos) (e f:Expr) (cpos:Pos):Prop where
 base:attributeBase o m X.env (eval o X.env)=eval o X.env
 few:((backTo cpos (starEach [e,f] X.env)).all (λx=> !x.1)&&(backToKw cpos (keywordEach [] X.env)).all (λx=>x.1.isSome)
   &&decide (([e,f]:List Expr).length+([]:List Keyword).length+(if ([]:List Keyword).isEmpty then 0 else 1) < 30))=true
 line:(apos.endLine==cpos.line)=true
 trees:backTo cpos (starEach [e,f] X.env)=[(false,eval e X.env),(false,eval f X.env)]
section
variable {X:Cx} {pins:List (Addr×Obj)} {σ:St} {H:Hp} {s:Shared} {a:Addr} {y d:V} {u r:Value} {o:Option V} {A:Around} {E:Value->Shared->Prop}
end
section
variable {X:Cx} {o e f:Expr} {apos cpos:Pos} {td ty tx:TE}
end
section
variable {X:Cx} {pins:List (Addr×Obj)} {σ:St} {H:Hp} {s:Shared} {a:Addr} {kvs:List (ja×V)} {A:Around} {E:Value->Shared->Prop}
end
section
variable {X:Cx} {pins:List (Addr×Obj)} {σ:St} {H:Hp} {s:Shared} {a:Addr} {y:V} {u:Value} {A:Around} {E:Value->Shared->Prop}
end
end L2
namespace Att
open PySem PySem.W PySem.Calls PyProof.Rows
theorem zN {P:Params} {h:Heap}:∀(ns:List Int) (vs:List Value),WellAll P h vs (ns.map WData.int)->IntsAre vs ns:=by
 intro ns
 induction ns with
 | nil=>
   intro vs w
   rw[List.map_nil]at w
   cases w
   exact .nil
 | cons n ns ih=>
   intro vs w
   rw[List.map_cons]at w
   cases w with
   | cons a b=>
     cases a
     exact .cons _ _ (ih _ b)
theorem UZ {l:OpenLaw} {n:Nat} (hn:l.most=some n) {P:Params} {h:Heap} {args:List WData} {vals:List Value}
   (hpre:l.row.toRowW.claim.pre args=true) (hwl:WellAll P h vals args):
   ∃a vs ns,vals=[Value.ref a]/\args=[WData.list (ns.map WData.int)]/\h.get? a=some {cls:=.type "list",data:=.seq vs.toArray}/\IntsAre vs ns/\ns.length<=n:=by
 have hsh:WShape.hasAll [] args [.list .int]=true:=(pre_splitW hpre).1
 have hc:l.pre.holds [] {args:=args}=true:=(pre_splitW hpre).2
 obtain⟨d,r,rfl,h1,h2⟩:=hasAllW_cons hsh
 obtain rfl:=hasAllW_nil h2
 obtain⟨xs,rfl,h3⟩:=hasW_list h1
 obtain⟨ns,rfl⟩:=items_int h3
 have hlen:ns.length<=n:=by
   unfold OpenLaw.pre at hc
   have h4:(WTm.not (.lt (.lit (.int (n:Int))) (.len (.arg 0)))).holds [] {args:=[.list (ns.map .int)]}=true:=by
     have h4:=(holds_andW hc).1
     rw[hn]at h4
     exact h4
   have h5:=condW_of h4 (w_not (w_lt w_lit (w_len_list (w_arg rfl))))
   rw[List.length_map]at h5
   refine Nat.le_of_not_lt λq=>?_
   have q':(n:Int) < ((ns.length:Nat):Int):=by omega
   first
     | (rw[decide_eq_true q']at h5;exact absurd h5 (by decide))
     | (simp at h5;omega)
 cases hwl with
 | cons w1 w2=>
   cases w2
   cases w1 with
   | list ho hall=>exact⟨_,_,ns,rfl,rfl,ho,zN ns _ hall,hlen⟩
theorem U9 (l:OpenLaw) (args:List WData):l.row.toRowW.claim.post args (.bool true) args=true:=
 postW_of (r:=l.row.toRowW) (X:=(true==true))
   (show WShape.has [] (.bool true) .bool=true by first | rfl | decide | simp [WShape.has,WShape.arms,WShape.armsAll])
   (show (WTm.eq .res (.lit (.bool true))).value [] {args:=args,res:=some (.bool true),after:=args}=some (.bool (true==true)) from w_eq_bool (w_res rfl) w_lit) rfl
theorem attach_call {l:OpenLaw} {n:Nat} {q:Program} {loose:List Str} {XP:(Str->Option Value)->Heap->Prop} {YP:World->Heap->Prop} {d:DefRec}
   (hn:l.most=some n) (hdf:d.params.defaults=[])
   (call:∀(w:World) (s₀ s₁:Shared) (mg mb:Str->Option Value) (fa:Addr) (o:Obj) (pm cd doc:Value) (a:Addr) (vs:List Value) (ns:List Int),
     Ground q loose [] XP w s₀ mg mb s₁.heap->YP w s₁.heap->
     s₁.heap.get? fa=some o->o.data=.func (docDef d.name d.params d.body d.scope pm cd doc)->s₁.heap.CodeRec cd d.name->mg d.name=some (.ref fa)->
     s₁.heap.get? a=some {cls:=.type "list",data:=.seq vs.toArray}->IntsAre vs ns->ns.length<=n->s₁.gens=#[]->
     codeAny (model l.prog w) callerA (.call (.ref fa) ⟨[.ref a],[]⟩) (λr s'=>r=.ok (.ret (.bool true))/\OldK s₁.heap s'.heap/\s'.os=s₁.os/\AllBare s'.gens) s₁):
   WalkO q loose XP YP l.row.toRowW d [] (λf vs=>PySem.call f vs):=by
 intro w s₀ s₁ mg mb G Y fa o pm cd doc dV kV ho hd hcd hD hmg hg args vals as hpre hlay hrd hwl hlo
 obtain rfl:dV=.none:=Dflts.none hD hdf
 obtain rfl:kV=.none:=Dflts.noKw hD
 obtain⟨a,vs,ns,rfl,rfl,hobj,hints,hlen⟩:=UZ hn hpre hwl
 refine enter_call (codeAny_mono (call w s₀ s₁ mg mb fa o pm cd doc a vs ns G Y ho (fd_plain hd) hcd hmg hobj hints hlen hg) λr s' hq=>?_)
 obtain⟨rfl,h2,h3,h4⟩:=hq
 exact⟨.inl ⟨.bool true,.bool true,[],rfl,λ_=>rfl,.bool true,U9 l _,λ_=>⟨List.Pairwise.nil,λ_ hm=>(nomatch hm)⟩⟩,h2,h3,h4⟩
section
variable {prog:Program} {w:World} {A:Around} {E:Value->Shared->Prop} {s:Shared} {K:Frag}
end
end Att
namespace L2
open PySem PySem.Spec PyProof.Rows
theorem YN:∀{vs:List Value} {ns:List Int},IntsAre vs ns->qD (ns.map V.int) vs
 | _,_,.nil=>.nil
 | _,_,.cons n t h=>.cons ⟨t,rfl⟩ (YN h)
def Ky (H:Hp):Prop:=∀b,H b=none\/∃o xs,H b=some (.frz o (.lst xs))
theorem yA {P:Program} {w:World} {K:PySem.W.Frag} {mg mb:Str->Option Value} {CX:YL} {k:Nat} {fa a:Addr} {fd:FuncData} {x:Str} {sp:Sp} {s₁:Shared} {vs:List Value} {ns:List Int}
   (KX:K.In s₁.heap) (hns:s₁.heap.Ns mainGlobals mg) (hb:s₁.heap.Ns builtinsNs mb) (hbb:∀x:Str,x≠"__name__"->mb x=bootBuiltins x) (hlim:s₁.heap.NoLimit) (hg:s₁.gens=#[])
   (ha:s₁.heap.get? a=some {cls:=.type "list",data:=.seq vs.toArray}) (hi:IntsAre vs ns) (hl:ns.length<=sizeLine) (hr:qZ k callerA)
   (F:∀base:Heap,K.In base->base.Ns mainGlobals mg->qv P w K mg base CX k fa fd [x] sp) (hbind:∀(s:Shared) (u:Value),BindsTo s fd ⟨[u],[]⟩ [(x,u)])
   (hsp:∀H:Hp,Ky H->SqL K H a (ns.map V.int)->sp [.ref a] H (λv _=>v=.bl true) λ_ _ _=>False)
   (hCX:∀H e s',CX [] H s₁ (λ_ _ _=>False) e s'->False):
   codeAny (model P w) callerA (.call (.ref fa) ⟨[.ref a],[]⟩) (λr s'=>r=.ok (.ret (.bool true))/\OldK s₁.heap s'.heap/\s'.os=s₁.os/\AllBare s'.gens) s₁:=by
 have rv:=YN hi
 have lenV:=hi.length
 have core:∀H:Hp,Ky H->SqL K H a (ns.map V.int)->JJ P w H s₁.heap->(∀b,H b≠none->b=a)->(H a≠none->K.lookup a=none)->
     codeAny (model P w) callerA (.call (.ref fa) ⟨[.ref a],[]⟩) (λr s'=>r=.ok (.ret (.bool true))/\OldK s₁.heap s'.heap/\s'.os=s₁.os/\AllBare s'.gens) s₁:=by
   intro H hO hS hok hA hK
   have base_of:∀{b:Addr} {o:Obj},s₁.heap.get? b=some o->H b=none->(XJ s₁.heap H).get? b=some o:=λe n=>yZ e n
   have noA:∀{b:Addr} {o:Obj} {es:Array DictEntry} {ep:Nat},s₁.heap.get? b=some o->o.data=.dict es ep->H b=none:=λ{b o es ep} e d=>by
     cases q:H b with
     | none=>rfl
     | some u=>
       have e':b=a:=hA b (by rw[q];simp)
       subst e'
       rw[ha]at e;cases e
       have d':Data.seq vs.toArray _=Data.dict es ep:=d
       cases d'
   have nsK:∀{b:Addr} {m:Str->Option Value},s₁.heap.Ns b m->(XJ s₁.heap H).Ns b m:=λ{b m} ⟨o,es,ep,e,d,r⟩=>⟨o,es,ep,base_of e (noA e d),d,r⟩
   have hKb:K.In (XJ s₁.heap H):=λb o e=>base_of (KX b o e) (by
     cases q:H b with
     | none=>rfl
     | some u=>
       have e':b=a:=hA b (by rw[q];simp)
       subst e'
       rw[hK (by rw[q];simp)]at e;cases e)
   have hM:Mod K mg (XJ s₁.heap H):=⟨hKb,nsK hns,⟨mb,nsK hb,hbb⟩,let ⟨mc,h1,h2⟩:=hlim;⟨mc,nsK h1,h2⟩⟩
   have e0:W2 P w K mg (XJ s₁.heap H) callerA [] s₁ H:=⟨rfl,hM,λb o e=>wB e,Nat.le_of_eq (vw _ _),trivial,λb hb=>absurd (show b∈([]:List Addr) from hb) (by simp),hok,.of_eq hg⟩
   refine codeAny_mono ((F _ hKb (nsK hns)).run callerA [] s₁ H ⟨[.ref a],[]⟩ [.ref a] [.ref a] _ _ hr e0 (hbind s₁ (.ref a)) (.cons rfl .nil) (hsp H hO hS)) λr s' h=>?_
   cases r with
   | error e=>exact(hCX H e s' h).elim
   | ok fl=>
     cases fl with
     | next=>exact False.elim h
     | brk=>exact False.elim h
     | cont=>exact False.elim h
     | ret u=>
       obtain⟨v,H',os,bare,un,hok',r',q⟩:=h
       have q':v=.bl true:=q
       subst q'
       obtain rfl:u=Value.bool true:=r'
       refine⟨rfl,OldK.of_keep λb o e=>?_,os,bare⟩
       cases q:H b with
       | none=>exact un.keep b o e q (by intro z;exact absurd (show b∈([]:List Addr) from z) (by simp)) (by simp)
       | some u=>
         rcases hO b with z | ⟨ob,xs,z⟩
         . rw[q]at z;cases z
         . have z2:=un.frzs b ob _ z
           obtain⟨e1,_⟩:=hok b _ z
           obtain⟨e2,_⟩:=hok' b _ z2
           rw[e]at e1;cases e1
           exact e2
 cases hk:K.lookup a with
 | some o=>
   have e:=KX a o hk
   rw[ha]at e
   cases e
   refine core (λ_=>none) (λ_=>.inl rfl) (.inr ⟨_,vs.toArray,_,hk,rfl,rfl,rfl,by rw[List.size_toArray,lenV];exact hl,by simpa using rv⟩) (λb u z=>by have z':(none:Option HO)=some u:=z;cases z') (λb z=>absurd rfl z) λz=>absurd rfl z
 | none=>
   refine core (λb=>if b=a then some (.frz {cls:=.type "list",data:=.seq vs.toArray} (.lst (ns.map V.int))) else none) (λb=>?_) (.inl (.inr ⟨{cls:=.type "list",data:=.seq vs.toArray},if_pos rfl⟩)) (λb u z=>?_) (λb z=>?_) λ_=>hk
   . by_cases hb:b=a
     . exact .inr ⟨_,_,if_pos hb⟩
     . exact .inl (if_neg hb)
   . by_cases hb:b=a
     . have z':=(if_pos hb).symm.trans z
       cases z'
       subst hb
       exact⟨ha,by rw[List.length_map];exact hl,vs,_,rv,ha⟩
     . have z':=(if_neg hb).symm.trans z
       cases z'
   . by_cases hb:b=a
     . exact hb
     . exact absurd (if_neg hb) z
end L2
namespace L2
open PySem PySem.Spec PyProof.Rows
theorem walk_of {l:PySem.W.OpenLaw} {n k:Nat} {q:Program} {loose:List Str} {XP:(Str->Option Value)->Heap->Prop} {YP:World->Heap->Prop} {d:DefRec} {K:Params->PySem.W.Frag} {CX:World->YL} {sp:World->Sp} {x:Str}
   (hn:l.most=some n) (hn2:n<=sizeLine) (hdf:d.params.defaults=[]) (hr:qZ k callerA)
   (hY:∀(w:World) (h:Heap),YP w h->(K w.params).In h)
   (F:∀(w:World) (mg:Str->Option Value) (fa:Addr) (h:Heap),(K w.params).In h->h.Ns mainGlobals mg->mg d.name=some (.ref fa)->
     ∃fd:FuncData,(∀(s:Shared) (u:Value),BindsTo s fd ⟨[u],[]⟩ [(x,u)])/\
      ∀base:Heap,(K w.params).In base->base.Ns mainGlobals mg->qv l.prog w (K w.params) mg base (CX w) k fa fd [x] (sp w))
   (hsp:∀(w:World) (H:Hp) (a:Addr) (ns:List Int),ns.length<=n->Ky H->SqL (K w.params) H a (ns.map V.int)->sp w [.ref a] H (λv _=>v=.bl true) λ_ _ _=>False)
   (hCX:∀(w:World) (H:Hp) (s:Shared) (e:Value) (s':Shared),CX w [] H s (λ_ _ _=>False) e s'->False):
   PySem.W.WalkO q loose XP YP l.row.toRowW d [] (λf vs=>PySem.call f vs):=by
 refine Att.attach_call hn hdf λw s₀ s₁ mg mb fa o pm cd doc a vs ns G Y ho hd hcd hmg hobj hints hlen hg=>?_
 have KX:=hY w _ Y
 obtain⟨fd,hb,hF⟩:=F w mg fa _ KX G.T.g hmg
 exact yA KX G.T.g G.T.b G.T.builtins G.T.nolimit hg hobj hints (Nat.le_trans hlen hn2) hr hF hb (λH hO hS=>hsp w H a ns hlen hO hS) λH e s'=>hCX w H s₁ e s'
end L2
namespace L2
open PySem PySem.Spec PyProof.Rows
def Jt (s:Stmt) (j:Nat):Stmt:=match s with
 | .ClassDef _ _ _ body _ _ _ _ _ _ _=>body.getD j (.Pass ⟨0,0,0,0⟩)
 | _=>.Pass ⟨0,0,0,0⟩
def Qz (s:Stmt):Arguments:=match s with
 | .FunctionDef _ a _ _ _ _ _ _ _ _=>a
 | _=>{posonlyargs:=[],args:=[],vararg:=none,kwonlyargs:=[],kw_defaults:=[],kwarg:=none,defaults:=[]}
def jZ (s:Stmt):List Stmt:=match s with
 | .FunctionDef _ _ b _ _ _ _ _ _ _=>b
 | _=>[]
def qo (s:Stmt):Scope:=match s with
 | .FunctionDef _ _ _ _ _ _ sc _ _ _=>sc
 | _=>{kind:=.function,names:=[],isGenerator:=false,isCoroutine:=false}
abbrev jh:YL:=λ_ _ _ _ _ _=>False
abbrev E0:XK:=λ_ _ _=>False
theorem JX {X:Cx}:Qh jh X E0:=λ_ _ _ _ _ _ _ h=>h.elim
structure Qj (K:PySem.W.Frag) (x qual:Str) (st:Stmt) (f:Addr) (fd:FuncData):Prop where
 ex:∃(oc:Value) (od:Option Addr) (kV doc pm:Value) (an:Option Addr) (cdv ct:Value) (osl:Array (Option Value)),
   fd=PySem.W.fnOf x qual (Qz st) (jZ st) (qo st) .none kV doc pm an cdv ct/\K.lookup f=some ⟨oc,od,.func fd,osl⟩/\PySem.W.codeIn K cdv qual=true
 kp:PySem.W.keepIn K (.ref f)=true
section
variable {P:Program} {w:World} {K:PySem.W.Frag} {mg:Str->Option Value} {base:Heap}
theorem Qj.ok {x qual:Str} {st:Stmt} {f:Addr} {fd:FuncData} {N ps:List Str} {k:Nat} {sp:Sp} (F:Qj K x qual st f fd) (S:qC N ps (qo st)) (len:∀vs H Q E,sp vs H Q E->vs.length=ps.length)
   (hbody:∀(cdv:Value) (A:Around) (outer:List Env) (s:Shared) (H:Hp) (vs:List V) (Q:VK) (E:XK),qZ k (A.deeper (envOfC qual (qo st) s.heap.objs.size f cdv))->sp vs H Q E->
     ∃t,xG (Qc jh P w K mg base N qual (qo st) f cdv A outer s H E).nox (jZ st) t/\t {nx:=λ_ H'=>Q .non H',rt:=Q} (Zo N vs) H):qv P w K mg base jh (k+1) f fd ps sp:=by
 obtain⟨oc,od,kV,doc,pm,an,cdv,ct,osl,rfl,lk,hcd⟩:=F.ex
 refine ux lk hcd S len λA outer s H vs Q E hr hsp=>?_
 obtain⟨t,h,q⟩:=hbody cdv A outer s H vs Q E hr hsp
 exact⟨t,h.nox,q⟩
theorem Qj.okJ {x qual:Str} {st:Stmt} {f:Addr} {fd:FuncData} {N ps:List Str} {k:Nat} {sp:Sp} (F:Qj K x qual st f fd) (S:qC N ps (qo st)) (len:∀vs H Q E,sp vs H Q E->vs.length=ps.length)
   (hbody:∀(cdv:Value) (A:Around) (outer:List Env) (s:Shared) (H:Hp) (vs:List V) (Q:VK) (E:XK),qZ k (A.deeper (envOfC qual (qo st) s.heap.objs.size f cdv))->sp vs H Q E->
     ∃t,XY (Qc jh P w K mg base N qual (qo st) f cdv A outer s H E).nox (jZ st) t/\t {nx:=λ_ H'=>Q .non H',rt:=Q} (Zo N vs) H):qv P w K mg base jh (k+1) f fd ps sp:=
 F.ok S len λcdv A outer s H vs Q E hr h=>let ⟨t,a,b⟩:=hbody cdv A outer s H vs Q E hr h;⟨t,a.to,b⟩
theorem Qj.binds {x qual:Str} {st:Stmt} {f:Addr} {fd:FuncData} {ps:List Str} (F:Qj K x qual st f fd)
   (h:∀(kV doc pm:Value) (an:Option Addr) (cdv ct:Value) (us:List Value),us.length=ps.length->bindArgs (PySem.W.fnOf x qual (Qz st) (jZ st) (qo st) .none kV doc pm an cdv ct) ⟨us,[]⟩=pure (ps.zip us)):jX K fd ps []:=by
 obtain⟨oc,od,kV,doc,pm,an,cdv,ct,osl,rfl,lk,hcd⟩:=F.ex
 exact .all (h kV doc pm an cdv ct)
theorem VI {x qual:Str} {st:Stmt} {f:Addr} {oc:Value} {od an:Option Addr} {osl:Array (Option Value)} {kV doc pm cdv ct:Value} (l:K.lookup f=some ⟨oc,od,.func (PySem.W.fnOf x qual (Qz st) (jZ st) (qo st) .none kV doc pm an cdv ct),osl⟩)
   (c:PySem.W.codeIn K cdv qual=true) (k:PySem.W.keepIn K (.ref f)=true):Qj K x qual st f (PySem.W.fnOf x qual (Qz st) (jZ st) (qo st) .none kV doc pm an cdv ct):=⟨⟨oc,od,kV,doc,pm,an,cdv,ct,osl,rfl,l,c⟩,k⟩
end
theorem ZV {A:Around} {k:Nat} (hr:qZ k A):A.units+1 < cLine:=Nat.lt_of_le_of_lt (Nat.add_le_add_left (by decide:1<=64) _) hr.units
theorem ql {n:Nat} (h:n<=1000):n < sizeLine:=Nat.lt_of_le_of_lt h (by decide)
section
variable {X:Cx}
theorem pv (i:Nat) {x:Str} {pos:Pos} (hN:X.N[i]?=some x:=by rfl) (hv:Kw X.env.scope x:=by first | exact Or.inl rfl | exact Or.inr (Or.inl rfl) | exact Or.inr (Or.inr rfl)) (hd:(x==("__debug__":Str))=false:=by decide)
   (hcd:(x==("__classdict__":Str))=false:=by decide):PE X (.Name x pos) (jd i):=u0 hN hv hd hcd
theorem jv (i:Nat) {x:Str} {pos:Pos} (hN:X.N[i]?=some x:=by rfl) (hv:Kw X.env.scope x:=by first | exact Or.inl rfl | exact Or.inr (Or.inl rfl) | exact Or.inr (Or.inr rfl)) (hd:(x==("__debug__":Str))=false:=by decide) (hcd:(x==("__classdict__":Str))=false:=by decide):JE X (.Name x pos) (jd i):=.of (pv i hN hv hd hcd)
end
theorem jn {A B:Prop} (h:B):if false=true then A else B:=by
 rw[if_neg Bool.false_ne_true]
 exact h
theorem QM {A B:Prop} (h:A):if true=true then A else B:=by
 rw[if_pos rfl]
 exact h
theorem J6 {c A B:Prop} [Decidable c] (h1:c->A) (h2:¬c->B):if c then A else B:=by
 by_cases h:c
 . rw[if_pos h]
   exact h1 h
 . rw[if_neg h]
   exact h2 h
def Same (H H':Hp):Prop:=∀b o,H b=some o->H' b=some o
theorem Same.refl (H:Hp):Same H H:=λ_ _ h=>h
theorem Same.trans {H H1 H2:Hp} (a:Same H H1) (b:Same H1 H2):Same H H2:=λc o h=>b c o (a c o h)
section
variable {X:Cx}
end
section
variable {κ:Type} [DecidableEq κ]
theorem xN {kvs:List (κ×V)} {k:κ} {v:V} (h:jI kvs k=some v):k∈kvs.map (·.1):=by
 have q:(kvs.any λkv=>decide (kv.1=k))=true:=by
   rw[QG,h]
   all_goals rfl
 obtain⟨p,hp,e⟩:=List.any_eq_true.mp q
 exact List.mem_map.mpr ⟨p,hp,of_decide_eq_true e⟩
end
end L2
set_option Elab.async false
set_option linter.all false
set_option maxRecDepth 100000
set_option maxHeartbeats 4000000
namespace L2
open PySem PySem.Spec PyProof.Rows
theorem UC:(NameKind.free==NameKind.free)=true:=rfl
def jA (env:Env):List (Str×NameKind)->List (Str×Addr)->List (Str×Addr)
 | [],cs=>cs
 | (n,k)::r,cs=>jA env r (if k==.free then (n,(env.cells.lookup n).getD 0)::cs else cs)
theorem Zt {scope:Scope} {env:Env} (h:∀x∈scope.names,x.2=.free->∃c,env.cells.lookup x.1=some c):closureFor scope env=pure (jA env scope.names []):=by
 simp only[closureFor]
 have key:∀(l:List (Str×NameKind)) (cs:List (Str×Addr)),(∀x∈l,x.2=.free->∃c,env.cells.lookup x.1=some c)->
     (forIn l cs λx (r:List (Str×Addr))=>if (x.snd==NameKind.free)=true then (do let a <-cellOf env x.fst;pure (ForInStep.yield ((x.fst,a)::r)):Sem (ForInStep (List (Str×Addr)))) else pure (ForInStep.yield r))=(pure (jA env l cs):Sem (List (Str×Addr))):=by
   intro l
   induction l with
   | nil=>intro cs _;rfl
   | cons x l ih=>
     intro cs hl
     obtain⟨n,k⟩:=x
     have ihl:=λcs'=>ih cs' λy hy=>hl y (List.mem_cons_of_mem _ hy)
     rw[List.forIn_cons]
     by_cases hk:k=.free
     . subst hk
       obtain⟨c,hc⟩:=hl (n,.free) List.mem_cons_self rfl
       have e1:cellOf env n=pure c:=by
         unfold cellOf
         have hc':env.cells.lookup n=some c:=hc
         rw[hc']
       have e2:jA env ((n,NameKind.free)::l) cs=jA env l ((n,c)::cs):=by
         have hc':env.cells.lookup n=some c:=hc
         show jA env l (if (NameKind.free==NameKind.free)=true then (n,(env.cells.lookup n).getD 0)::cs else cs)=_
         rw[if_pos UC,hc']
         rfl
       rw[e2,<-ihl]
       dsimp only
       rw[if_pos UC,e1]
       rfl
     . have hb:(k==NameKind.free)=false:=by simpa using hk
       have e2:jA env ((n,k)::l) cs=jA env l cs:=by
         show jA env l (if (k==NameKind.free)=true then (n,(env.cells.lookup n).getD 0)::cs else cs)=_
         rw[if_neg (by rw[hb];decide)]
       rw[e2,<-ihl]
       dsimp only
       rw[if_neg (by rw[hb];decide)]
       rfl
 rw[key scope.names [] h]
 rfl
theorem zK {env:Env} {x:Str} {c:Addr}:∀{l:List (Str×NameKind)} {cs:List (Str×Addr)},(jA env l cs).lookup x=some c->cs.lookup x=some c\/((x,NameKind.free)∈l/\c=(env.cells.lookup x).getD 0)
 | [],cs,h=>.inl h
 | (n,k)::r,cs,h=>by
   rcases zK (l:=r) h with h | ⟨h1,h2⟩
   . by_cases hk:k=.free
     . subst hk
       rw[if_pos UC,List.lookup_cons]at h
       by_cases hx:x=n
       . subst hx
         simp only[beq_self_eq_true]at h
         exact .inr ⟨List.mem_cons_self,(Option.some.inj h).symm⟩
       . have hb:(x==n)=false:=beq_eq_false_iff_ne.mpr hx
         simp only[hb]at h
         exact .inl h
     . have hb:(k==NameKind.free)=false:=by simpa using hk
       rw[if_neg (by rw[hb];decide)]at h
       exact .inl h
   . exact .inr ⟨List.mem_cons_of_mem _ h1,h2⟩
theorem ZC {env:Env} {x:Str}:∀{l:List (Str×NameKind)} {cs:List (Str×Addr)},((x,NameKind.free)∈l\/∃c,cs.lookup x=some c)->∃c,(jA env l cs).lookup x=some c
 | [],cs,h=>by
   rcases h with h | h
   . cases h
   . exact h
 | (n,k)::r,cs,h=>by
   show ∃c,(jA env r (if (k==NameKind.free)=true then (n,(env.cells.lookup n).getD 0)::cs else cs)).lookup x=some c
   refine ZC (l:=r) ?_
   rcases h with h | ⟨c,h⟩
   . rcases List.mem_cons.mp h with h | h
     . cases h
       refine .inr ⟨(env.cells.lookup x).getD 0,?_⟩
       rw[if_pos UC,List.lookup_cons]
       simp only[beq_self_eq_true]
     . exact .inl h
   . refine .inr ?_
     by_cases hk:(k==NameKind.free)=true
     . rw[if_pos hk,List.lookup_cons]
       cases hx:x==n with
       | true=>exact⟨_,rfl⟩
       | false=>exact⟨c,h⟩
     . rw[if_neg hk]
       exact⟨c,h⟩
theorem ZP {scope:Scope} {env:Env} {x:Str} {k:NameKind}:∀{names:List (Str×NameKind)},names.lookup x=some k->
   ∃k',(names.map λ(n,k)=>if (k==NameKind.free&&env.scope.kind==.function&&env.kindOf n==some .cell) then (n,NameKind.cell) else (n,k)).lookup x=some k'/\(k'=k\/(k=.free/\k'=.cell))
 | [],h=>by simp at h
 | (n,j)::r,h=>by
   rw[List.map_cons]
   by_cases hx:x=n
   . subst hx
     rw[List.lookup_cons]at h
     simp only[beq_self_eq_true]at h
     cases h
     dsimp only
     by_cases hc:(k==NameKind.free&&env.scope.kind==.function&&env.kindOf x==some .cell)=true
     . rw[if_pos hc,List.lookup_cons]
       simp only[beq_self_eq_true]
       refine⟨_,rfl,.inr ⟨?_,rfl⟩⟩
       simp only[Bool.and_eq_true,beq_iff_eq]at hc
       exact hc.1.1
     . rw[if_neg hc,List.lookup_cons]
       simp only[beq_self_eq_true]
       exact⟨_,rfl,.inl rfl⟩
   . have hb:(x==n)=false:=beq_eq_false_iff_ne.mpr hx
     rw[List.lookup_cons]at h
     simp only[hb]at h
     obtain⟨k',h1,h2⟩:=ZP (env:=env) (scope:=scope) h
     refine⟨k',?_,h2⟩
     dsimp only
     by_cases hc:(j==NameKind.free&&env.scope.kind==.function&&env.kindOf n==some .cell)=true
     . rw[if_pos hc,List.lookup_cons]
       simp only[hb]
       exact h1
     . rw[if_neg hc,List.lookup_cons]
       simp only[hb]
       exact h1
theorem mem_of_lookup {x:Str} {k:NameKind}:∀{l:List (Str×NameKind)},l.lookup x=some k->(x,k)∈l
 | [],h=>by simp at h
 | (n,j)::r,h=>by
   rw[List.lookup_cons]at h
   by_cases hx:x=n
   . subst hx
     simp only[beq_self_eq_true]at h
     cases h
     exact List.mem_cons_self
   . have hb:(x==n)=false:=beq_eq_false_iff_ne.mpr hx
     simp only[hb]at h
     exact List.mem_cons_of_mem _ (mem_of_lookup h)
theorem Zq {f:Str×NameKind->Str×NameKind} (hf:∀p,(f p).1=p.1) {x:Str} {k:NameKind}:∀{l:List (Str×NameKind)},(l.map f).lookup x=some k->∃j,l.lookup x=some j/\(f (x,j)).2=k
 | [],h=>by simp at h
 | (n,j)::r,h=>by
   rw[List.map_cons]at h
   have e:f (n,j)=(n,(f (n,j)).2):=by
     have:=hf (n,j)
     exact Prod.ext this rfl
   rw[e,List.lookup_cons]at h
   rw[List.lookup_cons]
   by_cases hx:x=n
   . subst hx
     simp only[beq_self_eq_true]at h ⊢
     exact⟨j,rfl,Option.some.inj h⟩
   . have hb:(x==n)=false:=beq_eq_false_iff_ne.mpr hx
     simp only[hb]at h ⊢
     exact Zq hf h
def zJ (X:Cx) (N:List Str) (scope:Scope) (C:Addr) (s₂:Shared) (H₂:Hp) (fp:List Addr) (pins:List (Addr×Obj)):Cx where
 prog:=X.prog
 w:=X.w
 K:=X.K
 mg:=X.mg
 base:=X.base
 A:=X.A
 N:=N
 s₀:=s₂
 H₀:=H₂
 env:=compEnvC scope (jA X.env scope.names []) C X.env
 outer:=X.stack
 stack:=X.stack
 ex:=fp
 fn:=λ_=>false
 calm:=X.calm
 pn:=X.pn++pins
 xe:=λ_ _=>False
def uG (ix:List (Option Nat)) (σ:St):St:=ix.map λo=>o.bind λj=>(σ[j]?).join
def wL (N' N:List Str) (sc esc:Scope) (ix:List (Option Nat)):Bool:=
 ix.length==N'.length&&(ix.zip N').all λp=>match p.1 with
   | none=>true
   | some j=>N[j]?==some p.2&&sc.names.lookup p.2==some .free&&(esc.names.lookup p.2==some .cell || esc.names.lookup p.2==some .free)
structure j4 (X:Cx) (N':List Str) (ix:List (Option Nat)) (scope:Scope):Prop where
 kind:scope.kind=.function
 nocell:(scope.names.all λx=>x.2 != .cell)=true
 locs:(scope.names.all λx=>x.2 != .local || scope.names.lookup x.1==some .local)=true
 frees:(scope.names.all λx=>x.2 != .free || (X.env.scope.names.lookup x.1==some .cell || X.env.scope.names.lookup x.1==some .free))=true
 ixs:wL N' X.N scope X.env.scope ix=true
section
variable {X:Cx} {N':List Str} {ix:List (Option Nat)} {scope:Scope} {pins:List (Addr×Obj)} {σ:St} {H:Hp} {s:Shared}
theorem j4.cellH (S:j4 X N' ix scope):∀y∈scope.names,y.2≠.cell:=λy hy e=>by
 have:=List.all_eq_true.mp S.nocell y hy
 rw[e]at this
 exact absurd this (by decide)
theorem j4.locH (S:j4 X N' ix scope):∀y∈scope.names,y.2=.local->scope.names.lookup y.1=some .local:=λy hy e=>by
 have:=List.all_eq_true.mp S.locs y hy
 simp only[e,Bool.or_eq_true,bne_self_eq_false,Bool.false_eq_true,false_or,beq_iff_eq]at this
 exact this
theorem j4.freeH (S:j4 X N' ix scope) (ok:X.Ok):∀x∈scope.names,x.2=.free->∃c,X.env.cells.lookup x.1=some c:=λx hx e=>by
 have:=List.all_eq_true.mp S.frees x hx
 simp only[e,Bool.or_eq_true,bne_self_eq_false,Bool.false_eq_true,false_or,beq_iff_eq]at this
 exact ok.has x.1 this
theorem j4.clook (S:j4 X N' ix scope) (ok:X.Ok) {x:Str} {c:Addr} (h:(jA X.env scope.names []).lookup x=some c):X.env.cells.lookup x=some c/\(x,NameKind.free)∈scope.names:=by
 rcases zK h with h | ⟨h1,h2⟩
 . simp at h
 . obtain⟨c',hc'⟩:=S.freeH ok _ h1 rfl
   have hc2:X.env.cells.lookup x=some c':=hc'
   rw[hc2]at h2
   subst h2
   exact⟨hc2,h1⟩
theorem GX {C:Addr} {fp:List Addr} (S:j4 X N' ix scope) (I:qx X pins σ H s) (hC:s.heap.objs.size<=C) (hf:∀b∈fp,ZE X pins H b) (hfo:∀b∈fp,b < s.heap.objs.size):(zJ X N' scope C s H fp pins).Ok where
 mod:=I.ok.mod
 kind:=S.kind
 glob:=I.ok.glob
 blt:=I.ok.blt
 above:=hC
 inj:=λx y c h1 h2=>I.ok.inj x y c (S.clook I.ok h1).1 (S.clook I.ok h2).1
 has:=λx hx=>by
   have hx':(relabel scope X.env).names.lookup x=some .cell\/(relabel scope X.env).names.lookup x=some .free:=hx
   refine ZC (.inl ?_)
   have go:∀k,(k=NameKind.cell\/k=.free)->(relabel scope X.env).names.lookup x=some k->(x,NameKind.free)∈scope.names:=λk hk h=>by
     obtain⟨j,h1,h2⟩:=Zq (f:=λ(n,k)=>if (k==NameKind.free&&X.env.scope.kind==.function&&X.env.kindOf n==some .cell) then (n,NameKind.cell) else (n,k)) (λp=>by dsimp only;split<;>rfl) h
     have hm:=mem_of_lookup h1
     by_cases hj:j=.free
     . subst hj;exact hm
     . exfalso
       have hb:(j==NameKind.free)=false:=by simpa using hj
       dsimp only at h2
       rw[hb,Bool.false_and,Bool.false_and,if_neg (by decide)]at h2
       have h2':j=k:=h2
       rcases hk with e | e
       . exact S.cellH _ hm (h2'.trans e)
       . exact hj (h2'.trans e)
   rcases hx' with h | h
   . exact go _ (.inl rfl) h
   . exact go _ (.inr rfl) h
 cab:=λx c h _=>by cases h
 hd:=I.ok.hd
 frames:=I.ok.frames
 stk:=.inl rfl
 exf:=λb hb=>⟨Nat.ne_of_lt (Nat.lt_of_lt_of_le (hfo b hb) hC),λx c h=>(hf b hb).2.2.2.2.1 x c (S.clook I.ok h).1⟩
 bs:=I.bs
 bsz:=Nat.le_trans I.ok.bsz I.sz
 noex:=λb o e hb=>by
   rcases(hf b hb).2.2.2.1 with h | h
   . exact I.ok.noex b o e h
   . exact absurd (Nat.lt_of_lt_of_le (Heap.lt_size e) (Nat.le_trans I.ok.bsz h)) (Nat.lt_irrefl _)
 exfs:=λb hb hm=>by
   rcases List.mem_cons.mp (I.stkSub b hm) with e | e
   . exact(hf b hb).2.1 e
   . exact(hf b hb).2.2.1 e
 funs:=I.stack
 frf:=I.stkFree
theorem vq {C D:Addr} {fp:List Addr} {h₁:Heap} {m:Str->Option Value} {t':Nat} {n₀:Nat} (S:j4 X N' ix scope) (I:qx X pins σ H s) (hf:∀b∈fp,ZE X pins H b) (hfo:∀b∈fp,b < s.heap.objs.size)
   (hD:s.heap.objs.size<=D) (hC:s.heap.objs.size<=C) (hDC:D≠C) (kp:∀b o,s.heap.get? b=some o->h₁.get? b=some o) (hn:h₁.Ns C m) (hl:h₁.get? D=some {cls:=.type "list",data:=.seq #[] n₀}):
   qx (zJ X N' scope C s H fp pins) [] (uG ix σ) (upd H D (.lst [])) {s with heap:=h₁,toks:=t'} where
 ok:=GX S I hC hf hfo
 os:=rfl
 bare:=I.bare
 base:=Un.laid kp hD (I.hok.fresh hD)
 loc:=by
   refine⟨m,hn,λi x v e1 e2 e3=>?_⟩
   have hix:=S.ixs
   unfold wL at hix
   rw[Bool.and_eq_true]at hix
   obtain⟨hlen,hall⟩:=hix
   have hlen':ix.length=N'.length:=by simpa using hlen
   have e1':N'[i]?=some x:=e1
   unfold uG at e2
   rw[List.getElem?_map]at e2
   cases ho:ix[i]? with
   | none=>rw[ho]at e2;cases e2
   | some o=>
     rw[ho]at e2
     cases o with
     | none=>cases e2
     | some j=>
       have e2':(σ[j]?).join=some v:=Option.some.inj e2
       have hz:(ix.zip N')[i]?=some (some j,x):=by
         rw[List.getElem?_zip_eq_some]
         exact⟨ho,e1'⟩
       have hm:=List.all_eq_true.mp hall _ (List.mem_of_getElem? hz)
       dsimp only at hm
       simp only[Bool.and_eq_true,beq_iff_eq,Bool.or_eq_true]at hm
       obtain⟨⟨hN,hfr⟩,hk⟩:=hm
       have e2'':σ[j]?=some (some v):=by
         cases q:σ[j]? with
         | none=>rw[q]at e2';cases e2'
         | some z=>
           rw[q]at e2'
           have:z=some v:=e2'
           rw[this]
       obtain⟨mX,hnX,hlX⟩:=I.loc
       have hvis:Kw X.env.scope x:=by
         rcases hk with h | h
         . exact .inr (.inl h)
         . exact .inr (.inr h)
       obtain⟨u,ru,lu⟩:=hlX j x v hN e2'' hvis
       refine⟨u,ru,?_⟩
       rcases lu with ⟨hk',_⟩ | ⟨_,c,hc,hcell⟩
       . exfalso
         have hk'':X.env.scope.names.lookup x=some .local:=hk'
         rcases hk with h | h<;>rw[h]at hk''<;>cases hk''
       . right
         obtain⟨k',r1,r2⟩:=ZP (scope:=scope) (env:=X.env) hfr
         refine⟨?_,?_⟩
         . rcases r2 with z | ⟨_,z⟩
           . right;rw[z]at r1;exact r1
           . left;rw[z]at r1;exact r1
         . obtain⟨c',hc'⟩:=ZC (env:=X.env) (cs:=[]) (.inl (mem_of_lookup hfr))
           have:=(S.clook I.ok hc').1
           rw[hc]at this
           cases this
           obtain⟨o,ho',hd⟩:=hcell
           exact⟨c,hc',o,kp _ _ ho',hd⟩
 cell:=λx c h=>by
   obtain⟨v,o,ho,hd⟩:=I.cell x c (S.clook I.ok h).1
   exact⟨v,o,kp _ _ ho,hd⟩
 free:=by
   show (upd H D _) C=none
   rw[qg (Ne.symm hDC)]
   exact I.hok.fresh hC
 freeC:=λx c h=>by
   have h1:=(S.clook I.ok h).1
   obtain⟨v,o,ho,hd⟩:=I.cell x c h1
   rw[qg (Nat.ne_of_lt (Nat.lt_of_lt_of_le (Heap.lt_size ho) hD))]
   exact(I.freeC x c h1).imp id λz=>⟨rfl,z.2⟩
 pin:=λp hp=>by
   have hp':p∈X.pn++pins:=by
     have:p∈(X.pn++pins)++[]:=hp
     simpa using this
   obtain⟨e,n,ne,nf,d⟩:=I.pin p hp'
   have hlt:=Heap.lt_size e
   refine⟨kp _ _ e,?_,Nat.ne_of_lt (Nat.lt_of_lt_of_le hlt hC),λhm=>?_,d⟩
   . rw[qg (Nat.ne_of_lt (Nat.lt_of_lt_of_le hlt hD))];exact n
   . rcases List.mem_cons.mp (I.stkSub p.1 hm) with z | z
     . exact ne z
     . exact nf z
 hok:=I.hok.laid kp hD ⟨Nat.zero_le _,[],n₀,.nil,hl⟩
 len:=by
   have hix:=S.ixs
   unfold wL at hix
   rw[Bool.and_eq_true]at hix
   have:ix.length=N'.length:=by simpa using hix.1
   show (uG ix σ).length=N'.length
   unfold uG
   rw[List.length_map,this]
theorem yT {C:Addr} {fp:List Addr} {σ':St} {H':Hp} {s':Shared} {pl:List (Addr×Obj)} (I:qx X pins σ H s) (hf:∀b∈fp,ZE X pins H b) (J:qx (zJ X N' scope C s H fp pins) pl σ' H' s'):qx X pins σ H' s':=
 I.call' (ch:=fp) J.os J.base J.hok J.bare λb hb=>⟨(hf b hb).2.2.2.1,(hf b hb).2.1,(hf b hb).2.2.2.2.1,(hf b hb).2.2.2.2.2⟩
theorem yS {C:Addr} {H':Hp} {s₀ s':Shared} {h':Heap} (I₀:qx X pins σ H s₀) (I:qx X pins σ H' s') (hC:s₀.heap.objs.size<=C) (hn:H' C=none) (sb:Heap.SameBut C s'.heap h'):qx X pins σ H' {s' with heap:=h'}:=by
 refine I.turned (it:=C) (t':=s'.toks) (λb o hb e=>(sb.2 b hb).trans e) hn (Nat.ne_of_gt (Nat.lt_of_lt_of_le I₀.lt hC)) (.inr (Nat.le_trans I₀.sz hC)) (λx c e z=>?_) λp hp z=>?_
 . obtain⟨v,q⟩:=I₀.cell x c e
   exact absurd (Nat.lt_of_lt_of_le q.lt (by rw[z];exact hC)) (Nat.lt_irrefl _)
 . exact absurd (Nat.lt_of_lt_of_le (Heap.lt_size (I₀.pin p hp).1) (by rw[z];exact hC)) (Nat.lt_irrefl _)
end
def KH (X:Cx) (ifs:List Expr) (t:TT):Prop:=
 ∀(pins:List (Addr×Obj)) (s:Shared) (σ:St) (H:Hp) (Q:Bool->Hp->Prop),qx X pins σ H s->t σ H Q->
   wpAny (model X.prog X.w) X.A (forIn ifs true λc r=>if r=true then do let ok <-isTrue c X.env (eval c X.env);pure (ForInStep.yield ok) else pure (ForInStep.yield r)) (TP X pins σ Q) X.xe s
@[irreducible] def xH (X:Cx) (ifs:List Expr) (t:TT):Prop:=KH X ifs t
theorem xH.of {X:Cx} {ifs:List Expr} {t:TT} (h:KH X ifs t):xH X ifs t:=by unfold xH;exact h
theorem xH.to {X:Cx} {ifs:List Expr} {t:TT} (h:xH X ifs t):KH X ifs t:=by unfold xH at h;exact h
def Rl:TT:=λ_ H Q=>Q true H
theorem jt {X:Cx}:xH X [] Rl:=.of (by
 exact λ_ _ _ H _ I h=>wpAny_tests_nil ⟨H,I,h⟩)
theorem ZS {X:Cx} {c:Expr} {t:TT} (h:JT X c t):xH X [c] t:=.of (by
 have h:=h.to
 exact λpins s σ H Q I hw=>wpAny_tests_one (h pins s σ H Q I hw))
section
variable {prog:Program} {w:World} {A:Around} {R:Result->Shared->Prop} {s:Shared}
theorem XO {elt target iter:Expr} {ifs:List Expr} {scope:Scope} {pos:Pos} {it acc:Value} {env:Env} (I:Nat->Shared->Prop)
   (turn:∀n s,I n s->wpAny (model prog w) A (pyNext it) (λr s₁=>match r with
     | none=>R (.ok .next) s₁
     | some v=>wpAny (model prog w) A (letOwnedTupleGo target it v) (λ_ s₁'=>wpAny (model prog w) A (assign target env v) (λ_ s₂=>
         wpAny (model prog w) A (forIn ifs true λc r=>if r=true then do let ok <-isTrue c env (eval c env);pure (ForInStep.yield ok) else pure (ForInStep.yield r)) (λok s₃=>
           if ok=true then wpAny (model prog w) A (eval elt env) (λx s₄=>
             wpAny (model prog w) A (call (.builtin "list.append") [acc,x]) (λ_ s₅=>∃m,m < n/\I m s₅) (λ_ _=>False) s₄) (λ_ _=>False) s₃
           else ∃m,m < n/\I m s₃) (λ_ _=>False) s₂) (λ_ _=>False) s₁') (λ_ _=>False) s₁) (λ_ _=>False) s)
   (n:Nat) (h:I n s):
   codeAny (model prog w) A (.compLoop (.ListComp elt [⟨target,iter,ifs,0⟩] scope pos) 0 it acc env) R s:=by
 refine codeAny_loop rfl I (λn s hI=>?_) n h
 show wpAny _ A ((compTurn (.ListComp elt [⟨target,iter,ifs,0⟩] scope pos) 0 it acc env).onRaise (λx=>do noteFrame x env;theTreesLotGoes x)) _ _ s
 refine wpAny_noted ?_
 rw[compTurn_list]
 refine wpAny_bind (wpAny_standAt (wpAny_bind (wpAny_mono (turn n s hI) (λr s₁ h₁=>?_) λ_ _ h'=>h'.elim)))
 cases r with
 | none=>exact wpAny_pure h₁
 | some v=>
   refine wpAny_bind (wpAny_mono h₁ (λ_ s₁' h₁'=>?_) λ_ _ h'=>h'.elim)
   refine wpAny_bind (wpAny_mono h₁' (λ_ s₂ h₂=>wpAny_bind (wpAny_mono h₂ (λok s₃ h₃=>?_) λ_ _ h'=>h'.elim)) λ_ _ h'=>h'.elim)
   cases ok with
   | false=>exact wpAny_pure ⟨rfl,h₃⟩
   | true=>
     exact wpAny_bind (wpAny_bind (wpAny_mono h₃ (λx s₄ h₄=>wpAny_bind (wpAny_mono h₄ (λ_ s₅ h₅=>wpAny_pure (wpAny_pure ⟨rfl,h₅⟩)) λ_ _ h'=>h'.elim)) λ_ _ h'=>h'.elim))
end
def Wj (J:It) (g:TG) (tt:TT) (te:TE) (D:Addr) (σ:St) (H:Hp) (Q:Hp->Prop):Prop:=
 ∃W:Nat->Nat->St->Hp->Prop,(∃m,W 0 m σ (upd H D (.lst [])))/\∀i m σ' H',W i m σ' H'->
   (J.stop i H'/\Q H')\/(J.go i H'/\∃N:St->Hp->Prop,(∀σ2 H2,N σ2 H2->∃m',m' < m/\W (i+1) m' σ2 H2)/\∀x H2,J.yld i H' x H2->g x σ' H2 λσ2 H3=>tt σ2 H3 λb H4=>
     if b=true then te σ2 H4 λv H5=>∃ys,H5 D=some (.lst ys)/\ys.length < sizeLine/\N σ2 (upd H5 D (.lst (ys++[v]))) else N σ2 H4)
def Ra (wi:TI) (ix:List (Option Nat)) (g:TG) (tt:TT) (te:TE):TE:=λσ H Q=>wi σ H λJ H1=>∀D,H1 D=none->Wj J g tt te D (uG ix σ) H1 λH2=>Q (.ref D) H2
section
variable {X:Cx} {N':List Str} {ix:List (Option Nat)} {scope:Scope}
theorem Xg {elt iter target:Expr} {ifs:List Expr} {pos:Pos} {g:TG} {tt:TT} {te:TE} {pins:List (Addr×Obj)} {σ:St} {H:Hp} {s:Shared} {it:Addr} {fp:List Addr} {tn:Nat->Heap->Prop} {J:It} {E:Value->Shared->Prop}
   {RR:Value->Addr->Result->Shared->Prop} {Q:Addr->Hp->Prop}
   (hc:X.calm=true) (S:j4 X N' ix scope) (I:qx X pins σ H s) (T:VQ X.prog X.w X.K target J fp it tn) (st:tn 0 s.heap) (hf:∀b∈fp,ZE X pins H b)
   (hb:∀C s₂ H₂ fp pins,PG (zJ X N' scope C s₂ H₂ fp pins) target g/\KH (zJ X N' scope C s₂ H₂ fp pins) ifs tt/\PE (zJ X N' scope C s₂ H₂ fp pins) elt te)
   (h:∀D,H D=none->Wj J g tt te D (uG ix σ) H (Q D))
   (fin:∀(D C:Addr) (H':Hp) (s':Shared) (m:Str->Option Value),s.heap.objs.size<=C->H' C=none->s'.heap.Ns C m->qx X pins σ H' s'->Q D H'->RR (.ref D) C (.ok .next) s'):
   wpAny (model X.prog X.w) X.A (newList []) (λacc s₃=>wpAny (model X.prog X.w) X.A (newFunctionEnv scope X.env.globals (jA X.env scope.names []) [] X.env.qual none .none (some X.env)) (λcenv s₄=>
     codeAny (model X.prog X.w) X.A (.compStart (.ListComp elt [⟨target,iter,ifs,0⟩] scope pos) 0 (.ref it) acc {cenv with scope:=relabel scope X.env}) (RR acc cenv.locals) s₄) E s₃) E s:=by
 have hfo:∀b∈fp,b < s.heap.objs.size:=λb hb=>by
   obtain⟨o,e,_⟩:=T.obj _ _ st b hb
   exact Heap.lt_size e
 refine wpAny_newObj_type (wpAny_newFunctionEnv S.cellH (by intro y hy;simp at hy) (λh₁ hns₁ hsb₁=>?_) S.kind)
 dsimp only at hns₁ hsb₁ ⊢
 generalize hH2:s.heap.push {cls:=.type "list",dict:=none,data:=.seq ([]:List Value).toArray}=H2 at hns₁ hsb₁ ⊢
 have hC:H2.objs.size=s.heap.objs.size+1:=by rw[<-hH2,Heap.size_push]
 have hDC:s.heap.objs.size≠H2.objs.size:=by rw[hC];exact Nat.ne_of_lt (Nat.lt_succ_self _)
 have hCle:s.heap.objs.size<=H2.objs.size:=by rw[hC];exact Nat.le_succ _
 have below:∀b,b < s.heap.objs.size->b≠H2.objs.size:=λb hb=>by rw[hC];exact Nat.ne_of_lt (Nat.lt_succ_of_lt hb)
 have old:∀b o,s.heap.get? b=some o->h₁.get? b=some o:=λb o e=>hsb₁.extBut b o (below b (Heap.lt_size e)) (Heap.get?_push_of_some _ (hH2▸Heap.get?_push_of_some _ e))
 have hacc:h₁.get? s.heap.objs.size=some {cls:=.type "list",data:=.seq #[] 0}:=hsb₁.extBut _ _ hDC (Heap.get?_push_of_some _ (hH2▸Heap.get?_push_size _ rfl))
 obtain⟨W,⟨m0,w0⟩,turn⟩:=h s.heap.objs.size (I.hok.fresh (Nat.le_refl _))
 have I1:qx (zJ X N' scope H2.objs.size s H fp pins) [] (uG ix σ) (upd H s.heap.objs.size (.lst [])) {s with heap:=h₁,toks:=s.toks+([]:List (Str×Value)).length}:=
   vq S I hf hfo (Nat.le_refl _) hCle hDC old hns₁ hacc
 have st₁:tn 0 h₁:=T.keep _ _ _ st λb hb o e=>old b o e
 have fpn:∀b∈fp,(upd H s.heap.objs.size (.lst [])) b=none:=λb hb=>by
   rw[qg (Nat.ne_of_lt (hfo b hb))]
   exact(hf b hb).1
 obtain⟨hg,htt,hte⟩:=hb H2.objs.size s H fp pins
 have okY:=I1.ok
 have stat:∀{H':Hp},(∀b∈fp,H' b=none)->∀b∈fp,ZE (zJ X N' scope H2.objs.size s H fp pins) [] H' b:=λ{H'} hn b hb=>
   ⟨hn b hb,(okY.exf b hb).1,okY.exfs b hb,.inl hb,(okY.exf b hb).2,λp hp=>by
     have hp':p∈X.pn++pins:=by
       have:p∈(X.pn++pins)++[]:=hp
       simpa using this
     exact(hf b hb).2.2.2.2.2 p hp'⟩
 have loop:codeAny (model X.prog X.w) X.A (.compLoop (.ListComp elt [⟨target,iter,ifs,0⟩] scope pos) 0 (.ref it) (.ref s.heap.objs.size) (compEnvC scope (jA X.env scope.names []) H2.objs.size X.env))
     (RR (.ref s.heap.objs.size) H2.objs.size) {s with heap:=h₁,toks:=s.toks+([]:List (Str×Value)).length}:=by
   refine XO (λn s'=>∃i σ' H',qx (zJ X N' scope H2.objs.size s H fp pins) [] σ' H' s'/\tn i s'.heap/\(∀b∈fp,H' b=none)/\W i n σ' H') ?_ m0 ⟨0,_,_,I1,st₁,fpn,w0⟩
   rintro n s3 ⟨i,σ3,H3,I3,st3,fr3,w3⟩
   rcases turn i n σ3 H3 w3 with ⟨stop,qn⟩ | ⟨go,NN,hNN,step⟩
   . refine jg (T.done (zJ X N' scope H2.objs.size s H fp pins) rfl rfl rfl hc i [] s3 σ3 H3 _ I3 (stat fr3) st3 stop) λr s4 ⟨hr,I4⟩=>?_
     subst hr
     obtain⟨mm,hnm,_⟩:=I4.loc
     exact fin _ _ H3 s4 mm hCle I4.free hnm (yT I hf I4) qn
   . refine jg (T.item (zJ X N' scope H2.objs.size s H fp pins) rfl rfl rfl hc i [] s3 σ3 H3 _ I3 (stat fr3) st3 go) λr s4 ⟨u,hr,h4⟩=>?_
     subst hr
     refine jg h4 λ_ s5 ⟨x,H5,I5,r5,y5,st5,fr5⟩=>?_
     have I5':=I5.pinned (stat fr5) (T.obj _ _ st5)
     refine jg (hg _ s5 σ3 H5 x u _ I5' r5 (step x H5 y5)) λ_ s6 ⟨σ6,H6,I6,q6⟩=>?_
     refine jg (htt _ s6 σ6 H6 _ I6 q6) λok s7 ⟨H7,I7,q7⟩=>?_
     have again:∀{σ8:St} {H8:Hp} {s8:Shared},qx (zJ X N' scope H2.objs.size s H fp pins) ([]++Ye fp s5.heap) σ8 H8 s8->NN σ8 H8->
         ∃m,m < n/\∃i σ' H',qx (zJ X N' scope H2.objs.size s H fp pins) [] σ' H' s8/\tn i s8.heap/\(∀b∈fp,H' b=none)/\W i m σ' H':=λ{σ8 H8 s8} I8 n8=>by
       obtain⟨m',hm,w8⟩:=hNN σ8 H8 n8
       refine⟨m',hm,i+1,σ8,H8,I8.unpinned,T.keep _ _ _ st5 λb hb o e=>(I8.pin (b,o) (List.mem_append_right _ (List.mem_append_right _ (Jq hb e)))).1,λb hb=>?_,w8⟩
       obtain⟨o,e,d⟩:=T.obj _ _ st5 b hb
       exact(I8.pin (b,o) (List.mem_append_right _ (List.mem_append_right _ (Jq hb e)))).2.1
     cases ok with
     | false=>
       rw[if_neg Bool.false_ne_true]at q7 ⊢
       exact again I7 q7
     | true=>
       rw[if_pos rfl]at q7 ⊢
       refine jg (hte _ s7 σ6 H7 _ I7 q7) λv s8 ⟨y,H8,I8,r8,q8⟩=>?_
       obtain⟨ys,hy,hz,q8⟩:=q8
       refine jg (jR (X:=zJ X N' scope H2.objs.size s H fp pins) _ s8 σ6 H8 (.ref s.heap.objs.size) [y] (.ref s.heap.objs.size) [v] (λ_ H9=>NN σ6 H9) I8 rfl (.cons r8 .nil) ⟨_,ys,y,rfl,rfl,hy,hz,q8⟩) λ_ s9 ⟨_,H9,I9,_,q9⟩=>?_
       exact again I9 q9
 exact codeAny_compStart_list loop (T.self X.A 0 _ _ _ st₁ loop)
theorem Gf {elt iter target:Expr} {ifs:List Expr} {pos:Pos} {wi:TI} {g:TG} {tt:TT} {te:TE} (hc:X.calm=true) (S:j4 X N' ix scope) (hi:PI X target iter wi)
   (hb:∀C s₂ H₂ fp pins,PG (zJ X N' scope C s₂ H₂ fp pins) target g/\KH (zJ X N' scope C s₂ H₂ fp pins) ifs tt/\PE (zJ X N' scope C s₂ H₂ fp pins) elt te)
   (hs:∀x,foldedSetIterable iter X.env x=pure x:=by intro _;rfl):PE X (.ListComp elt [⟨target,iter,ifs,0⟩] scope pos) (Ra wi ix g tt te):=by
 intro pins s σ H Q I h
 rw[eval_ListComp]
 refine wpAny_comprehension_free (use:=none) rfl hs (Zt (S.freeH I.ok)) S.kind S.locH ?_
 refine jg (hi pins s σ H _ I h) λxv s1 h1=>jg h1 λitv s2 h2=>?_
 obtain⟨it,fp,tn,J,H2,e,I2,T,st2,f2,q2⟩:=h2
 subst e
 refine Xg (RR:=λacc C=>compPost (model X.prog X.w) X.A X.xe none (EP X pins σ Q) acc C) (Q:=λD H'=>Q (.ref D) H') hc S I2 T st2 f2 hb q2 ?_
 intro D C H' s' m hC hn hm I' q
 exact⟨m,hm,λh' sb=>⟨.ref D,H',yS I2 I' hC hn sb,rfl,q⟩⟩
theorem Qp {elt iter target:Expr} {ifs:List Expr} {pos:Pos} {wi:TI} {g:TG} {tt:TT} {te:TE} (hc:X.calm=true) (S:j4 X N' ix scope) (hi:JI X target iter wi) (hb:∀C s₂ H₂ fp pins,JG (zJ X N' scope C s₂ H₂ fp pins) target g/\xH (zJ X N' scope C s₂ H₂ fp pins) ifs tt/\JE (zJ X N' scope C s₂ H₂ fp pins) elt te) (hs:∀x,foldedSetIterable iter X.env x=pure x:=by intro _;rfl):JE X (.ListComp elt [⟨target,iter,ifs,0⟩] scope pos) (Ra wi ix g tt te):=.of (Gf hc S hi.to (λC s₂ H₂ fp pins=>⟨(hb C s₂ H₂ fp pins).1.to,(hb C s₂ H₂ fp pins).2.1.to,(hb C s₂ H₂ fp pins).2.2.to⟩) hs)
theorem k6 {i:Nat} {x:Str} {elt iter target:Expr} {ifs:List Expr} {pos spos px:Pos} {wi:TI} {g:TG} {tt:TT} {te:TE} (hN:X.N.Nodup) (hxi:X.N[i]?=some x) (hx:KN X.env.scope x) (hc:X.calm=true) (S:j4 X N' ix scope) (hi:PI X target iter wi)
   (hb:∀C s₂ H₂ fp pins,PG (zJ X N' scope C s₂ H₂ fp pins) target g/\KH (zJ X N' scope C s₂ H₂ fp pins) ifs tt/\PE (zJ X N' scope C s₂ H₂ fp pins) elt te)
   (hsw:swapsWith (.ListComp elt [⟨target,iter,ifs,0⟩] scope pos) (some (.Name x px)) spos.line X.env=pure true:=by rfl)
   (hs:∀x,foldedSetIterable iter X.env x=pure x:=by intro _;rfl) (hf:X.fn x=true\/X.env.scope.names.lookup x=some .local:=by first | exact .inl rfl | exact .inr rfl | assumption):
   PS X (.Assign [.Name x px] (.ListComp elt [⟨target,iter,ifs,0⟩] scope pos) spos) (YE (Ra wi ix g tt te) (jH i)):=by
 intro pins s σ H D I h
 rw[exec_Assign_Name_used _ _ _ _ hsw]
 refine wpAny_bind (wpAny_standAt (wpAny_bind ?_))
 show wpAny _ X.A (do let _ <-comprehension (.ListComp elt [⟨target,iter,ifs,0⟩] scope pos) scope X.env _ (newList []) false (eval iter X.env) (some (assign (.Name x px) X.env))) _ _ s
 refine wpAny_bind (jg (wpAny_comprehension_free (use:=some (assign (.Name x px) X.env)) (Q:=λ_ s'=>SP X pins D .next s') rfl hs (Zt (S.freeH I.ok)) S.kind S.locH ?_) λ_ s' hq=>wpAny_pure (wpAny_pure hq))
 refine jg (hi pins s σ H _ I h) λxv s1 h1=>jg h1 λitv s2 h2=>?_
 obtain⟨it,fp,tn,J,H2,e,I2,T,st2,f2,q2⟩:=h2
 subst e
 refine Xg (RR:=λacc C=>compPost (model X.prog X.w) X.A X.xe (some (assign (.Name x px) X.env)) (λ_ s'=>SP X pins D .next s') acc C) (Q:=λD' H'=>jH i (.ref D') σ H' D.nx) hc S I2 T st2 f2 hb q2 ?_
 intro D' C H' s' m hC hn hm I' q
 show wpAny _ X.A (assign (.Name x px) X.env (.ref D')) _ _ _
 refine wpAny_assign_Name (YR I' hN hxi hx (v:=.ref D') rfl (λs'' I'' hch=>?_) hf)
 obtain⟨a,sb,ha⟩:=hch
 have hCa:C≠a:=by
   rcases ha with z | z
   . rw[z];exact Nat.ne_of_gt (Nat.lt_of_lt_of_le I2.lt hC)
   . intro e
     obtain⟨v,qc⟩:=I2.cell x a z
     exact absurd (Nat.lt_of_lt_of_le qc.lt (by rw[<-e];exact hC)) (Nat.lt_irrefl _)
 refine⟨m,hm.sameBut sb hCa,λh' sb'=>?_⟩
 refine⟨_,H',?_,q⟩
 refine I''.turned (it:=C) (t':=s''.toks) (λb o hb e=>(sb'.2 b hb).trans e) hn (Nat.ne_of_gt (Nat.lt_of_lt_of_le I2.lt hC)) (.inr (Nat.le_trans I2.sz hC)) (λy c e z=>?_) λp hp z=>?_
 . obtain⟨v,qc⟩:=I2.cell y c e
   exact absurd (Nat.lt_of_lt_of_le qc.lt (by rw[z];exact hC)) (Nat.lt_irrefl _)
 . exact absurd (Nat.lt_of_lt_of_le (Heap.lt_size (I2.pin p hp).1) (by rw[z];exact hC)) (Nat.lt_irrefl _)
theorem J4 {i:Nat} {x:Str} {elt iter target:Expr} {ifs:List Expr} {pos spos px:Pos} {wi:TI} {g:TG} {tt:TT} {te:TE} (hN:X.N.Nodup) (hxi:X.N[i]?=some x) (hx:KN X.env.scope x) (hc:X.calm=true) (S:j4 X N' ix scope) (hi:JI X target iter wi) (hb:∀C s₂ H₂ fp pins,JG (zJ X N' scope C s₂ H₂ fp pins) target g/\xH (zJ X N' scope C s₂ H₂ fp pins) ifs tt/\JE (zJ X N' scope C s₂ H₂ fp pins) elt te) (hsw:swapsWith (.ListComp elt [⟨target,iter,ifs,0⟩] scope pos) (some (.Name x px)) spos.line X.env=pure true:=by rfl) (hs:∀x,foldedSetIterable iter X.env x=pure x:=by intro _;rfl) (hf:X.fn x=true\/X.env.scope.names.lookup x=some .local:=by first | exact .inl rfl | exact .inr rfl | assumption):JS X (.Assign [.Name x px] (.ListComp elt [⟨target,iter,ifs,0⟩] scope pos) spos) (YE (Ra wi ix g tt te) (jH i)):=.of (k6 hN hxi hx hc S hi.to (λC s₂ H₂ fp pins=>⟨(hb C s₂ H₂ fp pins).1.to,(hb C s₂ H₂ fp pins).2.1.to,(hb C s₂ H₂ fp pins).2.2.to⟩) hsw hs hf)
end
end L2
set_option Elab.async false
set_option linter.all false
set_option maxRecDepth 100000
set_option maxHeartbeats 4000000
namespace L2
open PySem PySem.Spec PyProof.Rows
def R9 (x:Str):It:=⟨λi _=>i < x.cps.size,λi H v H'=>H'=H/\∃c,x.cps[i]?=some c/\v=.str ⟨#[c]⟩,λi _=>i=x.cps.size⟩
theorem Wg {P:Program} {w:World} {K:PySem.W.Frag} {tg:Expr} (it:Addr) (x:Str) (t:Tok) (ty:String)
   (hn:["enumerate","zip","dict_itemiterator","dict_reverseitemiterator","odict_iterator","itertools.zip_longest","itertools.pairwise"].contains ty=false)
   (hW:∀A:Around,A.handled=none->Walks P w A it [it] [it] x.cps.size (SignAt x) (λi h=>h.IsStrIter it ty x t i))
   (hself:∀(A:Around) (i:Nat) (s:Shared) (Q:Value->Shared->Prop) (E:Value->Shared->Prop),s.heap.IsStrIter it ty x t i->Q (.ref it) s->wpAny (model P w) A (pyIter (.ref it)) Q E s):
   VQ P w K tg (R9 x) [it] it (λi h=>h.IsStrIter it ty x t i) where
 mem:=by simp
 obj:=λi h st b hb=>by
   have e:b=it:=by simpa using hb
   subst e
   obtain⟨o,e,c,d⟩:=st
   exact⟨o,e,λv z=>by rw[d]at z;cases z⟩
 keep:=λi h h' st k=>let ⟨o,e,r⟩:=st;⟨o,k it (by simp) o e,r⟩
 item:=by
   intro X hP hw hK hc i pins s σ H E I hf st hg
   subst hP hw hK
   obtain⟨f0,f1,f2,f3,f4,f5⟩:=hf it (by simp)
   refine(hW X.A (I.ok.hd hc)).item i s _ _ hg st λv h' tk hv st' kk=>?_
   obtain⟨c,u,hcu,rfl⟩:=hv
   have I1:qx X pins σ H {s with heap:=h',toks:=tk}:=I.turned (λb o hb e=>kk b o (by simpa using hb) e) f0 f1 f3 f4 f5
   obtain⟨o,e,c1,d1⟩:=id st'
   exact⟨_,rfl,UA (s:={s with heap:=h',toks:=tk}) e c1 d1 hn ⟨.str ⟨#[c]⟩,H,I1,⟨u,rfl⟩,⟨rfl,c,hcu,rfl⟩,st',λb hb=>(hf b hb).1⟩⟩
 done:=by
   intro X hP hw hK hc i pins s σ H E I hf st hg
   subst hP hw hK
   obtain⟨f0,f1,f2,f3,f4,f5⟩:=hf it (by simp)
   have hi:i=x.cps.size:=hg
   subst hi
   exact(hW X.A (I.ok.hd hc)).done s _ _ st λh' tk kk=>⟨rfl,I.turned (λb o hb e=>kk b o (by simpa using hb) e) f0 f1 f3 f4 f5⟩
 self:=hself
def RZ (tl:TE):TI:=λσ H R=>tl σ H λx H1=>∃y,x=.str y/\R (R9 y) H1
theorem VE {X:Cx} {tg l:Expr} {tl:TE} (hl:JE X l tl):JI X tg l (RZ tl):=.of (by
 have hl:=hl.to
 intro pins s σ H R I h
 refine jg (hl pins s σ H _ I h) λv s1 ⟨x,H1,I1,r1,q1⟩=>?_
 obtain⟨y,e,q⟩:=q1
 subst e
 obtain⟨t,rfl⟩:=r1
 have fp:∀b∈[s1.heap.objs.size],ZE X pins H1 b:=λb hb=>by
   have e:b=s1.heap.objs.size:=by simpa using hb
   subst e
   exact I1.fpOk (Nat.le_refl _) (I1.hok.fresh (Nat.le_refl _))
 cases ha:y.cps.all (· < 128)
 . refine wpAny_pyIter_wide ha ?_
   exact⟨s1.heap.objs.size,[s1.heap.objs.size],_,_,H1,rfl,I1.kept (t':=s1.toks) λb o e=>Heap.get?_push_of_some _ e,
     Wg _ y t "str_iterator" (by decide) (λA hA=>Walks.strWide hA _ y t) (λA i s Q E st q=>wpAny_pyIter_striter_wide st q),⟨_,Heap.get?_push_size _ rfl,rfl,rfl⟩,fp,q⟩
 . refine wpAny_pyIter_ascii ha ?_
   exact⟨s1.heap.objs.size,[s1.heap.objs.size],_,_,H1,rfl,I1.kept (t':=s1.toks) λb o e=>Heap.get?_push_of_some _ e,
     Wg _ y t "str_ascii_iterator" (by decide) (λA hA=>Walks.strAscii hA _ y t) (λA i s Q E st q=>wpAny_pyIter_striter_ascii st q),⟨_,Heap.get?_push_size _ rfl,rfl,rfl⟩,fp,q⟩)
section
variable {K:PySem.W.Frag} {g:TG} {tt:TT} {te:TE} {D a:Addr} {σ:St} {H:Hp} {Q:Hp->Prop}
def WW (tt:TT) (te:TE) (D:Addr) (N:St->Hp->Prop):St->Hp->Prop:=λσ2 H3=>tt σ2 H3 λb H4=>
 if b=true then te σ2 H4 λv H5=>∃ys,H5 D=some (.lst ys)/\ys.length < sizeLine/\N σ2 (upd H5 D (.lst (ys++[v]))) else N σ2 H4
theorem XS {J:It} {n:Nat} (Pv:Nat->St->Hp->Prop) (h0:Pv 0 σ (upd H D (.lst [])))
   (go:∀i σ' H',i < n->Pv i σ' H'->J.go i H'/\∀x H2,J.yld i H' x H2->g x σ' H2 (WW tt te D (Pv (i+1)))) (stop:∀σ' H',Pv n σ' H'->J.stop n H'/\Q H'):Wj J g tt te D σ H Q:=by
 refine⟨λi m σ' H'=>m=n - i/\i<=n/\Pv i σ' H',⟨n,by simp,Nat.zero_le _,h0⟩,?_⟩
 rintro i m σ' H' ⟨rfl,hi,p⟩
 by_cases hlt:i < n
 . obtain⟨h1,h2⟩:=go i σ' H' hlt p
   exact .inr ⟨h1,Pv (i+1),λσ2 H2 p2=>⟨n - (i+1),by omega,rfl,hlt,p2⟩,h2⟩
 . have e:i=n:=by omega
   subst e
   exact .inl (stop σ' H' p)
theorem zA {lo:Int} {n:Nat} (Pv:Nat->St->Hp->Prop) (h0:Pv 0 σ (upd H D (.lst [])))
   (hs:∀i σ' H',i < n->Pv i σ' H'->g (.int (lo+i)) σ' H' (WW tt te D (Pv (i+1)))) (hd:∀σ' H',Pv n σ' H'->Q H'):Wj (Kz lo n) g tt te D σ H Q:=
 XS (n:=n) Pv h0 (λi σ' H' hi p=>⟨hi,λx H2 y=>by
   obtain⟨e,y⟩:=y
   subst e y
   exact hs i σ' H2 hi p⟩) λσ' H' p=>⟨Nat.le_refl _,hd σ' H' p⟩
theorem jN {xs:List V} (Pv:Nat->St->Hp->Prop) (h0:Pv 0 σ (upd H D (.lst []))) (hl:∀i σ' H',i<=xs.length->Pv i σ' H'->SqL K H' a xs)
   (hs:∀i x σ' H',xs[i]?=some x->Pv i σ' H'->g x σ' H' (WW tt te D (Pv (i+1)))) (hd:∀σ' H',Pv xs.length σ' H'->Q H'):Wj (KA K a) g tt te D σ H Q:=
 XS (n:=xs.length) Pv h0 (λi σ' H' hi p=>⟨⟨xs,xs[i],hl i σ' H' (Nat.le_of_lt hi) p,by simp [hi]⟩,λx H2 y=>by
   obtain⟨e,y⟩:=y
   subst e
   exact hs i x σ' _ (y xs (hl i σ' _ (Nat.le_of_lt hi) p)) p⟩) λσ' H' p=>⟨⟨xs,hl _ σ' H' (Nat.le_refl _) p,Nat.le_refl _⟩,hd σ' H' p⟩
theorem UK {xs:List V} (Pv:Nat->St->Hp->Prop) (h0:Pv 0 σ (upd H D (.lst []))) (hl:∀i σ' H',i<=xs.length->Pv i σ' H'->SqT K H' a xs)
   (hs:∀i x σ' H',xs[i]?=some x->Pv i σ' H'->g x σ' H' (WW tt te D (Pv (i+1)))) (hd:∀σ' H',Pv xs.length σ' H'->Q H'):Wj (KO K a) g tt te D σ H Q:=
 XS (n:=xs.length) Pv h0 (λi σ' H' hi p=>⟨⟨xs,xs[i],hl i σ' H' (Nat.le_of_lt hi) p,by simp [hi]⟩,λx H2 y=>by
   obtain⟨e,y⟩:=y
   subst e
   exact hs i x σ' _ (y xs (hl i σ' _ (Nat.le_of_lt hi) p)) p⟩) λσ' H' p=>⟨⟨xs,hl _ σ' H' (Nat.le_refl _) p,Nat.le_refl _⟩,hd σ' H' p⟩
theorem XR {x:Str} (Pv:Nat->St->Hp->Prop) (h0:Pv 0 σ (upd H D (.lst [])))
   (hs:∀i c σ' H',x.cps[i]?=some c->Pv i σ' H'->g (.str ⟨#[c]⟩) σ' H' (WW tt te D (Pv (i+1)))) (hd:∀σ' H',Pv x.cps.size σ' H'->Q H'):Wj (R9 x) g tt te D σ H Q:=
 XS (n:=x.cps.size) Pv h0 (λi σ' H' hi p=>⟨hi,λv H2 y=>by
   obtain⟨e,c,hc,rfl⟩:=y
   subst e
   exact hs i c σ' _ hc p⟩) λσ' H' p=>⟨rfl,hd σ' H' p⟩
end
section
variable {X:Cx}
theorem YB:∀(bs:List Bool),(List.range bs.length).all (λi=>bs.getD i false)=bs.all id:=by
 intro bs
 induction bs with
 | nil=>rfl
 | cons b bs ih=>
   rw[List.length_cons,List.range_succ_eq_map,List.all_cons,List.all_map,List.all_cons]
   have:((λi=>(b::bs).getD i false) ∘ Nat.succ)=λi=>bs.getD i false:=by
     funext i
     simp [Function.comp]
   rw[this,ih]
   simp
theorem Jh (hc:X.calm=true):Qr X (.builtin "all") (λxs H Q=>∃(p:Addr) (bs:List Bool),xs=[.ref p]/\SqL X.K H p (bs.map V.bl)/\Q (.bl (bs.all id)) H):=by
 intro pins s σ H xs us Q I r h
 obtain⟨p,bs,rfl,hq,q⟩:=h
 obtain⟨u,rfl,rx⟩:=QU r
 cases rx
 obtain⟨its,rv,pl,hz⟩:=I.list hq
 have hlt:p < s.heap.objs.size:=by
   obtain⟨o,n,e,_⟩:=pl
   exact Heap.lt_size e
 have hn:its.toArray.size=bs.length:=by
   have:=rv.length
   rw[List.length_map]at this
   simp only[List.size_toArray]
   omega
 have hh:X.A.in1.handled=none:=I.ok.hd hc
 refine call_all_walk (wpAny_pyIter_list pl.isList ?_)
 refine⟨s.heap.objs.size,[s.heap.objs.size,p],[s.heap.objs.size],its.toArray.size,λi v=>its.toArray[i]?=some v,_,λi=>bs.getD i false,rfl,Walks.list hh s.heap.objs.size p (Nat.ne_of_lt hlt) its.toArray,
   ⟨⟨_,Heap.get?_push_size _ rfl,rfl,rfl⟩,pl.isList.at λo e=>Heap.get?_push_of_some _ e⟩,?_,λh' tk hk=>?_⟩
 . intro i v s' Q' E' hP hQ
   have hi:its[i]?=some v:=by simpa using hP
   have hb:∃b,bs[i]?=some b/\v=Value.bool b:=by
     cases e:bs[i]? with
     | none=>
       exfalso
       have h1:(bs.map V.bl)[i]?=none:=by rw[List.getElem?_map,e];rfl
       rw[qD.none_of rv h1]at hi
       cases hi
     | some b=>
       have h1:(bs.map V.bl)[i]?=some (V.bl b):=by rw[List.getElem?_map,e];rfl
       obtain⟨u,hu,ru⟩:=rv.get h1
       rw[hi]at hu
       cases hu
       exact⟨b,rfl,ru⟩
   obtain⟨b,e,rfl⟩:=hb
   refine wpAny_truthy_bool ?_
   have e2:bs.getD i false=b:=by rw[List.getD_eq_getElem?_getD,e];rfl
   have hQ':Q' (bs.getD i false) s':=hQ
   rw[e2]at hQ'
   exact hQ'
 . rw[hn,YB]
   refine⟨.bl (bs.all id),H,?_,rfl,q⟩
   exact I.kept (h':=h') (t':=tk) λb o e=>hk b o (by
     intro z
     have z':b=s.heap.objs.size:=by simpa using z
     exact absurd (Heap.lt_size e) (by rw[z'];exact Nat.lt_irrefl _)) (Heap.get?_push_of_some _ e)
theorem Vk {ys:List Str}:∀{us:List Value},qD (ys.map V.str) us->StrsAre us ys:=by
 induction ys with
 | nil=>
   intro us r
   rw[List.map_nil]at r
   cases r
   exact .nil
 | cons y ys ih=>
   intro us r
   rw[List.map_cons]at r
   cases r with
   | cons a b=>
     obtain⟨t,rfl⟩:=a
     exact .cons _ _ (ih b)
def Gb (K:PySem.W.Frag):V->List V->Hp->VK->Prop:=λx xs H Q=>∃(sep:Str) (p:Addr) (ys:List Str),x=.str sep/\xs=[.ref p]/\SqL K H p (ys.map V.str)/\(ys.map (·.length)).sum+ys.length*sep.length<=16777216/\Q (.str (Txt.join sep ys)) H
theorem jG:KL X "str.join" (Gb X.K):=by
 intro pins s σ H x xs v us Q I rx rv h
 obtain⟨sep,p,ys,rfl,rfl,hq,hz,q⟩:=h
 obtain⟨t,rfl⟩:=rx
 obtain⟨u,rfl,ru⟩:=QU rv
 cases ru
 obtain⟨its,r',pl,_⟩:=I.list hq
 exact join_list pl.isList (by simpa using Vk r') hz λt' k=>⟨.str _,H,I.tok k,⟨t',rfl⟩,q⟩
theorem Y3:ZF X (compareOp .LtE) (λx y H Q=>∃i j,x=.str i/\y=.str j/\Q (.bl (!decide (j.cps.toList < i.cps.toList))) H):=by
 intro pins s σ H x y v u Q I rx ry h
 obtain⟨i,j,rfl,rfl,q⟩:=h
 obtain⟨t,rfl⟩:=rx
 obtain⟨t',rfl⟩:=ry
 exact PySem.P.le_str ⟨.bl _,H,I,rfl,q⟩
def wR:V->Value
 | .ty n=>.type n
 | .ref a=>.ref a
 | _=>.none
def uw:V->Bool
 | .ty _=>true
 | .ref _=>true
 | _=>false
def Gd (K:PySem.W.Frag):List V->Hp->VK->Prop:=λxs H Q=>∃x c t b,xs=[x,c]/\uw c=true/\ZD K H x t/\PySem.W.kitOne K t (wR c)=some b/\Q (.bl b) H
theorem ju:Qr X (.builtin "isinstance") (Gd X.K):=by
 intro pins s σ H xs us Q I r h
 obtain⟨x,c,t,b,rfl,hc,ty,e,q⟩:=h
 obtain⟨u,w',rfl,ru,rw'⟩:=VY r
 have ew:w'=wR c:=by
   cases c with
   | ty n=>exact rw'
   | ref a=>exact rw'
   | _=>cases hc
 subst ew
 exact vn I ru ty e λtk=>⟨.bl b,H,I.tok tk,rfl,q⟩
end
end L2
namespace L2
open PySem PySem.Spec PyProof.Rows
end L2
set_option Elab.async false
set_option linter.all false
set_option maxRecDepth 100000
set_option maxHeartbeats 4000000
namespace L2
open PySem PySem.Spec PyProof.Rows
abbrev KP (rest:List Value):Obj:={cls:=.type "tuple",data:=.seq rest.toArray}
abbrev Kt (C t:Addr):Obj:={cls:=.ref C,data:=.fields #[.ref t,.none,.none,.none,.bool false,.none]}
section
variable {prog:Program} {w:World} {A:Around} {E:Value->Shared->Prop} {h:Heap} {g:Array GenState} {d:Drawn} {t:Nat} {os:OsState}
variable {nm q:Str} {C N fI:Addr} {bs bm bmB bmN:List Value} {hdct:Bool} {sn:List Str} {sub:List Value} {ab:Bool} {col:Option Bool} {dd:Option Addr} {k0 k1 k2 k3 k5:Option Value} {B Bn newId nid initId inN:String} {rest:List Value} {oI:Obj}
theorem Ve {Q:Fin->Shared->Prop} (Fn:ExcBaseFacts Bn newId inN bmN) (hBn:bmB.contains (.type Bn)=true)
   (F:ExcBaseFacts B nid initId bmB) (T:OwnTail h bmB bm)
   (hC:h.get? C=some (excClassObj nm q C N bs bm hdct sn sub ab col dd k0 k1 k2 k3 k5 newId))
   (hi:PySem.W.Looks (model prog w) h (typeLookup (.ref C) "__init__") (some (.ref fI))) (hfI:h.get? fI=some oI) (hfc:oI.cls=.type "function")
   (hq:∀h' e,h.objs.size<=e->Heap.MadeExcOf h h' e (.ref C) rest->
     wpAny (model prog w) A (call (.ref fI) (.ref e::rest)) (λr s'=>r=.none/\Q (.done (.ret (.ref e))) s') E ⟨h',g,d,t,os⟩)
   (hz:rest.length<=sizeLine):
   wpAny (model prog w) A (Builtin.«type.__call__» ⟨.ref C::rest,[]⟩) Q E ⟨h,g,d,t,os⟩:=by
 repeat (first
   | with_reducible refine wpAny_loadPart_at hC ?_
   | with_reducible refine wpAny_madeBy_exc hC ?_
   | wp_step)
 refine codeAny_call_builtin_code (Code.quiet_builtin _ Fn.quiet) (wpAny_check_new_subU Fn hBn T hC
   (codeAny_exc_new_subU Fn hBn F T hC ?_ hz))
 show wpAny _ _ _ _ _ _
 have k:∀b o,h.get? b=some o->((h.push (KP rest)).push (Kt C h.objs.size)).get? b=some o:=λb o e=>
   Heap.get?_push_of_some _ (Heap.get?_push_of_some _ e)
 have c1:=k _ _ hC
 have f1:=k _ _ hfI
 have i1:=hi.keeps k
 have e1:((h.push (KP rest)).push (Kt C h.objs.size)).get? (h.objs.size+1)=some (Kt C h.objs.size):=by heap_get
 have hcC:(Value.ref C::bm).contains (.ref C)=true:=by simp
 unfold isInstance
 repeat (first
   | with_reducible refine wpAny_loadPart_at e1 ?_
   | (with_reducible refine wpAny_isSubtype_exc c1 ?_;rw[hcC])
   | wp_step)
 show wpAny _ _ (typeLookup (.ref C) _) _ _ _
 refine i1.at ?_
 refine wpAny_holding (wpAny_bind ?_)
 unfold bindSpecial
 refine wpAny_bind (wpAny_typeOf (T:="function") ⟨_,f1,hfc⟩ ?_)
 rw[if_pos (by decide)]
 refine wpAny_pure (wpAny_bind (jg (hq _ (h.objs.size+1) (Nat.le_succ _) ⟨k,Heap.get?_none_of_le (Nat.le_succ _),h.objs.size,e1,Heap.get?_none_of_le (Nat.le_refl _),?_⟩) λr s' hr=>?_))
 . exact Heap.get?_push_of_some _ (Heap.get?_push_at rfl rfl)
 . obtain⟨rfl,hQ⟩:=hr
   wp_walk
   exact hQ
theorem vJ {Q:Value->Shared->Prop} (Fn:ExcBaseFacts Bn newId inN bmN) (hBn:bmB.contains (.type Bn)=true)
   (F:ExcBaseFacts B nid initId bmB) (T:OwnTail h bmB bm)
   (hC:h.get? C=some (excClassObj nm q C N bs bm hdct sn sub ab col dd k0 k1 k2 k3 k5 newId))
   (hi:PySem.W.Looks (model prog w) h (typeLookup (.ref C) "__init__") (some (.ref fI))) (hfI:h.get? fI=some oI) (hfc:oI.cls=.type "function")
   (hq:∀h' e,h.objs.size<=e->Heap.MadeExcOf h h' e (.ref C) rest->
     wpAny (model prog w) (A.under (.builtin "type.__call__" ⟨.ref C::rest,[]⟩)) (call (.ref fI) (.ref e::rest)) (λr s'=>r=.none/\Q (.ref e) s') E ⟨h',g,d,t,os⟩)
   (hz:rest.length<=sizeLine):
   wpAny (model prog w) A (call (.ref C) rest) Q E ⟨h,g,d,t,os⟩:=by
 have a1:=tc_lookup
 have a2:=tc_bind (.ref C)
 have a3:(⟨h,g,d,t,os⟩:Shared).TypeIs (.ref C) "type":=⟨_,hC,rfl⟩
 refine wpAny_call (codeAny_of_tree ?_)
 show wpAny _ _ (callAny (.ref C) _) _ _ _
 repeat (any_goals (first
   | assumption
   | with_reducible refine wpAny_loadPart_at hC ?_
   | wp_step))
 refine⟨rfl,codeAny_call_builtin_at (Code.quiet_builtin _ (by decide+kernel)) entry_typeCall
   (wpAny_check_type_call_sub hC (Ve Fn hBn F T hC hi hfI hfc (λh' e he hm=>?_) hz))⟩
 exact hq h' e he hm
end
end L2
namespace L2
open PySem PySem.W PyProof.Rows Builtin Builtin.ObjectAttr
structure zO (K:Frag) (C:Addr) (bm:List Value):Prop where
 ga:findIn K (.ref C) "__getattribute__"=some (some (.builtin "BaseException.__getattribute__"))
 gt:findIn K (.ref C) "__getattr__"=some none
 sa:findIn K (.ref C) "__setattr__"=some (some (.builtin "object.__setattr__"))
 hd:hasDictIn K C=true
 mr:∃cd,clsIn K C=some cd/\cd.mro=.ref C::bm
 mb:mroIn K C (.type "BaseException")=some true
 mo:mroIn K C (.type "object")=some true
 cl:findIn K (.ref C) "__class__"=some (some (.builtin "object.__class__"))
def Vw:List Value->Prop
 | .ref _::r=>Vw r
 | l=>l=[.type "ValueError",.type "Exception",.type "BaseException",.type "object"]
theorem Ui (self:Value):∀{l:List Value},Vw l->refuseLoop self "__setattr__" l=pure ()
 | .ref c::r,e=>by rw[refuseLoop_ref];exact Ui self (l:=r) e
 | [],e=>nomatch (show ([]:List Value)=[.type "ValueError",.type "Exception",.type "BaseException",.type "object"] from e)
 | .type n::r,e=>by
   have e':(Value.type n::r)=[.type "ValueError",.type "Exception",.type "BaseException",.type "object"]:=e
   rw[e'];kernel_rfl
 | .none::r,e=>by have e':(Value.none::r)=[.type "ValueError",.type "Exception",.type "BaseException",.type "object"]:=e;cases e'
 | .bool _::r,e=>by have e':_=[Value.type "ValueError",.type "Exception",.type "BaseException",.type "object"]:=e;cases e'
 | .int _ _::r,e=>by have e':_=[Value.type "ValueError",.type "Exception",.type "BaseException",.type "object"]:=e;cases e'
 | .float _ _::r,e=>by have e':_=[Value.type "ValueError",.type "Exception",.type "BaseException",.type "object"]:=e;cases e'
 | .str _ _::r,e=>by have e':_=[Value.type "ValueError",.type "Exception",.type "BaseException",.type "object"]:=e;cases e'
 | .bytes _ _::r,e=>by have e':_=[Value.type "ValueError",.type "Exception",.type "BaseException",.type "object"]:=e;cases e'
 | .builtin _::r,e=>by have e':_=[Value.type "ValueError",.type "Exception",.type "BaseException",.type "object"]:=e;cases e'
section
variable {prog:Program} {w:World} {A:Around} {E:Value->Shared->Prop} {s:Shared} {K:Frag} {x C:Addr} {ox:Obj} {od:Option Obj} {bm:List Value} {name:Str} {v:Value}
theorem wb {tk:Tok} {R:Result->Shared->Prop} (X:K.In s.heap) (I:InstAt s.heap x ox C od) (c:zO K C bm) (hb:Vw bm) (ht:findIn K (.ref C) name=some none)
   (h:∀b,wpAny (model prog w) A.in1 (storeInOwnDict (.ref x) (.ref C) (.str name tk) name v b)
     (λfin s'=>match fin with | .done f=>R (.ok f) s' | .again c'=>c'.quiet=true/\codeAny (model prog w) A c' R s') (λe s'=>R (.error e) s') s):
   codeAny (model prog w) A (.call (.builtin "object.__setattr__") ⟨[.ref x,.str name tk,v],[]⟩) R s:=by
 have SF:=PySem.F.store_object
 obtain⟨cd,hc,hm⟩:=c.mr
 have sub:Looks (model prog w) s.heap (isInstance (.ref x) (.type "object")) true:=I.type.andThen (looks_mroIn X c.mo)
 refine codeAny_call_builtin SF.slot.plain SF.entry
   (@check_slot (model prog w) _ _ s "object.__setattr__" "object" "__setattr__" (.ref x) [.str name tk,v] [] _ SF.kind SF.split sub (SF.args (.ref x) (.str name tk) v) ?_)
 have lm:Looks (model prog w) s.heap (mroOf (.ref C)) cd.mro:=(looks_clsIn X hc).andThen .now
 rw[osa_eq,refuse_eq]
 refine wpAny_bind (wpAny_bind (I.type.here (wpAny_bind (lm.here ?_))))
 rw[hm,refuseLoop_ref,Ui _ hb]
 refine wpAny_pure (wpAny_bind (I.type.here (wpAny_bind ((looks_findIn X ht).here ?_))))
 exact wpAny_bind (wpAny_pure (h _))
theorem kA {Q:Unit->Shared->Prop} (X:K.In s.heap) (hx:s.heap.get? x=some ox) (hc:ox.cls=.ref C) (hdc:ox.dict=none) (hda:∃fl,ox.data=.fields fl) (c:zO K C bm) (hb:Vw bm) (ht:findIn K (.ref C) name=some none)
   (h:∀h' tk,h'.get? x=some {ox with dict:=some s.heap.objs.size}->h'.Ns1 s.heap.objs.size (λy=>if y=name then some v else none)->
     (∀b o,b≠x->s.heap.get? b=some o->h'.get? b=some o)->Q () {s with heap:=h',toks:=tk}):
   wpAny (model prog w) A (setAttr (.ref x) name v) Q E s:=by
 obtain⟨fl,hfl⟩:=hda
 obtain⟨oc,odi,oda,osl⟩:=ox
 dsimp only at hc hdc hfl
 subst hc hdc hfl
 have I:InstAt s.heap x ⟨.ref C,none,.fields fl,osl⟩ C none:=⟨hx,rfl,rfl,trivial⟩
 refine set_plain X I c.sa (wb (s:={s with toks:=s.toks+1}) X I c hb ht λb=>?_)
 obtain⟨cd,hcd,hdd⟩:=any_some c.hd
 refine wpAny_bind (wpAny_pure (wpAny_bind (wpAny_bind (wpAny_loadPart hx (wpAny_bind (Looks.here (s:={s with toks:=s.toks+1}) (looks_clsIn X hcd) ?_))))))
 rw[hdd]
 have hne:x≠s.heap.objs.size:=Nat.ne_of_lt (Heap.lt_size hx)
 have h1:=Heap.get?_push_of_some PySem.W.emptyDict hx
 refine wpAny_bind (wpAny_alloc (wpAny_bind (wpAny_update h1 ?_)))
 generalize hh2:(s.heap.push emptyDict).update x (λo=>{o with dict:=some s.heap.objs.size})=h2
 have e2:h2.get? x=some ⟨.ref C,some s.heap.objs.size,.fields fl,osl⟩:=by rw[<-hh2];exact Heap.get?_update_self _ h1 rfl
 have k2:∀b o,b≠x->(s.heap.push emptyDict).get? b=some o->h2.get? b=some o:=λb o hb e=>by rw[<-hh2,Heap.get?_update_other _ _ (Ne.symm hb)];exact e
 have n0:(s.heap.push emptyDict).Ns s.heap.objs.size (λ_=>none):=⟨emptyDict,#[],_,Heap.get?_push_size s.heap rfl,rfl,(λe he=>absurd he (by simp)),λ_=>rfl⟩
 have n2:h2.Ns1 s.heap.objs.size (λ_=>none):=(Heap.Ns1.of_empty n0).at λo q=>k2 _ o (Ne.symm hne) q
 refine wpAny_pure (a:=some s.heap.objs.size) (wpAny_bind (wpAny_pure (wpAny_bind ?_)))
 refine wpAny_nsSet1 (s:={s with heap:=h2,toks:=s.toks+1}) n2 λh' hn2 hs2=>?_
 obtain⟨oD,esD,epD,hoD,hdD,hcD⟩:=hn2.count (PySem.Within.cons name v PySem.Within.nil)
 refine wpAny_bind (wpAny_lookBehind hoD (by rw[hdD];exact pastItsLine_dict (Nat.le_trans hcD (by show 1<=sizeLine+1;decide))) ?_)
 refine wpAny_pure (h h' (s.toks+1+1) ((hs2.2 x hne).trans e2) hn2 λb o hb e=>?_)
 exact(hs2.2 b (Nat.ne_of_lt (Heap.lt_size e))).trans (k2 b o hb (Heap.get?_push_of_some _ e))
theorem UB {fill expr:Bool} {tk:Tok} {Q:Value->Shared->Prop} (X:K.In s.heap) (I:InstAt s.heap x ox C od) (c:zO K C bm)
   (h:wpAny (model prog w) A.in1 (Builtin.«object.__getattribute__» ⟨[.ref x,.str name tk],[]⟩) (λfin s'=>match fin with | .done (.ret u)=>handedIn u=true/\Q u s' | _=>False) (λ_ _=>False) s):
   wpAny (model prog w) A (getAttrBy (.ref x) (.str name tk) fill expr) Q E s:=by
 have ga:=PySem.F.attr_ValueError.ga
 have L1:=looks_findIn (M:=model prog w) X c.ga
 have L2:=looks_findIn (M:=model prog w) X c.gt
 have hk:builtinKind "BaseException.__getattribute__"=some .slot:=by decide+kernel
 have hs:splitId "BaseException.__getattribute__"=some ("BaseException","__getattribute__"):=by decide+kernel
 have sub:Looks (model prog w) s.heap (isInstance (.ref x) (.type "BaseException")) true:=I.type.andThen (looks_mroIn X c.mb)
 unfold getAttrBy
 refine wpAny_holding (wpAny_bind (I.type.here (wpAny_bind (L1.here ?_))))
 dsimp only
 have eb:(Value.builtin "BaseException.__getattribute__"==Value.builtin "object.__getattribute__")=false:=by decide+kernel
 rw[if_neg (by rw[eb,Bool.and_false];decide)]
 unfold getAttrByItsOwn
 refine wpAny_bind (show wpAny _ _ (hookBefore (.ref C)) _ _ _ from L2.here ?_)
 refine wpAny_bind (wpAny_attempt (wpAny_holding ?_))
 unfold callGetattribute
 have e0:(expr&&onTheHeap (Value.builtin "BaseException.__getattribute__"))=false:=by cases expr<;>rfl
 rw[if_neg (by rw[e0];decide)]
 unfold boundAndCalled
 rw[ga.bind]
 refine wpAny_bind (wpAny_pure ?_)
 refine wpAny_call (codeAny_call_builtin ga.plain PySem.F.entry_bexc_ga
   (@check_slot (model prog w) _ _ s "BaseException.__getattribute__" "BaseException" "__getattribute__" (.ref x) [.str name tk] [] _ hk hs sub (PySem.F.args_bexc_ga _ _) ?_))
 refine wpAny_mono h (λfin s' z=>?_) λ_ _ z=>z.elim
 cases fin with
 | again c'=>exact z.elim
 | done f=>
   cases f with
   | next=>exact z.elim
   | brk=>exact z.elim
   | cont=>exact z.elim
   | ret u=>
     obtain⟨hh,q⟩:=z
     show wpAny _ _ (handedOut u) _ _ _
     rw[handedOut_of hh]
     exact wpAny_pure q
theorem wO {expr:Bool} {Q:Value->Shared->Prop} {odd:Obj} (X:K.In s.heap) (I:InstAt s.heap x ox C (some odd)) (c:zO K C bm) (ha:findIn K (.ref C) name=some none) (hl:lookIn name odd=some (some v)) (hv:handedIn v=true)
   (h:Q v {s with toks:=s.toks+1}):wpAny (model prog w) A (getAttr (.ref x) name expr) Q E s:=by
 have hf:findObj K C (some odd) name=some (.value v):=findObj_own c.hd ha rfl hl
 have LF:=looks_find (M:=model prog w) X I hf
 unfold getAttr
 refine wpAny_bind (wpAny_mkText (UB (s:={s with toks:=s.toks+1}) X I c ?_))
 unfold Builtin.«object.__getattribute__»
 refine wpAny_bind (wpAny_pure (wpAny_bind (wpAny_pure (wpAny_bind (Looks.here (s:={s with toks:=s.toks+1}) I.type (wpAny_bind (Looks.here (s:={s with toks:=s.toks+1}) LF ?_)))))))
 exact wpAny_pure ⟨hv,h⟩
end
end L2
namespace L2
open PySem PySem.W PyProof.Rows Builtin Builtin.ObjectAttr
section
variable {K:Frag} {x C:Addr} {ox odd:Obj} {bm:List Value}
theorem yB (c:zO K C bm) (hn:specialIn K (.builtin "object.__class__") "__get__"=some (some (.builtin "getset_descriptor.__get__"))) (htk:takesIn K (.builtin "object.__class__")=some true):
   KitX K (.ref x) (.ref C) (λh=>InstAt h x ox C (some odd)) where
 ty:=λ_ _ _ I=>I.type
 it:=λ_ _ X _=>by
   obtain⟨cd,hcd,_⟩:=any_some c.hd
   unfold clsIn at hcd
   split at hcd
   . rename_i _ _ _ _ ho
     intro A' Q' E' s' k q
     unfold isType loadHead
     exact wpAny_bind (wpAny_loadPart (k _ _ (X _ _ ho)) (wpAny_pure q))
   . cases hcd
 ne:=λh tp dd its n sl X htp=>by
   obtain⟨cd,hcd,_⟩:=any_some c.hd
   refine Bool.eq_false_iff.mpr λq=>?_
   have e:C=tp:=Value.ref.inj (beq_iff_eq.mp q)
   subst e
   unfold clsIn at hcd
   split at hcd
   . rename_i _ _ _ _ ho
     have z:=(X _ _ ho).symm.trans htp
     cases z
   . cases hcd
 ca:=λ{prog w A E Q s} X I k=>by
   have hf:findObj K C (some odd) "__class__"=some (.bind (.builtin "getset_descriptor.__get__") (.builtin "object.__class__")):=
     findObj_data (by obtain⟨cd,hc,_⟩:=any_some c.hd;rw[hc];rfl) c.cl hn htk
   have LF:=looks_find (M:=model prog w) X I hf
   unfold getAttr? getAttrBy?
   refine wpAny_bind (wpAny_mkText (wpAny_bind (wpAny_attempt (UB (s:={s with toks:=s.toks+1}) X I c ?_))))
   unfold Builtin.«object.__getattribute__»
   refine wpAny_bind (wpAny_pure (wpAny_bind (wpAny_pure (wpAny_bind (Looks.here (s:={s with toks:=s.toks+1}) I.type (wpAny_bind (Looks.here (s:={s with toks:=s.toks+1}) LF ?_)))))))
   dsimp only
   unfold bindTo
   dsimp only
   refine wpAny_bind (wpAny_holding (wpAny_call (class_get (s:={s with toks:=s.toks+1}) X I c.mo ?_)))
   exact wpAny_pure ⟨rfl,wpAny_pure k⟩
end
end L2
set_option Elab.async false
set_option linter.all false
set_option maxRecDepth 100000
set_option maxHeartbeats 4000000
namespace L2
open PySem PySem.Spec PyProof.Rows
def Za (e C:Addr):HO:=.ext λh=>∃fl,h.get? e=some {cls:=.ref C,data:=.fields fl}/\fl[1]?=some Value.none
def jU (e C dx:Addr) (hd:Value):HO:=.ext λh=>∃fl,h.get? e=some {cls:=.ref C,dict:=some dx,data:=.fields fl}/\fl[1]?=some hd
abbrev QO (e C dx:Addr):HO:=jU e C dx .none
def qR:List Value:=[.type "ValueError",.type "Exception",.type "BaseException",.type "object"]
structure G6 (K:PySem.W.Frag) (C f:Addr) (bm:List Value):Prop where
 obj:∃nm q N bs hdct sn sub ab col dd k0 k1 k2 k3 k5,K.lookup C=some (excClassObj nm q C N bs bm hdct sn sub ab col dd k0 k1 k2 k3 k5 "ValueError.__new__")
 tail:∀h:Heap,K.In h->OwnTail h qR bm
 init:PySem.W.findIn K (.ref C) "__init__"=some (some (.ref f))
 fn:PySem.W.isFn K (.ref f)=true
 kp:PySem.W.keepIn K (.ref C)=true
section
variable {P:Program} {w:World} {H:Hp} {h h':Heap} {e C dx:Addr}
theorem wQ (he:∃fl,h.get? e=some {cls:=.ref C,data:=.fields fl}/\fl[1]?=some Value.none):qI P w H h e (Za e C):=by
 obtain⟨fl,q,z⟩:=he
 exact⟨⟨fl,q,z⟩,⟨_,q⟩,λh1 h2 ⟨fl',q',z'⟩ k=>⟨fl',k _ q',z'⟩⟩
theorem Zi {hd:Value} (he:∃fl,h.get? e=some {cls:=.ref C,dict:=some dx,data:=.fields fl}/\fl[1]?=some hd):qI P w H h e (jU e C dx hd):=by
 obtain⟨fl,q,z⟩:=he
 exact⟨⟨fl,q,z⟩,⟨_,q⟩,λh1 h2 ⟨fl',q',z'⟩ k=>⟨fl',k _ q',z'⟩⟩
end
section
variable {X:Cx} {pins:List (Addr×Obj)} {σ:St} {H:Hp} {s:Shared} {e C dx:Addr} {f:Str} {bm:List Value} {y v:V} {u:Value} {A:Around} {E:Value->Shared->Prop}
theorem qx.excSet {h':Heap} {t':Nat} {fs:List (Str×V)} (I:qx X pins σ H s) (hH:H e=some (Za e C)) (hd:s.heap.objs.size<=dx)
   (h1:∃fl,h'.get? e=some {cls:=.ref C,dict:=some dx,data:=.fields fl}/\fl[1]?=some Value.none) (h2:∃mA,h'.Ns1 dx mA/\∀f,JF (fs.lookup f) (mA f))
   (k:∀b o,b≠e->s.heap.get? b=some o->h'.get? b=some o):qx X pins σ (upd (upd H e (QO e C dx)) dx (.xd fs)) {s with heap:=h',toks:=t'}:=by
 have mu:KI (H e):=by rw[hH];exact trivial
 have heo:∃u,h'.get? e=some u:=let ⟨_,q,_⟩:=h1;⟨_,q⟩
 have hn:H dx=none:=I.hok.fresh hd
 have ne:dx≠e:=λz=>by rw[z,hH]at hn;cases hn
 have U:Un X.fs [] H (upd H e (QO e C dx)) s.heap h':=Un.write mu (.inl rfl) k heo
 have W:JJ X.prog X.w (upd H e (QO e C dx)) h':=I.hok.write mu (.inl rfl) k heo (Zi h1)
 have hn2:(upd H e (QO e C dx)) dx=none:=by rw[qg ne];exact hn
 have nb:∀b o,s.heap.get? b=some o->b≠dx:=λb o q=>Nat.ne_of_lt (Nat.lt_of_lt_of_le (Heap.lt_size q) hd)
 refine I.un ⟨U.keep,U.slot,λb o q n hx=>?_,U.there,λb xs q=>?_,λb o z q=>?_,λb ps q=>?_⟩ λb o q=>?_
 . rw[qg (nb b o q)];exact U.free b o q n hx
 . have:=U.tups b xs q
   rw[qg (qt this hn2)];exact this
 . have:=U.frzs b o z q
   rw[qg (qt this hn2)];exact this
 . obtain⟨m,q'⟩:=U.tbls b ps q
   exact⟨m,by rw[qg (qt q' hn2)];exact q'⟩
 . by_cases hb:b=dx
   . subst hb
     rw[qd]at q
     cases q
     exact h2
   . rw[qg hb]at q
     exact(W b o q).stay (λ_ _ _ z=>z) (λc z=>by rw[qg (qt z hn2)];exact z) (λc xs z=>by rw[qg (qt z hn2)];exact z) (λc o z=>by rw[qg (qt z hn2)];exact z)
theorem UX {Q:Unit->Shared->Prop} (I:qx X pins σ H s) (hH:H e=some (Za e C)) (c:zO X.K C bm) (hb:Vw bm) (n:Qi X.K C f) (ry:qN y u)
   (h:∀dx s',H dx=none->qx X pins σ (upd (upd H e (QO e C dx)) dx (.xd [(f,y)])) s'->Q () s'):wpAny (model X.prog X.w) A (setAttr (.ref e) f u) Q E s:=by
 obtain⟨⟨fl,he,hz⟩,_,_⟩:=(show qI X.prog X.w H s.heap e (Za e C) from I.hok e _ hH)
 refine kA I.kIn he rfl rfl ⟨fl,rfl⟩ c hb n λh' tk e1 e2 e3=>?_
 refine h s.heap.objs.size _ (I.hok.fresh (Nat.le_refl _)) (I.excSet hH (Nat.le_refl _) ⟨fl,e1,hz⟩ ⟨_,e2,λg=>?_⟩ e3)
 by_cases hg:g=f
 . subst hg
   rw[List.lookup_cons]
   simp only[beq_self_eq_true,if_true]
   exact ry
 . have hb':(g==f)=false:=beq_eq_false_iff_ne.mpr hg
   rw[List.lookup_cons]
   simp only[hb',hg,if_false]
   exact trivial
theorem vy {b:Bool} {Q:Value->Shared->Prop} {fs:List (Str×V)} {hd:Value} (I:qx X pins σ H s) (hH:H e=some (jU e C dx hd)) (hx:H dx=some (.xd fs)) (c:zO X.K C bm) (n:Qi X.K C f) (l:fs.lookup f=some v)
   (h:∀u s',qx X pins σ H s'->qN v u->Q u s'):wpAny (model X.prog X.w) A (getAttr (.ref e) f b) Q E s:=by
 obtain⟨⟨fl,he,_⟩,_,_⟩:=(show qI X.prog X.w H s.heap e (jU e C dx hd) from I.hok e _ hH)
 obtain⟨mA,hn,hr⟩:=(show qI X.prog X.w H s.heap dx (.xd fs) from I.hok dx _ hx)
 obtain⟨od,ho,hl⟩:=zk hn
 have r:=hr f
 rw[l]at r
 obtain⟨u,eu,ru⟩:=JF.some_of r
 exact wO I.kIn ⟨he,rfl,rfl,ho⟩ c n (by rw[hl,eu]) (Xd ru) (h u _ (I.tok _) ru)
theorem yR {cV:Value} {b:Bool} {Q:Value->Shared->Prop} {fs:List (Str×V)} {hd:Value} (I:qx X pins σ H s) (hH:H e=some (jU e C dx hd)) (hx:H dx=some (.xd fs)) (c:zO X.K C bm)
   (hn:PySem.W.specialIn X.K (.builtin "object.__class__") "__get__"=some (some (.builtin "getset_descriptor.__get__"))) (htk:PySem.W.takesIn X.K (.builtin "object.__class__")=some true)
   (ek:PySem.W.kitOne X.K (.ref C) cV=some b) (h:∀tk,Q (.bool b) {s with toks:=tk}):wpAny (model X.prog X.w) A (call (.builtin "isinstance") [.ref e,cV]) Q E s:=by
 obtain⟨⟨fl,he,_⟩,_,_⟩:=(show qI X.prog X.w H s.heap e (jU e C dx hd) from I.hok e _ hH)
 obtain⟨mA,hns,hr⟩:=(show qI X.prog X.w H s.heap dx (.xd fs) from I.hok dx _ hx)
 obtain⟨od,ho,hl⟩:=zk hns
 exact PySem.W.kia_one (yB (ox:={cls:=.ref C,dict:=some dx,data:=.fields fl}) (odd:=od) c hn htk) I.kIn ⟨he,rfl,rfl,ho⟩ ek (λz=>nomatch z) h
end
end L2
namespace L2
open PySem PySem.Spec PyProof.Rows
def RC (K:PySem.W.Frag) (bm:List Value) (ta tv:TE) (f:Str):TS:=λD σ H=>tv σ H λy H1=>ta σ H1 λx H2=>∃a C,x=.ref a/\H2 a=some (Za a C)/\zO K C bm/\Vw bm/\Qi K C f/\
 ∀dx,H2 dx=none->D.nx σ (upd (upd H2 a (QO a C dx)) dx (.xd [(f,y)]))
section
variable {X:Cx} {CX:YL} {k:Nat} {C fI:Addr} {fd:FuncData} {ps:List Str} {sp:Sp} {E:XK} {x f:Str} {o e value:Expr} {es:List Expr} {p pos pos':Pos} {ta tv:TE} {t:TA} {bm:List Value}
theorem Yr (ha:JE X o ta) (hv:JE X value tv) (hs:swapsWith value (some (.Attribute o f pos')) pos.line X.env=pure false):JS X (.Assign [.Attribute o f pos'] value pos) (RC X.K bm ta tv f):=.of (by
 have ha:=ha.to
 have hv:=hv.to
 intro pins s σ H D I h
 refine plainObj_wpAny_Assign_Attribute (jg (hv pins s σ H _ I h) λu s1 ⟨y,H1,I1,ry,q⟩=>
   jg (ha pins s1 σ H1 _ I1 q) λov s2 ⟨x,H2,I2,rx,a,C,ex,ea,c,hb,n,q2⟩=>?_) hs
 subst ex
 obtain rfl:ov=Value.ref a:=rx
 exact UX I2 ea c hb n ry λdx s3 hdx I3=>⟨σ,_,I3,q2 dx hdx⟩)
theorem U3 {pins:List (Addr×Obj)} {σ:St} {H:Hp} {s:Shared} {Q:VK} {us:List Value} {vs:List V} (M:G6 X.K C fI bm) (F:qv X.prog X.w X.K X.mg X.base CX k fI fd ps sp) (hr:qZ (k+1) X.A) (hb:jX X.K fd ps [])
   (hx:Qh CX X E) (I:qx X pins σ H s) (r:qD vs us) (hz:us.length<=sizeLine)
   (h:∀x,H x=none->sp (.ref x::vs) (upd H x (Za x C)) (λv H2=>v=.non/\Q (.ref x) H2) E):
   wpAny (model X.prog X.w) X.A (call (.ref C) us) (EP X pins σ Q) X.xe s:=by
 obtain⟨nm,q,N,bs,hdct,sn,sub,ab,col,dd,k0,k1,k2,k3,k5,hC⟩:=M.obj
 have hfn:PySem.W.typeIn X.K (.ref fI)=some (.type "function"):=beq_iff_eq.mp M.fn
 obtain⟨oI,ho,hoc⟩:=Option.map_eq_some_iff.mp hfn
 have KX:=I.kIn
 obtain⟨hp,g,d,tk,os⟩:=s
 refine vJ PySem.F.excBase_ValueError (by decide+kernel) PySem.F.excBase_ValueError (M.tail _ KX) (KX _ _ hC) (PySem.W.looks_findIn KX M.init) (KX _ _ ho) hoc (λh' ex hle hm=>?_) hz
 obtain⟨t0,ht,_,_⟩:=hm.there
 have I2:qx X pins σ (upd H ex (Za ex C)) ⟨h',g,d,tk,os⟩:=I.laid (t':=tk) hm.keeps hle (wQ ⟨_,ht,rfl⟩)
 have hq:=h ex (I.hok.fresh hle)
 have r2:qD (V.ref ex::vs) (Value.ref ex::us):=.cons rfl r
 have hl:(Value.ref ex::us++[]).length=ps.length:=by
   have e:=r2.length
   rw[F.len _ _ _ _ hq]at e
   rw[List.append_nil]
   exact e.symm
 have bb:=hb ⟨h',g,d,tk,os⟩ (Value.ref ex::us) I2.kIn hl
 rw[List.append_nil]at bb
 refine wpAny_call (codeAny_mono (F.run _ X.stack _ _ ⟨Value.ref ex::us,[]⟩ (Value.ref ex::us) _ _ E (hr.make C us []) (I2.env0.make C us []) bb r2 hq) λr s' hq'=>?_)
 cases r with
 | error z=>exact hx pins σ _ _ z s' I2 hq'
 | ok fl=>
   cases fl with
   | ret u=>
     obtain⟨v,H',I3,rv,ev,q3⟩:=I2.after hq'
     subst ev
     exact⟨rv,⟨V.ref ex,H',I3,rfl,q3⟩⟩
   | next=>exact False.elim hq'
   | brk=>exact False.elim hq'
   | cont=>exact False.elim hq'
theorem Qb (M:G6 X.K C fI bm) (F:qv X.prog X.w X.K X.mg X.base CX k fI fd ps sp) (hr:qZ (k+1) X.A) (hg:Gl X x) (hm:X.mg x=some (.ref C)) (hb:jX X.K fd ps []) (hx:Qh CX X E) (ha:JA X (e::es) t) (hz:(e::es).length<=1000:=by decide) (hv:∀vs us,qD vs us->vs.length<=sizeLine->us.length<=sizeLine:=by intro vs us r h;rw[<-r.length];exact h) (hdb:(x==("__debug__":Str))=false:=by decide) (he:starEach (e::es) X.env=(false,eval e X.env)::starEach es X.env:=by rfl) (hpl:(backTo pos (starEach es X.env)).any (·.1)=false:=by rfl):JE X (.Call (.Name x p) (e::es) [] pos) (λσ H Q=>t σ H λvs H1=>vs.length<=sizeLine/\∀x,H1 x=none->sp (.ref x::vs) (upd H1 x (Za x C)) (λv H2=>v=.non/\Q (.ref x) H2) E):=.of (by
 have ha:=ha.to
 intro pins s σ H Q I h
 refine wpAny_Call_Name_kw (Ze I hg hm ?_ hdb)
 refine PySem.W.callWith_K (h₀:=X.base) I.ok.mod.kin M.kp (jg (ha pos pins s σ H _ I h) λus s1 ⟨vs,H1,I1,r,q⟩=>⟨I1.kIn,?_⟩) he hpl
 exact U3 M F hr hb hx I1 r (hv vs us r q.1) q.2)
end
end L2
set_option Elab.async false
set_option linter.all false
set_option maxRecDepth 100000
set_option maxHeartbeats 4000000
namespace L2
open PySem PySem.Spec PyProof.Rows
def neL (xs ys:List V):Bool:=if xs.length=ys.length then !((List.range xs.length).all λj=>vM (xs.getD j .non) (ys.getD j .non)) else true
def RG (K:PySem.W.Frag):R2:=λx y H Q=>∃a b xs ys,x=.ref a/\y=.ref b/\SqL K H a xs/\SqL K H b ys/\xs.all J9=true/\ys.all J9=true/\Q (.bl (neL xs ys)) H
theorem u8 {X:Cx} (hu:X.A.units < cLine):ZF X (compareOp .NotEq) (RG X.K):=by
 intro pins s σ H x y v u Q I rx ry h
 obtain⟨a,b,xs,ys,rfl,rfl,ha,hb,fx,fy,q⟩:=h
 cases rx
 cases ry
 obtain⟨its,rv,pl,_⟩:=I.list ha
 obtain⟨its2,rv2,pl2,_⟩:=I.list hb
 have l1:=rv.length
 have l2:=rv2.length
 by_cases hz:xs.length=ys.length
 . have e:neL xs ys= !((List.range its.toArray.size).all λj=>vM (xs.getD j .non) (ys.getD j .non)):=by
     unfold neL
     rw[if_pos hz,l1]
     simp
   rw[e]at q
   refine EqBoolInt.of_rcne (SeqAt.RcNeAt.lists (e:=λj=>vM (xs.getD j .non) (ys.getD j .non)) pl.isList pl2.isList (by simp;omega) hu λj h1 h2=>?_) ⟨.bl _,H,I,rfl,q⟩
   have j1:j < xs.length:=by simp at h1;omega
   have j2:j < ys.length:=by omega
   obtain⟨w1,hw1,r1⟩:=rv.get (List.getElem?_eq_getElem j1)
   obtain⟨w2,hw2,r2⟩:=rv2.get (List.getElem?_eq_getElem j2)
   have e1:xs.getD j .non=xs[j]:=by rw[List.getD_eq_getElem?_getD,List.getElem?_eq_getElem j1];rfl
   have e2:ys.getD j .non=ys[j]:=by rw[List.getD_eq_getElem?_getD,List.getElem?_eq_getElem j2];rfl
   have g1:its.toArray[j]=w1:=by
     have:its.toArray[j]?=some w1:=by simpa using hw1
     rw[Array.getElem?_eq_getElem h1]at this
     exact Option.some.inj this
   have g2:its2.toArray[j]=w2:=by
     have:its2.toArray[j]?=some w2:=by simpa using hw2
     rw[Array.getElem?_eq_getElem h2]at this
     exact Option.some.inj this
   rw[e1,e2,g1,g2]
   exact xi r1 r2 (List.all_eq_true.mp fx _ (List.getElem_mem j1)) (List.all_eq_true.mp fy _ (List.getElem_mem j2))
 . have e:neL xs ys=true:=by unfold neL;rw[if_neg hz]
   rw[e]at q
   exact EqBoolInt.of_rcne (SeqAt.RcNeAt.lists_lengths pl.isList pl2.isList (by simp;omega) hu) ⟨.bl true,H,I,rfl,q⟩
mutual
inductive DV (K:PySem.W.Frag) (H:Hp):V->PyData->Prop
 | non:DV K H .non .none
 | bl (b:Bool):DV K H (.bl b) (.bool b)
 | int (i:Int):DV K H (.int i) (.int i)
 | str (x:Str):DV K H (.str x) (.str x)
 | lst {a:Addr} {xs:List V} {ds:List PyData}:SqL K H a xs->DVs K H xs ds->DV K H (.ref a) (.list ds)
 | tup {a:Addr} {xs:List V} {ds:List PyData}:SqT K H a xs->DVs K H xs ds->DV K H (.ref a) (.tuple ds)
inductive DVs (K:PySem.W.Frag) (H:Hp):List V->List PyData->Prop
 | nil:DVs K H [] []
 | cons {x:V} {xs:List V} {d:PyData} {ds:List PyData}:DV K H x d->DVs K H xs ds->DVs K H (x::xs) (d::ds)
end
section
variable {X:Cx} {pins:List (Addr×Obj)} {σ:St} {H:Hp} {s:Shared}
mutual
theorem DV.reads (I:qx X pins σ H s):∀{x:V} {d:PyData},DV X.K H x d->∀{u:Value},qN x u->∃as,Reads s.heap u d as
 | _,_,.non,u,r=>by cases (show u=Value.none from r);exact⟨_,.none⟩
 | _,_,.bl b,u,r=>by cases (show u=Value.bool b from r);exact⟨_,.bool b⟩
 | _,_,.int i,u,r=>by obtain⟨t,q⟩:=(show ∃t,u=Value.int i t from r);subst q;exact⟨_,.int i t⟩
 | _,_,.str x,u,r=>by obtain⟨t,q⟩:=(show ∃t,u=Value.str x t from r);subst q;exact⟨_,.str x t⟩
 | _,_,.lst (a:=a) hq hs,u,r=>by
   cases (show u=Value.ref a from r)
   obtain⟨its,rv,⟨o,n,e,hc,hd,hda⟩,hz⟩:=I.list hq
   obtain⟨as,ra⟩:=DVs.reads I hs rv
   exact⟨_,.list e hc hda (by simpa using ra)⟩
 | _,_,.tup (a:=a) hq hs,u,r=>by
   cases (show u=Value.ref a from r)
   obtain⟨its,rv,⟨o,e,hc,n,hda⟩,hz⟩:=I.tuple hq
   obtain⟨as,ra⟩:=DVs.reads I hs rv
   exact⟨_,.tuple e hc hda (by simpa using ra)⟩
theorem DVs.reads (I:qx X pins σ H s):∀{xs:List V} {ds:List PyData},DVs X.K H xs ds->∀{us:List Value},qD xs us->∃as,ReadsAll s.heap us ds as
 | _,_,.nil,_,.nil=>⟨_,.nil⟩
 | _,_,.cons h hs,_,.cons r rs=>by
   obtain⟨as,a⟩:=DV.reads I h r
   obtain⟨bs,b⟩:=DVs.reads I hs rs
   exact⟨_,.cons a b⟩
end
end
def kY (K:PySem.W.Frag):List V->Hp->VK->Prop:=λxs H Q=>∃a d,xs=[.ref a]/\DV K H (.ref a) d/\d.showable=true/\d.hasDict=false/\d.depth<=60/\d.shown.length<=sizeLine/\Q (.str d.shown) H
theorem QF {X:Cx} (hg:X.A.guards=some []) (hu:X.A.units+64 < cLine):Qr X (.builtin "repr") (kY X.K):=by
 intro pins s σ H xs us Q I r h
 obtain⟨a,d,rfl,hd,h1,h2,h3,h4,q⟩:=h
 obtain⟨u,rfl,ru⟩:=QU r
 cases ru
 obtain⟨as,ra⟩:=hd.reads I (u:=.ref a) rfl
 exact repr_of_reads' ra h1 (λz=>by rw[h2]at z;cases z) hg (by omega) (λ_ _ e=>e) (λh' t tk k=>⟨.str d.shown,H,I.kept (t':=tk) k,⟨t,rfl⟩,q⟩) h4
end L2
namespace L2
open PySem PySem.Spec PyProof.Rows
end L2
set_option Elab.async false
set_option linter.all false
set_option maxRecDepth 100000
set_option maxHeartbeats 4000000
namespace L2
open PySem PySem.Spec PyProof.Rows
section
variable {X:Cx}
def G8 (i j:Int):Prop:=0 < j/\j.natAbs < 2^200
theorem yg:ZF X (binaryOp .FloorDiv) (rI G8 λi j=>.int (i / j)):=Gj λi j _ _ _ _ _ hc q=>by
 have h1:(0:Int) < j:=hc.1
 have h3:j.natAbs.log2 < 200:=(Nat.log2_lt (by omega)).mpr hc.2
 exact floordiv_int (by omega) (by rw[Int.fdiv_eq_ediv_of_nonneg i (by omega)];exact q) (.inl (PyProof.noPylong_of_log2 (Nat.lt_trans h3 (by decide))))
end
section
variable {X:Cx} {tg:Expr}
end
section
variable {X:Cx} {st:Stmt} {rest:List Stmt} {t u:TS}
end
end L2
set_option Elab.async false
set_option linter.all false
set_option maxRecDepth 100000
set_option maxHeartbeats 4000000
namespace PySem
section
variable {prog:Program} {w:World} {A:Around} {E:Value->Shared->Prop} {s:Shared}
def Yd (x n c:Int):Obj:={cls:=.type "range_iterator",data:=.fields #[rawInt x,rawInt n,rawInt c]}
theorem Ug (n:Nat):Builtin.Range.rangeSize 0 n 1=n:=by
 unfold Builtin.Range.rangeSize
 rw[if_pos (by decide)]
 split<;>omega
theorem YA {r:Addr} {a b c:Int} {t u v:Tok} {Q:Value->Shared->Prop} (hr:IsRange s.heap r a b c t u v)
   (hs:(Builtin.Range.rangeFitsLong a&&Builtin.Range.rangeFitsLong b&&Builtin.Range.rangeFitsLong c&&Builtin.Range.rangeFitsLong (-c)&&Builtin.Range.rangeFitsLong (a - c)&&Builtin.Range.rangeFitsLong (Builtin.Range.rangeSize a b c))=true)
   (h:Q (.ref s.heap.objs.size) {s with heap:=s.heap.push (Yd (a+(Builtin.Range.rangeSize a b c - 1)*c) (Builtin.Range.rangeSize a b c) (-c))}):wpAny (model prog w) A (call (.builtin "range.__reversed__") [.ref r]) Q E s:=by
 have ty:s.TypeIs (.ref r) "range":=⟨_,hr,rfl⟩
 refine wpAny_call_entry F.slot_range_reversed ty F.entry_range_reversed ?_ (F.args_range_reversed_1 _)
 unfold Builtin.«range.__reversed__»
 refine wpAny_bind (wpAny_of_eq (a:=Value.ref r) rfl ?_)
 refine wpAny_bind ?_
 unfold Builtin.Range.rangeFields
 refine wpAny_bind (wpAny_field hr rfl (x:=.int a t) rfl ?_)
 refine wpAny_bind (m:=asInt? (.int a t)) (wpAny_pure ?_)
 refine wpAny_bind (wpAny_field hr rfl (x:=.int b u) rfl ?_)
 refine wpAny_bind (m:=asInt? (.int b u)) (wpAny_pure ?_)
 refine wpAny_bind (wpAny_field hr rfl (x:=.int c v) rfl ?_)
 refine wpAny_bind (m:=asInt? (.int c v)) (wpAny_pure ?_)
 refine wpAny_pure ?_
 dsimp only
 rw[hs]
 simp only[Bool.not_true,Bool.false_eq_true,if_false,if_true]
 first
 | refine wpAny_bind (wpAny_newObj_type (wpAny_pure ⟨_,rfl,h⟩))
 | refine wpAny_bind (wpAny_pure (wpAny_bind (wpAny_newObj_type (wpAny_pure ⟨_,rfl,h⟩))))
theorem Zn {r:Addr} {n:Nat} {t u v:Tok} {Q:Value->Shared->Prop} (hr:IsRange s.heap r 0 n 1 t u v) (hn:n < 1048576)
   (h:Q (.ref s.heap.objs.size) {s with heap:=s.heap.push (Yd ((n:Int) - 1) n (-1))}):wpAny (model prog w) A (call (.builtin "range.__reversed__") [.ref r]) Q E s:=by
 have f:∀x:Int,-2000000<=x->x<=2000000->Builtin.Range.rangeFitsLong x=true:=λx p q=>by
   unfold Builtin.Range.rangeFitsLong
   simp
   omega
 have e:=Ug n
 have hs:(Builtin.Range.rangeFitsLong 0&&Builtin.Range.rangeFitsLong (n:Int)&&Builtin.Range.rangeFitsLong 1&&Builtin.Range.rangeFitsLong (-1)&&Builtin.Range.rangeFitsLong (0 - 1)&&Builtin.Range.rangeFitsLong (Builtin.Range.rangeSize 0 n 1))=true:=by
   rw[e,f 0 (by omega) (by omega),f n (by omega) (by omega),f 1 (by omega) (by omega),f (-1) (by omega) (by omega),f (0 - 1) (by omega) (by omega)]
   rfl
 refine YA hr hs ?_
 have e2:(0:Int)+(Builtin.Range.rangeSize 0 n 1 - 1)*1=(n:Int) - 1:=by rw[e];omega
 rw[e2,e]
 exact h
end
end PySem
namespace PySem
section
variable {prog:Program} {w:World} {A:Around} {E:Value->Shared->Prop} {s:Shared}
theorem ZB {r:Addr} {n:Nat} {t u v:Tok} {Q₁:Value->Shared->Prop} (hr:IsRange s.heap r 0 n 1 t u v) (hn:n < 1048576)
   (h:Q₁ (.ref s.heap.objs.size) {s with heap:=s.heap.push (Yd ((n:Int) - 1) n (-1))}):
   codeAny (model prog w) A (.call (.builtin "reversed.__new__") ⟨[.type "reversed",.ref r],[]⟩) (wants Q₁ E) s:=by
 have ty:s.TypeIs (.ref r) "range":=⟨_,hr,rfl⟩
 have nn:¬((Value.builtin "range.__reversed__"==Value.none)=true):=Bool.false_ne_true
 refine codeAny_of_tree (show wpAny _ A.in1 (checkBuiltinCall "reversed.__new__" ⟨[.type "reversed",.ref r],[]⟩ >>= λ_=>again (.builtin "reversed.__new__" ⟨[.type "reversed",.ref r],[]⟩)) _ _ s from
   wpAny_bind (wpAny_of_eq (F.newCall_reversed_1 (.ref r)) (wpAny_pure ⟨plainId_quiet F.plain_reversed_new _,codeAny_builtin F.entry_reversed_new ?_⟩)))
 rw[Around.under_plainId F.plain_reversed_new _];unfold Builtin.«reversed.__new__»
 refine wpAny_bind (wpAny_of_eq (newClass_reversed (.ref r)) ?_);dsimp only
 refine wpAny_bind (wpAny_of_eq (a:=()) (by kernel_rfl) (wpAny_bind (wpAny_of_eq (a:=()) (by kernel_rfl) ?_)));try dsimp only
 refine wpAny_bind (wpAny_specialOf ty F.slot_range_reversed.lookup ?_);dsimp only
 refine wpAny_bind (wpAny_of_eq (F.slot_range_reversed.bind _) ?_);dsimp only
 rw[if_neg nn]
 refine wpAny_bind (wpAny_rule (wpAny_bind (m:=runValue (.call (.builtin "range.__reversed__") ⟨[.ref r],[]⟩)) (show wpAny _ _ (call (.builtin "range.__reversed__") [.ref r]) _ _ _ from Zn hr hn ?_)))
 first | exact wpAny_pure h | exact wpAny_bind (wpAny_pure (wpAny_pure h))
theorem zM:isSubtype (.type "range_iterator") (.type "reversed")=pure false:=by rw[isSubtype_type];kernel_rfl
theorem Zm {r:Addr} {n:Nat} {t u v:Tok} {Q:Value->Shared->Prop} (hr:IsRange s.heap r 0 n 1 t u v) (hn:n < 1048576)
   (h:Q (.ref s.heap.objs.size) {s with heap:=s.heap.push (Yd ((n:Int) - 1) n (-1))}):wpAny (model prog w) A (call (.type "reversed") [.ref r]) Q E s:=by
 refine callType_other (U:="range_iterator") (Q₁:=λobj s₁=>obj=.ref s.heap.objs.size/\s₁={s with heap:=s.heap.push (Yd ((n:Int) - 1) n (-1))}) (by decide+kernel) F.create_reversed ⟨_,_,F.mro_reversed⟩ F.made_reversed zM (F.typeCall_reversed_1 _) (ZB hr hn ⟨rfl,rfl⟩) ?_
 rintro obj s₁ ⟨rfl,rfl⟩
 exact⟨⟨_,Heap.get?_push_size _ rfl,rfl⟩,h⟩
theorem XQ {I:Addr} {x left c:Int} {Q:Value->Shared->Prop} (hit:IsRangeIter s.heap I x left c) (h:Q (.int left s.toks) {s with toks:=s.toks+1}):
   wpAny (model prog w) A (call (.builtin "range_iterator.__length_hint__") [.ref I]) Q E s:=by
 have hT:s.TypeIs (.ref I) "range_iterator":=⟨_,hit,rfl⟩
 refine wpAny_call_entry F.slot_range_iterator_length_hint hT F.entry_range_iterator_length_hint ?_ (F.args_range_iterator_length_hint_1 _)
 unfold Builtin.«range_iterator.__length_hint__»
 refine wpAny_bind (wpAny_of_eq (a:=Value.ref I) rfl ?_)
 refine wpAny_bind (wpAny_field hit rfl (x:=rawInt left) rfl ?_)
 show wpAny _ _ (do ret (<-mkInt left)) _ _ _
 exact wpAny_ret_mkInt h
structure VS (P:Program) (w:World) (T:String) (I:Addr) (fp:List Addr) (n:Nat) (V:Nat->Value->Prop) (St:Nat->Heap->Prop):Prop where
 ty:∀z:Shared,St 0 z.heap->z.TypeIs (.ref I) T
 nl:(Value.type T==Value.type "list")=false
 nt:(Value.type T==Value.type "tuple")=false
 walk:∀B:Around,B.handled=none->Walks P w B I fp [I] n V St
 hint:∀(B:Around) (F:Value->Shared->Prop) (z:Shared) (R:Bool->Shared->Prop),St 0 z.heap->(∀k,R false {z with toks:=k})->wpAny (model P w) B (Builtin.List.listLengthHint (.ref I)) R F z
theorem VS.list {P:Program} {T:String} {I:Addr} {fp:List Addr} {n:Nat} {V:Nat->Value->Prop} {St:Nat->Heap->Prop} (J:VS P w T I fp n V St) {B:Around} {F':Value->Shared->Prop} {z:Shared} {R:Value->Shared->Prop}
   (hB:B.handled=none) (st:St 0 z.heap) (mem:I∈fp) (old:∀b∈fp,b < z.heap.objs.size) (hn:n<=1048576)
   (k:∀g tk xs c,(∀b o,b≠I->z.heap.get? b=some o->g.get? b=some o)->g.get? z.heap.objs.size=some (⟨.type "list",none,.seq xs c,#[]⟩:Obj)->ItemsOf V xs n->R (.ref z.heap.objs.size) {z with heap:=g,toks:=tk}):
   wpAny (model P w) B (call (.type "list") [.ref I]) R F' z:=by
 have nI:∀b∈fp,z.heap.objs.size≠b:=λb hb=>Nat.ne_of_gt (old b hb)
 have sI:Builtin.List.listSameRef (.ref z.heap.objs.size) (.ref I)=false:=by unfold Builtin.List.listSameRef;simp [nI I mem]
 refine callType_codes (Q₁:=λob z1=>z1={z with heap:=z.heap.push {cls:=.type "list",data:=.seq #[]}}/\ob=.ref z.heap.objs.size) F.called_list (F.typeCall_list_1 _) F.entry_list_init (code_list_new _ ⟨rfl,rfl⟩) ?_
 rintro ob z1 ⟨rfl,rfl⟩
 have a0:=Heap.get?_push_size z.heap (o:=({cls:=.type "list",data:=.seq #[]}:Obj)) rfl
 refine⟨⟨_,a0,rfl⟩,F.args_list_init_2 _ _,?_⟩
 show wpAny _ _ (Builtin.List.listItems (.ref _) >>= λys=>Builtin.List.listUpdate (.ref _) (λ_=>#[]) >>= λ_=>letGo ys.toList.reverse >>= λ_=>Builtin.List.listExtendWith (.ref _) (.ref I) .none) _ _ _
 refine wpAny_bind (show wpAny _ _ (Builtin.List.listItems (.ref _)) _ _ _ from ?_)
 unfold Builtin.List.listItems
 refine wpAny_bind (wpAny_seqItems a0 rfl (wpAny_pure (wpAny_bind ?_)))
 refine wpAny_updateSeq a0 rfl (wpAny_bind (wpAny_letGo ?_))
 have a1:=Heap.get?_update_self (Obj.mapSeq (λ_=>(#[]:Array Value))) a0 rfl
 have keep1:∀b o,z.heap.get? b=some o->((z.heap.push {cls:=.type "list",data:=.seq #[]}).update z.heap.objs.size (Obj.mapSeq (λ_=>(#[]:Array Value)))).get? b=some o:=λb o e=>
   (Heap.get?_update_other _ _ (Nat.ne_of_gt (Heap.lt_size e))).trans (Heap.get?_push_of_some _ e)
 generalize hg1:(z.heap.push {cls:=.type "list",data:=.seq #[]}).update z.heap.objs.size (Obj.mapSeq (λ_=>(#[]:Array Value)))=g1 at a1 keep1
 have st1:St 0 g1:=(J.walk B hB).frame 0 _ _ st λb _ o e=>keep1 b o e
 unfold Builtin.List.listExtendWith
 refine wpAny_bind (wpAny_typeOf (J.ty {z with heap:=g1} st1) ?_)
 simp only[sI,J.nl,J.nt,Bool.or_false,Bool.false_eq_true,if_false]
 refine wpAny_bind ((J.walk B.in1.in1 hB).self 0 {z with heap:=g1} _ _ st1 ?_)
 refine wpAny_bind (wpAny_holding (J.hint B.in1.in1 _ {z with heap:=g1} _ st1 λtk=>?_))
 have run:∀(g:Heap) (c tk:Nat),St 0 g->(∀b o,z.heap.get? b=some o->g.get? b=some o)->g.get? z.heap.objs.size=some {cls:=.type "list",data:=.seq #[] c}->
     codeAny (model P w) B.in1 (.builtin "list.extend.loop" ⟨[.ref z.heap.objs.size,.ref I,.none],[]⟩) (wants (λr z2=>r=.none/\R (.ref z.heap.objs.size) z2) F') {z with heap:=g,toks:=tk}:=λg c tk sg kg ag=>
   codeAny_extend_loopS (J.walk B.in1.in1 hB).toS (by rw[sizeLine_eq];omega) _ (λq=>nI _ q rfl) .none n 0 _ #[] c rfl (Nat.zero_le _) sg ag (ItemsOf.nil _) λz3 xs c3 mv a3 it=>by
     rw[Moved.eq_with mv]
     refine⟨rfl,k z3.heap z3.toks xs c3 (λb o hb e=>mv.heap b o (λq=>?_) (kg b o e)) a3 it⟩
     rcases List.mem_cons.mp q with q | q
     . exact absurd q (Nat.ne_of_lt (Heap.lt_size e))
     . exact hb (List.mem_singleton.mp q)
 refine wpAny_ite_split (λ_=>?_) (λ_=>wpAny_pure ⟨plainId_quiet F.plain_extend_loop _,run g1 _ tk st1 keep1 a1⟩)
 refine wpAny_bind (wpAny_rule (wpAny_bind (show wpAny _ _ (updateSeq z.heap.objs.size (·.push .none) >>= λ_=>updateSeq z.heap.objs.size (·.pop)) _ _ _ from wpAny_bind (wpAny_updateSeq a1 rfl ?_))))
 have a2:=Heap.get?_update_self (Obj.mapSeq (·.push Value.none)) a1 rfl
 refine wpAny_updateSeq (hz:=by seq_fits) a2 rfl ?_
 have keep3:∀b o,b≠z.heap.objs.size->g1.get? b=some o->((g1.update z.heap.objs.size (Obj.mapSeq (·.push Value.none))).update z.heap.objs.size (Obj.mapSeq (·.pop))).get? b=some o:=λb o hb e=>
   (Heap.get?_update_other _ _ (Ne.symm hb)).trans ((Heap.get?_update_other _ _ (Ne.symm hb)).trans e)
 exact wpAny_pure ⟨plainId_quiet F.plain_extend_loop _,run _ _ tk ((J.walk B hB).frame 0 _ _ st1 λb hb o e=>keep3 b o (λq=>nI b hb q.symm) e) (λb o e=>keep3 b o (Nat.ne_of_lt (Heap.lt_size e)) (keep1 b o e)) (Heap.get?_update_self (Obj.mapSeq (·.pop)) a2 rfl)⟩
theorem UY {P:Program} {I:Addr} {x c:Int} {n:Nat} (hn:n<=1048576):VS P w "range_iterator" I [I] n (λi v=>∃t,v=.int (x+i*c) t) (λi h=>IsRangeIter h I (x+(i:Nat)*c) ((n:Int) - (i:Nat)) c) where
 ty:=λ_ st=>⟨_,st,rfl⟩
 nl:=by decide
 nt:=by decide
 walk:=λ_ hB=>Walks.range hB I x c n
 hint:=λB G z R st k=>by
   have st':IsRangeIter z.heap I x n c:=by
     have e1:x+((0:Nat):Int)*c=x:=by simp
     have e2:(n:Int) - ((0:Nat):Int)=n:=by simp
     rw[<-e1,<-e2]
     exact st
   have ty:z.TypeIs (.ref I) "range_iterator":=⟨_,st',rfl⟩
   have few:Builtin.List.listTooLong ((n:Int).toNat)=false:=by unfold Builtin.List.listTooLong;rw[Int.toNat_natCast];exact decide_eq_false (by rw[sizeLine_eq];omega)
   unfold Builtin.List.listLengthHint
   refine wpAny_bind (wpAny_specialOf ty F.nolen_ra ?_)
   refine(show wpAny _ B (specialOf (.ref I) (Str.ofString "__length_hint__") >>= _) _ _ _ from wpAny_bind (wpAny_specialOf ty F.hint_ra ?_))
   (generalize hq:("range_iterator.__length_hint__":String)=q0;(fail_if_success (clear hq q0));wp_delta;rw[show splitId q0=some ("range_iterator","__length_hint__") from by subst hq;decide+kernel];subst hq)
   refine wpAny_bind (wpAny_isInstance (b:=true) ty (by rw[isSubtype_type];kernel_rfl) ?_)
   refine(show wpAny _ B (call (.builtin "range_iterator.__length_hint__") [.ref I] >>= _) _ _ _ from wpAny_bind (XQ st' (wpAny_bind (m:=asInt? (.int (n:Int) _)) (wpAny_pure ?_))))
   dsimp only
   rw[if_neg (by rw[few];decide)]
   exact wpAny_pure (k _)
end
end PySem
namespace L2
open PySem PySem.Spec PyProof.Rows
def ZY (n:Nat):List Nat:=(List.range n).reverse
theorem UP {n:Nat} {acc:Array Value} (h:ItemsOf (λi v=>∃t,v=.int ((n:Int) - 1+i*(-1)) t) acc n):qD ((ZY n).map λi=>V.int (i:Nat)) acc.toList:=by
 obtain⟨hz,hv⟩:=h
 have key:∀(xs:List V) (us:List Value),xs.length=us.length->(∀(i:Nat) (x:V) (u:Value),xs[i]?=some x->us[i]?=some u->qN x u)->qD xs us:=by
   intro xs
   induction xs with
   | nil=>intro us hl _;cases us with | nil=>exact .nil | cons _ _=>cases hl
   | cons x xs ih=>
     intro us hl hp
     cases us with
     | nil=>cases hl
     | cons u us=>exact .cons (hp 0 x u rfl rfl) (ih us (by simpa using hl) λi y w h1 h2=>hp (i+1) y w (by simpa using h1) (by simpa using h2))
 refine key _ _ (by simp [ZY,hz]) λi x u h1 h2=>?_
 have h2':acc[i]?=some u:=by simpa using h2
 obtain⟨t,rfl⟩:=hv i u h2'
 have hi:i < n:=by
   have:=(Array.getElem?_eq_some_iff.mp h2').1
   omega
 rw[List.getElem?_map,ZY,List.getElem?_reverse (by simpa using hi),List.length_range,List.getElem?_range (by omega)]at h1
 simp at h1
 subst h1
 refine⟨t,?_⟩
 congr 1
 omega
section
variable {X:Cx} {e:Expr} {te:TE} {p1 p2 p3 pos1 pos2 pos3:Pos}
theorem ke {M:Model} {A:Around} {E:Value->Shared->Prop} {s:Shared} {env:Env} {e:Expr} {pos:Pos} {R:List Value->Shared->Prop} (hs:starEach [e] env=[(false,eval e env)]) (h:wpAny M A (eval e env) (λv s1=>R [v] s1) E s):
   wpAny M A (spliced (backTo pos (starEach [e] env))) R E s:=by
 rw[hs]
 show wpAny _ _ (spliced ((false,eval e env)::backTo pos [])) _ _ s
 exact Calls.spliced_cons (jg h λu s1 h1=>Calls.spliced_nil h1)
def Rp (te:TE):TE:=λσ H Q=>te σ H λx H1=>∃n:Nat,x=.int n/\n<=1000/\∀l,H1 l=none->Q (.ref l) (upd H1 l (.lst ((ZY n).map λi=>V.int (i:Nat))))
theorem Kq (hc:X.calm=true) (g1:Gl X "list") (m1:X.mg "list"=none) (g2:Gl X "reversed") (m2:X.mg "reversed"=none) (g3:Gl X "range") (m3:X.mg "range"=none) (ha:JE X e te) (hs:starEach [e] X.env=[(false,eval e X.env)]:=by rfl) (hs2:starEach [.Call (.Name "range" p3) [e] [] pos3] X.env=[(false,eval (.Call (.Name "range" p3) [e] [] pos3) X.env)]:=by rfl) (hs3:starEach [.Call (.Name "reversed" p2) [.Call (.Name "range" p3) [e] [] pos3] [] pos2] X.env=[(false,eval (.Call (.Name "reversed" p2) [.Call (.Name "range" p3) [e] [] pos3] [] pos2) X.env)]:=by rfl):JE X (.Call (.Name "list" p1) [.Call (.Name "reversed" p2) [.Call (.Name "range" p3) [e] [] pos3] [] pos2] [] pos1) (Rp te):=.of (by
 have ha:=ha.to
 intro pins s σ H Q I h
 refine Call_ (Q4 I g1 m1 boot_list (PyProof.Rows.callWith_type1 (ke hs3 ?_) (by rw[hs3];rfl) rfl))
 refine Call_ (Q4 I g2 m2 boot_reversed (PyProof.Rows.callWith_type1 (ke hs2 ?_) (by rw[hs2];rfl) rfl))
 refine Call_ (Q4 I g3 m3 boot_range (PyProof.Rows.callWith_type1 (ke hs (jg (ha pins s σ H _ I h) λu s1 ⟨x,H1,I1,r1,q1⟩=>?_)) (by rw[hs];rfl) rfl))
 obtain⟨n,rfl,hn,q⟩:=q1
 obtain⟨t,rfl⟩:=r1
 refine call_range_1 ?_
 refine Zm (IsRange.new ..) (by omega) ?_
 refine(UY (x:=(n:Int) - 1) (c:=-1) (n:=n) (by omega)).list (I1.ok.hd hc) (by
   have e1:(n:Int) - 1+((0:Nat):Int)*(-1)=(n:Int) - 1:=by simp
   have e2:(n:Int) - ((0:Nat):Int)=n:=by simp
   rw[e1,e2]
   exact Heap.get?_push_size _ rfl) (by simp) (λb hb=>by rw[List.mem_singleton.mp hb,Heap.size_push (_:Heap) (Yd _ _ _)];exact Nat.lt_succ_self _) (by omega) λh' tk acc' c' kp e hi=>?_
 have kk:∀b o,s1.heap.get? b=some o->h'.get? b=some o:=λb o eb=>by
   refine kp b o (Nat.ne_of_lt ?_) (Heap.get?_push_of_some _ (Heap.get?_push_of_some _ eb))
   rw[Heap.size_push]
   exact Nat.lt_succ_of_lt (Heap.lt_size eb)
 have s1z:s1.heap.objs.size<=((s1.heap.push ({cls:=.type "range",data:=.fields #[.int 0 s1.toks,.int n t,.int 1 (s1.toks+1)]}:Obj)).push (Yd ((n:Int) - 1) n (-1))).objs.size:=by
   rw[Heap.size_push,Heap.size_push]
   omega
 exact⟨.ref _,_,I1.laid (t':=tk) (o:=.lst ((ZY n).map λi=>V.int (i:Nat))) kk s1z ⟨by simp only[List.length_map,ZY,List.length_reverse,List.length_range];exact Nat.le_of_lt (ql hn),acc'.toList,c',UP hi,by simpa using e⟩,rfl,q _ (I1.hok.fresh s1z)⟩)
end
end L2
set_option Elab.async false
set_option linter.all false
set_option maxRecDepth 100000
set_option maxHeartbeats 4000000
namespace PySem
namespace F
end F
end PySem
namespace L2
open PySem PySem.Spec PyProof.Rows
theorem va:∀(xs:List V) (us:List Value),xs.length=us.length->(∀(i:Nat) (x:V) (u:Value),xs[i]?=some x->us[i]?=some u->qN x u)->qD xs us:=by
 intro xs
 induction xs with
 | nil=>intro us hl _;cases us with | nil=>exact .nil | cons _ _=>cases hl
 | cons x xs ih=>
   intro us hl hp
   cases us with
   | nil=>cases hl
   | cons u us=>exact .cons (hp 0 x u rfl rfl) (ih us (by simpa using hl) λi y w h1 h2=>hp (i+1) y w (by simpa using h1) (by simpa using h2))
section
variable {X:Cx} {e:Expr} {te:TE} {p1 p2 pos1 pos2:Pos}
end
end L2
set_option Elab.async false
set_option linter.all false
set_option maxRecDepth 100000
set_option maxHeartbeats 4000000
namespace L2
open PySem PySem.Spec PyProof.Rows
section
variable {X:Cx} {pins:List (Addr×Obj)} {σ:St} {H:Hp} {s:Shared} {h':Heap}
theorem qx.turnLaid {L:List Addr} {T:Addr} {o:HO} {t':Nat} (I:qx X pins σ H s) (k:∀b u,b∉L->s.heap.get? b=some u->h'.get? b=some u) (hf:∀b∈L,ZE X pins H b) (hp:s.heap.objs.size<=T)
   (new:qI X.prog X.w (upd H T o) h' T o):qx X pins σ (upd H T o) {s with heap:=h',toks:=t'}:=by
 have hn:H T=none:=I.hok.fresh hp
 have up:∀b u,H b=some u->upd H T o b=some u:=λb u e=>by rw[qg (qt e hn)];exact e
 have nL:∀b u,H b=some u->b∉L:=λb u e z=>by rw[(hf b z).1]at e;cases e
 refine I.step (g':=s.gens) (d':=s.drawn) (ch:=L) (λb hb=>?_) (λb o _ _ hc e _=>k b o hc e) (λb o _ _ hc e _=>⟨o.slots,k b o hc e⟩) (λb ob hc e n=>?_)
   (λb o hc e=>⟨o,k b o hc e⟩) (λb xs e=>up b _ e) (λb o u e=>up b _ e) (λb ps e=>⟨#[],by rw[up b _ e];simp⟩) (λm hm=>?_) (λb u e=>?_) I.bare
 . obtain⟨f0,f1,f2,f3,f4,f5⟩:=hf b hb
   exact⟨f3,f1,f4,f5⟩
 . have:b≠T:=Nat.ne_of_lt (Nat.lt_of_lt_of_le (Heap.lt_size e) hp)
   rw[qg this]
   exact n
 . obtain⟨o,es,ep,ho,r⟩:=hm
   exact⟨o,es,ep,k _ o (λz=>(hf _ z).2.1 rfl) ho,r⟩
 . by_cases hb:b=T
   . subst hb
     rw[qd]at e
     cases e
     exact new
   . rw[qg hb]at e
     refine(I.hok b u e).stay (λc v hc q=>k c v ?_ q) (λc q=>up c _ q) (λc xs q=>up c _ q) (λc o q=>up c _ q)
     rcases hc with z | z
     . rw[z];exact nL b u e
     . exact nL c _ z
theorem qx.turnedL {L:List Addr} {t':Nat} (I:qx X pins σ H s) (k:∀b u,b∉L->s.heap.get? b=some u->h'.get? b=some u) (hf:∀b∈L,ZE X pins H b):qx X pins σ H {s with heap:=h',toks:=t'}:=by
 have nL:∀b u,H b=some u->b∉L:=λb u e z=>by rw[(hf b z).1]at e;cases e
 refine I.step (g':=s.gens) (d':=s.drawn) (ch:=L) (λb hb=>?_) (λb o _ _ hc e _=>k b o hc e) (λb o _ _ hc e _=>⟨o.slots,k b o hc e⟩) (λ_ _ _ _ n=>n)
   (λb o hc e=>⟨o,k b o hc e⟩) (λ_ _ e=>e) (λ_ _ _ e=>e) (λb ps e=>⟨#[],by rw[e];simp⟩) (λm hm=>?_) (λb u e=>?_) I.bare
 . obtain⟨f0,f1,f2,f3,f4,f5⟩:=hf b hb
   exact⟨f3,f1,f4,f5⟩
 . obtain⟨o,es,ep,ho,r⟩:=hm
   exact⟨o,es,ep,k _ o (λz=>(hf _ z).2.1 rfl) ho,r⟩
 . refine(I.hok b u e).stay (λc v hc q=>k c v ?_ q) (λ_ q=>q) λ_ _ q=>q
   rcases hc with z | z
   . rw[z];exact nL b u e
   . exact nL c _ z
end
section
variable {X:Cx} {elts:List Expr} {x1:Nat} {tpos:Pos}
end
end L2
set_option Elab.async false
set_option linter.all false
set_option maxRecDepth 100000
set_option maxHeartbeats 4000000
namespace L2
open PySem PySem.Spec PyProof.Rows
section
variable {X:Cx}
end
section
variable {X:Cx} {o e:Expr} {es:List Expr} {ta:TE} {t:TA} {m:Str} {C C' f f':Addr} {fd fd':FuncData} {ps ps':List Str} {k k':Nat} {sp sp':Sp} {apos pos:Pos}
end
section
variable {X:Cx} {e:Expr} {es:List Expr} {te:TE} {t:TA}
end
end L2
set_option Elab.async false
set_option linter.all false
set_option maxRecDepth 100000
set_option maxHeartbeats 4000000
namespace L2
open PySem PySem.Spec PySem.W PyProof.Rows
theorem ur:∀(f n r:Nat),r<=1->minRun' f n r<=n+r
 | 0,n,r,_=>Nat.le_refl _
 | f+1,n,r,hr=>by
   rw[minRun'_succ]
   split
   . exact Nat.le_refl _
   . have h1:max r (n % 2)<=1:=Nat.max_le.mpr ⟨hr,by omega⟩
     have:=ur f (n / 2) (max r (n % 2)) h1
     omega
section
variable {P:Program} {w:World} {B:Around} {F:Value->Shared->Prop} {κ:SortKind} {it:Array Keyed} {z:Shared}
theorem Wv {n:Nat} {R:Nat->Shared->Prop} (hc:∀i,1<=i->i < n->∀C:Bool->Shared->Prop,C false z->kas_cmp P w B κ it i (i - 1) C z) (hR:R n z):
   ∀(f a:Nat),1<=a->a+f=n->(kas_asc (List.toArray (List.range n)) f a).kasWp (kas_cmp P w B κ it) R z
 | 0,a,_,e=>by
   have e':a=n:=by omega
   subst e'
   exact hR
 | f+1,a,h1,e=>by
   have g:∀i,i < n->(List.toArray (List.range n)).getD i 0=i:=λi hi=>by simp [Array.getD,hi]
   show kas_cmp P w B κ it ((List.toArray (List.range n)).getD a 0) ((List.toArray (List.range n)).getD (a - 1) 0) _ z
   rw[g a (by omega),g (a - 1) (by omega)]
   refine hc a h1 (by omega) _ ?_
   show KasT.kasWp _ (if false=true then _ else _) R z
   rw[if_neg Bool.false_ne_true]
   exact Wv hc hR f (a+1) (by omega) (by omega)
theorem U6 {n:Nat} {Q:Unit->SortSt->Shared->Prop} (h2:2<=n) (hc:∀i,1<=i->i < n->∀C:Bool->Shared->Prop,C false z->kas_cmp P w B κ it i (i - 1) C z)
   (hQ:∀st,arrOf st=(List.toArray (List.range n)).map (kas_item it)->failedOf st=none->Q () st z):kasC (model P w) B F sortRuns' Q (kas_st κ it (List.toArray (List.range n))) z:=by
 obtain⟨r,rfl⟩:∃r,n=r+2:=⟨n - 2,by omega⟩
 have sz:(List.toArray (List.range (r+2))).size=r+2:=by simp
 have sa:(arrOf (kas_st κ it (List.toArray (List.range (r+2))))).size=r+2:=(Array.size_map ..).trans sz
 have le:=ur (r+2) (r+2) 0 (by decide)
 rw[sortRuns'_eq]
 refine kasC_bind (kasC_get ?_)
 dsimp only
 rw[sa]
 generalize minRun' (r+2) (r+2) 0=M at le
 refine kasC_bind (kasC_range (show kasC _ _ _ (forIn (0::1::List.range' 2 r) _ _) _ _ _ from kasC_cons ?_))
 dsimp only
 rw[if_neg (by omega)]
 simp only[Nat.sub_zero,Nat.zero_add]
 refine kasC_bind (kas_count_ (G:=λq z'=>q=(r+2,List.toArray (List.range (r+2)))/\z'=z) (by omega) (by rw[sz];exact Nat.le_refl _) (λm p' z' _ _ _ hg=>?_) ?_)
 . obtain⟨e,rfl⟩:=hg
   cases e
   dsimp only
   rw[if_neg (by omega)]
   refine kasC_bind (kasC_get ?_)
   rw[show (pendingOf (kas_st κ it (List.toArray (List.range (r+2))))).back?=none from rfl]
   dsimp only
   refine kasC_bind (kasC_modify (kasC_pure (show kasC _ _ _ (forIn (1::List.range' 2 r) _ _) _ _ _ from kasC_cons ?_)))
   dsimp only
   rw[if_pos (Nat.le_refl _)]
   refine kasC_pure ?_
   dsimp only
   refine kasC_bind (kasC_range (show kasC _ _ _ (forIn (0::1::List.range' 2 r) _ _) _ _ _ from kasC_cons (kasC_bind (kasC_get ?_))))
   rw[if_pos (show (pendingOf (setPending (kas_st κ it (List.toArray (List.range (r+2)))) ((pendingOf (kas_st κ it (List.toArray (List.range (r+2))))).push (0,r+2,0)))).size<=1 from Nat.le_refl 1)]
   refine kasC_pure ?_
   dsimp only
   exact kasC_pure (hQ _ rfl rfl)
 . unfold kas_count
   rw[KasT.kasWp_bind]
   refine Wv hc ?_ _ 1 (Nat.le_refl 1) (by omega)
   rw[if_pos (beq_self_eq_true _)]
   exact⟨rfl,rfl⟩
end
def Jy (h:Heap) (v:Value) (k:Int×Int):Prop:=∃p o n t u,v=.ref p/\h.get? p=some o/\o.cls=.type "tuple"/\o.data=.seq #[.int k.1 t,.int k.2 u] n
def Yo (a b:Int×Int):Prop:=a.1 < b.1\/(a.1=b.1/\a.2 < b.2)
section
variable {P:Program} {w:World} {B:Around} {F:Value->Shared->Prop} {z:Shared}
theorem WA {v u:Value} {a b:Int×Int} (hv:Jy z.heap v b) (hu:Jy z.heap u a) (hlt:Yo a b) {C:Bool->Shared->Prop} (hC:C false z):wpAny (model P w) B (keyLt' (tuples' true) v u) C (λ_ _=>False) z:=by
 obtain⟨p,o,n,t1,t2,rfl,h1,_,d1⟩:=hv
 obtain⟨p',o',n',t1',t2',rfl,h1',_,d1'⟩:=hu
 refine kat_lt h1 d1 h1' d1' ?_
 show KatLex P w B true _ C [(.int b.1 t1,.int a.1 t1'),(.int b.2 t2,.int a.2 t2')] 0 z
 refine kat_cons (SeqAt.EqAt.int_int b.1 t1 a.1 t1' P w _ _ ?_)
 rcases hlt with h | ⟨h,h'⟩
 . have e:(b.1==a.1)=false:=by
     rw[beq_eq_false_iff_ne]
     omega
   rw[e]
   refine kat_no (show wpAny _ _ (oneLt' true _ _) _ _ _ from oneLt_int ?_)
   rw[decide_eq_false (by omega)]
   exact hC
 . have e:(b.1==a.1)=true:=by rw[h];exact beq_self_eq_true _
   rw[e]
   refine kat_yes (kat_cons (SeqAt.EqAt.int_int b.2 t2 a.2 t2' P w _ _ ?_))
   have e2:(b.2==a.2)=false:=by
     rw[beq_eq_false_iff_ne]
     omega
   rw[e2]
   refine kat_no (show wpAny _ _ (oneLt' false _ _) _ _ _ from kat_one _ _ (lt_int ?_))
   show C (decide (b.2 < a.2)) z
   rw[decide_eq_false (by omega)]
   exact hC
theorem Jy.keep {h h':Heap} {v:Value} {k:Int×Int} (x:Jy h v k) (kp:∀b o,h.get? b=some o->o.cls=.type "tuple"->h'.get? b=some o):Jy h' v k:=by
 obtain⟨p,o,n,t,u,e,h1,c,d⟩:=x
 exact⟨p,o,n,t,u,e,kp p o h1 c,c,d⟩
theorem YZ (vs:List Value):(pairsOf vs).map (·.2)=vs.toArray:=by
 apply Array.ext'
 rw[Array.toList_map,pairsOf_toList,List.map_snd_zip (Nat.le_refl _)]
theorem VZ {h:Heap}:∀(vs:List Value) (ks:List (Int×Int)),vs.length=ks.length->(∀(i:Nat) (v:Value) (k:Int×Int),vs[i]?=some v->ks[i]?=some k->Jy h v k)->∃fs,KatTups h vs fs/\fs.length=vs.length/\∀v∈fs,∃i t,v=Value.int i t
 | [],_,_,_=>⟨[],.nil,rfl,λv hv=>(nomatch hv)⟩
 | v::vs,[],hl,_=>by cases hl
 | v::vs,k::ks,hl,hv=>by
   obtain⟨fs,tf,lf,hf⟩:=VZ vs ks (Nat.succ.inj hl) λi u q e1 e2=>hv (i+1) u q (by simpa using e1) (by simpa using e2)
   obtain⟨p,o,n,t,u,rfl,h1,c,d⟩:=hv 0 v k rfl rfl
   refine⟨.int k.1 t::fs,.cons h1 c d rfl tf,by simp [lf],λx hx=>?_⟩
   rcases List.mem_cons.mp hx with e | hx
   . exact⟨_,_,e⟩
   . exact hf x hx
theorem UW {a:Addr} {vs:List Value} {ks:List (Int×Int)} {n:Nat} {R:PySem.Fin->Shared->Prop} (ho:z.heap.get? a=some (seqObj "list" vs.toArray n)) (hl:vs.length=ks.length) (hv:∀(i:Nat) (v:Value) (k:Int×Int),vs[i]?=some v->ks[i]?=some k->Jy z.heap v k)
   (hr:∀(i:Nat) (k k':Int×Int),ks[i]?=some k->ks[i+1]?=some k'->Yo k k') (hz:vs.length<=100000)
   (k:R (.done (.ret .none)) {z with heap:=sortedHeap z.heap a vs vs.toArray}):wpAny (model P w) B (Builtin.«list.sort» ⟨[.ref a],[]⟩) R F z:=by
 have na:∀b o,z.heap.get? b=some o->o.cls=.type "tuple"->b≠a:=λb o e c q=>by
   rw[q,ho]at e
   cases e
   exact absurd c (show ¬Value.type "list"=Value.type "tuple" by decide)
 rw[list_sort_plain]
 refine wpAny_bind (listItems_at ho rfl (wpAny_bind (listUpdate_at ho rfl ?_)))
 obtain⟨c1,o1⟩:∃c,(z.heap.update a (Obj.mapSeq λ_=>#[])).get? a=some (seqObj "list" #[] c):=⟨_,get?_update_seq ho (λ_=>#[])⟩
 refine wpAny_bind (seqEpoch_at o1 rfl (wpAny_bind (wpAny_newTuple (wpAny_bind (wpAny_newList (wpAny_holding ?_))))))
 have lt:=Heap.lt_size ho
 have o2:(((z.heap.update a (Obj.mapSeq λ_=>#[])).push (seqObj "tuple" vs.toArray 0)).push (seqObj "list" #[] 0)).get? a=some (seqObj "list" #[] c1):=Heap.get?_push_of_some _ (Heap.get?_push_of_some _ o1)
 have kp:∀b o,z.heap.get? b=some o->o.cls=.type "tuple"->(((z.heap.update a (Obj.mapSeq λ_=>#[])).push (seqObj "tuple" vs.toArray 0)).push (seqObj "list" #[] 0)).get? b=some o:=λb o e c=>
   Heap.get?_push_of_some _ (Heap.get?_push_of_some _ ((Heap.get?_update_other _ _ (Ne.symm (na b o e c))).trans e))
 show wpAny (model P w) B _ R F {z with heap:=((z.heap.update a (Obj.mapSeq λ_=>#[])).push (seqObj "tuple" vs.toArray 0)).push (seqObj "list" #[] 0)}
 dsimp only
 have sv:vs.toArray.size=vs.length:=by simp
 have ends:∀st:SortSt,(arrOf st).map (·.2)=vs.toArray->failedOf st=none->wpAny (model P w) B (do
     let touched:=(<-seqEpoch a) != c1
     Builtin.List.listUpdate (.ref a) λ_=>(arrOf st).map (·.2)
     if let some e:=failedOf st then rule "list.sort.comparison-raised";throw e
     if touched then rule "list.sort.modified";raiseError "ValueError" "list modified during sort"
     ret .none) R F {z with heap:=((z.heap.update a (Obj.mapSeq λ_=>#[])).push (seqObj "tuple" vs.toArray 0)).push (seqObj "list" #[] 0)}:=λst e f=>by
   refine wpAny_bind (seqEpoch_at o2 rfl ?_)
   rw[e,f]
   refine wpAny_bind (listUpdate_at o2 rfl ?_ (hsz2:=by rw[sv,sizeLine_eq];omega))
   simp only[bne_self_eq_false,Bool.false_eq_true,if_false]
   exact wpAny_pure k
 by_cases h2:vs.toArray.size < 2
 . rw[if_pos h2,if_pos h2]
   refine wpAny_bind (wpAny_pure ?_)
   rw[StateT.run_pure]
   refine wpAny_bind (wpAny_pure ?_)
   exact ends (SortSt.mk' general' (vs.toArray.zip vs.toArray) #[] 7 none) (YZ vs) rfl
 . rw[if_neg h2,if_neg h2]
   have l2:2<=vs.length:=by omega
   have hv':∀(i:Nat) (v:Value) (q:Int×Int),vs[i]?=some v->ks[i]?=some q->Jy (((z.heap.update a (Obj.mapSeq λ_=>#[])).push (seqObj "tuple" vs.toArray 0)).push (seqObj "list" #[] 0)) v q:=λi v q e1 e2=>(hv i v q e1 e2).keep kp
   obtain⟨fs,tf,lf,hf⟩:=VZ vs ks hl hv'
   refine wpAny_bind (kat_kind (T:=.type "int") tf (by omega) (λv q=>?_) rfl ?_)
   . obtain⟨i,t,rfl⟩:=hf v q
     exact Looks.of_pure rfl
   . have e:vs.toArray.zip vs.toArray=(List.toArray (List.range vs.length)).map (kas_item (pairsOf vs)):=by
       have:=kas_range (pairsOf vs)
       rw[pairsOf_size]at this
       exact this.symm
     rw[e]
     have run:kasC (model P w) B F sortRuns' (λ_ st z'=>z'={z with heap:=((z.heap.update a (Obj.mapSeq λ_=>#[])).push (seqObj "tuple" vs.toArray 0)).push (seqObj "list" #[] 0)}/\(arrOf st).map (·.2)=vs.toArray/\failedOf st=none)
         (kas_st (tuples' true) (pairsOf vs) (List.toArray (List.range vs.length))) {z with heap:=((z.heap.update a (Obj.mapSeq λ_=>#[])).push (seqObj "tuple" vs.toArray 0)).push (seqObj "list" #[] 0)}:=by
       refine U6 l2 (λi i1 i2 C hC=>?_) λst e1 e2=>⟨rfl,by rw[e1,<-e];exact YZ vs,e2⟩
       unfold kas_cmp
       rw[kas_item_eq,kas_item_eq]
       have g:∀j,j < vs.length->vs[j]?=some (vs.getD j Value.none):=λj hj=>by simp [hj]
       have gk:∀j,j < vs.length->∃q,ks[j]?=some q:=λj hj=>⟨_,List.getElem?_eq_getElem (by omega)⟩
       obtain⟨q1,eq1⟩:=gk i i2
       obtain⟨q0,eq0⟩:=gk (i - 1) (by omega)
       have eq1':ks[i - 1+1]?=some q1:=by rw[show i - 1+1=i by omega];exact eq1
       exact WA (hv' i _ q1 (g i i2) eq1) (hv' (i - 1) _ q0 (g (i - 1) (by omega)) eq0) (hr (i - 1) q0 q1 eq0 eq1') hC
     refine wpAny_bind (wpAny_mono run (λr z' h3=>?_) λ_ _ x=>x)
     obtain⟨⟨⟩,st⟩:=r
     obtain⟨rfl,e1,e2⟩:=h3
     exact ends st e1 e2
end
end L2
set_option Elab.async false
set_option linter.all false
set_option maxRecDepth 100000
set_option maxHeartbeats 4000000
namespace PySem
def RawD (h:Heap) (d:Addr) (es:Array DictEntry) (ep:Nat):Prop:=∃o,h.get? d=some o/\o.ExactDict/\o.data=.dict es ep
theorem RawD.keep {h h':Heap} {d:Addr} {es:Array DictEntry} {ep:Nat} (x:RawD h d es ep) (k:∀o,h.get? d=some o->h'.get? d=some o):RawD h' d es ep:=let ⟨o,e,r⟩:=x;⟨o,k o e,r⟩
section
variable {P:Program} {w:World} {B:Around} {F':Value->Shared->Prop} {z:Shared} {d I:Addr} {es:Array DictEntry} {ep i:Nat}
theorem RawD.ty (x:RawD z.heap d es ep):z.TypeIs (.ref d) "dict":=let ⟨o,e,c,_⟩:=x;⟨o,e,c.1⟩
theorem kS {R:Value->Shared->Prop} (hd:(d==sysModules)=false) (x:RawD z.heap d es ep)
   (k:R (.ref z.heap.objs.size) {z with heap:=z.heap.push {cls:=.type "dict_keyiterator",data:=.fields #[.ref d,.int 0 0,.int es.size 0,.int ep 0]}}):wpAny (model P w) B (pyIter (.ref d)) R F' z:=by
 have ty:=x.ty
 obtain⟨o,ho,_,dat⟩:=x
 refine wpAny_pyIter_slot ty F.slot_dict_iter (wpAny_call_entry F.slot_dict_iter ty F.entry_dict_iter ?_ (F.args_dict_iter_1 _))
 unfold Builtin.«dict.__iter__»
 refine wpAny_bind (show wpAny _ _ (Builtin.Dict.dictSlotNone _ _) _ _ _ from ?_)
 unfold Builtin.Dict.dictSlotNone
 refine wpAny_bind (wpAny_notOrdered_dict ty (show wpAny _ _ (pure (Value.ref d)) _ _ z from wpAny_pure ?_))
 refine(show wpAny _ _ (Builtin.Dict.showsAll d >>= _) _ _ z from ?_)
 unfold Builtin.Dict.showsAll
 rw[if_neg (by rw[hd];exact Bool.false_ne_true)]
 refine wpAny_bind (wpAny_pure (wpAny_bind (wpAny_dictEntries ho dat (wpAny_bind (wpAny_dictEpoch ho dat ?_)))))
 exact wpAny_bind (wpAny_newObj_type (wpAny_pure ⟨_,rfl,"dict_keyiterator",_,⟨_,Heap.get?_push_size _ rfl,rfl⟩,F.slot_dict_keyiterator_next.lookup,by simpa [rawInt] using k⟩))
theorem kR {R:Option Value->Shared->Prop} (hit:z.heap.IsKeyIter I d i es.size ep) (x:RawD z.heap d es ep) (hi:i < es.size)
   (k:∀h',h'.IsKeyIter I d (i+1) es.size ep->Heap.SameBut I z.heap h'->R (some es[i].key) {z with heap:=h'}):wpAny (model P w) B (pyNext (.ref I)) R F' z:=by
 obtain⟨o,ho,hc,hd⟩:=id hit
 obtain⟨od,hod,_,dat⟩:=x
 have ty:=hit.typeIs
 unfold pyNext
 refine wpAny_bind (wpAny_attempt (wpAny_callSpecial?_slot (name:=Str.ofString "__next__") ty F.slot_dict_keyiterator_next (wpAny_call_entry F.slot_dict_keyiterator_next ty F.entry_dict_keyiterator_next ?_ (F.args_dict_keyiterator_next_1 _))))
 refine wpAny_bind (wpAny_pure (wpAny_bind (wpAny_bind (wpAny_bind ?_))))
 first | refine wpAny_typeNameOfWhole_keyiter ty (wpAny_pure (wpAny_bind (wpAny_fieldsOf ho hd ?_))) | refine wpAny_typeNameOf_keyiter ty (wpAny_pure (wpAny_bind (wpAny_fieldsOf ho hd ?_)))
 have own:Builtin.Dict_items.ownsTuple "dict_keyiterator"=false:=by decide
 simp only[own,Bool.false_eq_true,if_false]
 show wpAny _ _ (if (Value.ref d==Value.none)=true then _ else _) _ _ z
 rw[if_neg (show ¬((Value.ref d==Value.none)=true) from Bool.false_ne_true)]
 refine wpAny_bind (wpAny_pure (wpAny_bind (wpAny_dictEntries hod dat ?_)))
 rw[if_neg (by simp)]
 refine wpAny_bind (wpAny_pure (wpAny_bind (wpAny_dictEpoch hod dat ?_)))
 rw[if_neg (by simp)]
 refine wpAny_pure ?_
 simp only[show ¬((i:Int) < 0) from by omega,if_false,Int.toNat_natCast,Array.getElem?_eq_getElem hi]
 refine wpAny_bind (wpAny_bind ?_)
 first | refine wpAny_typeNameOfWhole_keyiter ty (wpAny_pure (wpAny_bind (wpAny_isOneOf_keyiter ty ?_))) | refine wpAny_typeNameOf_keyiter ty (wpAny_pure (wpAny_bind (wpAny_isOneOf_keyiter ty ?_)))
 refine(show wpAny _ _ (setField (.ref I) 1 (rawInt ((i:Int)+1)) >>= _) _ _ z from wpAny_bind (wpAny_setField ho hd (by simp) ?_))
 have hit':(z.heap.update I (Obj.mapFields (·.setIfInBounds 1 (rawInt ((i:Int)+1))))).IsKeyIter I d (i+1) es.size ep:=
   ⟨_,Heap.get?_update_self _ ho (Obj.isFreed_of_fields (Obj.data_mapFields hd _)),(Obj.cls_mapFields ..).trans hc,by rw[Obj.data_mapFields hd];simp [rawInt]⟩
 refine wpAny_bind (wpAny_holding (wpAny_bind (wpAny_isOneOf_keyiter (s:={z with heap:=z.heap.update I (Obj.mapFields (·.setIfInBounds 1 (rawInt ((i:Int)+1))))}) hit'.typeIs ?_)))
 refine(show wpAny _ _ (pure es[i].key) _ _ _ from wpAny_pure (wpAny_pure ⟨_,rfl,wpAny_pure (k _ hit' (Heap.SameBut.update ..))⟩))
theorem x9 {R:Option Value->Shared->Prop} (hB:B.handled=none) (hit:z.heap.IsKeyIter I d i es.size ep) (x:RawD z.heap d es ep) (hi:es.size<=i)
   (k:∀h',Heap.ExtBut I z.heap h'->R none {z with heap:=h'}):wpAny (model P w) B (pyNext (.ref I)) R F' z:=by
 obtain⟨o,ho,hc,hd⟩:=id hit
 obtain⟨od,hod,_,dat⟩:=x
 have ty:=hit.typeIs
 unfold pyNext
 refine wpAny_bind (wpAny_attempt (wpAny_callSpecial?_slot (name:=Str.ofString "__next__") ty F.slot_dict_keyiterator_next (wpAny_call_entry F.slot_dict_keyiterator_next ty F.entry_dict_keyiterator_next ?_ (F.args_dict_keyiterator_next_1 _))))
 refine wpAny_bind (wpAny_pure (wpAny_bind (wpAny_bind (wpAny_bind ?_))))
 first | refine wpAny_typeNameOfWhole_keyiter ty (wpAny_pure (wpAny_bind (wpAny_fieldsOf ho hd ?_))) | refine wpAny_typeNameOf_keyiter ty (wpAny_pure (wpAny_bind (wpAny_fieldsOf ho hd ?_)))
 have own:Builtin.Dict_items.ownsTuple "dict_keyiterator"=false:=by decide
 simp only[own,Bool.false_eq_true,if_false]
 show wpAny _ _ (if (Value.ref d==Value.none)=true then _ else _) _ _ z
 rw[if_neg (show ¬((Value.ref d==Value.none)=true) from Bool.false_ne_true)]
 refine wpAny_bind (wpAny_pure (wpAny_bind (wpAny_dictEntries hod dat ?_)))
 rw[if_neg (by simp)]
 refine wpAny_bind (wpAny_pure (wpAny_bind (wpAny_dictEpoch hod dat ?_)))
 rw[if_neg (by simp)]
 refine wpAny_pure ?_
 simp only[show ¬((i:Int) < 0) from by omega,if_false,Int.toNat_natCast,Array.getElem?_eq_none hi]
 refine wpAny_bind (wpAny_bind ?_)
 first | refine wpAny_typeNameOfWhole_keyiter ty (wpAny_pure ?_) | refine wpAny_typeNameOf_keyiter ty (wpAny_pure ?_)
 refine(show wpAny _ _ (setField (.ref I) 0 .none >>= _) _ _ z from wpAny_bind (wpAny_setField ho hd (by simp) ?_))
 refine(show wpAny _ _ (newExc (.type "StopIteration") [] >>= _) _ _ _ from wpAny_bind ?_)
 simp only[newExc,newTuple]
 refine wpAny_bind (wpAny_newObj_type (wpAny_bind (m:=firstArgMember _ _) (wpAny_of_eq (a:=Value.none) (by first | rfl | (simp only[firstArgMember];rfl)) (wpAny_newObj_type ?_ (by size_fits)))) (by size_fits))
 simp only[raiseNew]
 refine wpAny_bind (wpAny_handled ?_)
 rw[show B.in1.handled=none from hB]
 refine wpAny_bind (wpAny_pure (wpAny_throw ?_))
 refine wpAny_bind (wpAny_isInstance (T:="StopIteration") (b:=true) ⟨_,Heap.get?_push_size _ rfl,rfl⟩ isSubtype_stop ?_)
 exact wpAny_pure (k _ ((((Heap.SameBut.update ..).extBut).push _).push _))
end
end PySem
namespace PySem
open PySem.W
section
variable {P:Program} {w:World} {d:Addr} {es:Array DictEntry} {ep:Nat}
theorem U7 {B:Around} (hB:B.handled=none) (I:Addr) (hne:d≠I):Walks P w B I [I,d] [I] es.size (λi v=>∃h:i < es.size,v=es[i].key) (λi h=>h.IsKeyIter I d i es.size ep/\RawD h d es ep) where
 sub:=λb hb=>by simp at hb;simp [hb]
 frame:=λ_ _ _ st k=>⟨st.1.at λo e=>k I (by simp) o e,st.2.keep λo e=>k d (by simp) o e⟩
 item:=λi z R G hi st q=>kR st.1 st.2 hi λh' it' sb=>q _ h' z.toks ⟨hi,rfl⟩ ⟨it',st.2.keep λo e=>sb.extBut d o hne e⟩ λb o hb e=>sb.extBut b o (λx=>hb (by simp [x])) e
 done:=λz R G st q=>x9 hB st.1 st.2 (Nat.le_refl _) λh' eb=>q h' z.toks λb o hb e=>eb b o (λx=>hb (by simp [x])) e
 self:=λ_ _ _ _ st q=>wpAny_pyIter_keyiter st.1 q
theorem x8 (hd:(d==sysModules)=false):KdlSrc P w "dict" d d es.size (λi v=>∃h:i < es.size,v=es[i].key) (λh=>RawD h d es ep) where
 type:=λz x=>x.ty
 there:=λh x=>let ⟨o,e,_⟩:=x;⟨Heap.lt_size e,Heap.lt_size e⟩
 keep:=λh h' x k=>x.keep λo e=>k d (.inl rfl) o e
 notList:=by decide
 notTuple:=by decide
 hint:=λ_ _ _ _ x q=>kdl_hint_dict x.ty q
 iter:=λA z hh x=>⟨_,_,λE Q q=>kS hd x q,U7 hh _ (let ⟨o,e,_⟩:=x;Nat.ne_of_lt (Heap.lt_size e)),⟨⟨_,Heap.get?_push_size _ rfl,rfl,rfl⟩,x.keep λo e=>Heap.get?_push_of_some _ e⟩⟩
end
end PySem
namespace L2
open PySem PySem.Spec PySem.W PyProof.Rows
theorem Yf {α β:Type} {G:α->β->Prop}:∀{l:List α} {m:List β},Paired G l m->∀{i:Nat} {a:α},l[i]?=some a->∃b,m[i]?=some b/\G a b
 | _,_,.nil,i,a,e=>by simp at e
 | _,_,.cons r t,0,a,e=>by cases e;exact⟨_,rfl,r⟩
 | _,_,.cons r t,i+1,a,e=>by
   obtain⟨b,eb,g⟩:=Yf t (by simpa using e)
   exact⟨b,by simpa using eb,g⟩
section
variable {X:Cx}
def zE (k:Int×Int):List ja:=[Sum.inl k.1,Sum.inl k.2]
def uV:List V->Hp->VK->Prop:=λxs H Q=>∃(a:Addr) (kvs:List (List ja×V)) (ks:List (Int×Int)),xs=[.ref a]/\H a=some (.dT kvs)/\kvs.map (·.1)=ks.map zE/\(∀(i:Nat) (k k':Int×Int),ks[i]?=some k->ks[i+1]?=some k'->Yo k k')/\kvs.length<=1000/\
 ∀(l:Addr) (ps:List Addr),H l=none->ps.length=ks.length->(∀(i:Nat) (p:Addr) (k:Int×Int),ps[i]?=some p->ks[i]?=some k->H p=some (.tup [.int k.1,.int k.2]))->Q (.ref l) (upd H l (.lst (ps.map V.ref)))
theorem Wb:∀(ps:List Addr),qD (ps.map V.ref) (ps.map Value.ref)
 | []=>.nil
 | p::ps=>.cons rfl (Wb ps)
theorem VO (hc:X.calm=true):Qr X (.builtin "sorted") uV:=by
 intro pins s σ H xs us Q I r h
 obtain⟨a,kvs,ks,rfl,ea,eks,hr,hz,q⟩:=h
 obtain⟨u,rfl,ru⟩:=QU r
 cases ru
 obtain⟨_,hsys,ys,pr,o,es,ep,eo,ex,dat,ents,_⟩:=(show qI X.prog X.w H s.heap a (.dT kvs) from I.hok a _ ea)
 have ly:kvs.length=ys.length:=Paired.length pr
 have lk:kvs.length=ks.length:=by simpa using congrArg List.length eks
 have se:es.size=ys.length:=by rw[<-Array.length_toList,ents,List.length_map]
 have key:∀i (hi:i < es.size),es[i].key=.ref ((ys.map (·.2.1)).getD i 0):=λi hi=>by
   have e1:es.toList[i]?=some es[i]:=by simp [hi]
   have hy:i < ys.length:=by omega
   rw[ents,List.getElem?_map,List.getElem?_eq_getElem hy]at e1
   have e2:=(Option.some.inj e1).symm
   rw[e2]
   show Value.ref ys[i].2.1=_
   simp [hy]
 have tup:∀(i:Nat) (p:Addr) (k:Int×Int),(ys.map (·.2.1))[i]?=some p->ks[i]?=some k->H p=some (.tup [.int k.1,.int k.2]):=λi p k e1 e2=>by
   rw[List.getElem?_map]at e1
   cases ey:ys[i]? with
   | none=>rw[ey]at e1;cases e1
   | some y=>
     rw[ey]at e1
     have ep':y.2.1=p:=Option.some.inj e1
     have hi:i < kvs.length:=by
       have:=(List.getElem?_eq_some_iff.mp ey).1
       omega
     obtain⟨y',ey',g1,g2,_⟩:=Yf pr (List.getElem?_eq_getElem hi)
     rw[ey]at ey'
     cases ey'
     have ek:kvs[i].1=zE k:=by
       have h1:(kvs.map (·.1))[i]?=some kvs[i].1:=by rw[List.getElem?_map,List.getElem?_eq_getElem hi];rfl
       rw[eks,List.getElem?_map,e2]at h1
       exact(Option.some.inj h1).symm
     rw[ek,ep']at g2
     exact g2
 have hh:X.A.in1.handled=none:=I.ok.hd hc
 refine Calls.call_function_entry kind_sorted plain_sorted entry_sorted (args_sorted1 _) ?_
 unfold Builtin.«sorted»
 refine wpAny_bind (m:=checkCount "sorted" 1 1 _) (wpAny_pure ?_)
 refine wpAny_bind (kdu_collect (x8 (es:=es) (ep:=ep) hsys) hh ⟨o,eo,ex,dat⟩ (by rw[se,sizeLine_eq];omega) λh1 tk acc k1 it=>?_)
 have eacc:acc.toList=(ys.map (·.2.1)).map Value.ref:=by
   refine List.ext_getElem? λi=>?_
   by_cases hi:i < es.size
   . have ha:i < acc.size:=by rw[it.1];exact hi
     have e1:acc[i]?=some acc[i]:=Array.getElem?_eq_getElem ha
     obtain⟨h',e2⟩:=it.2 i _ e1
     rw[Array.getElem?_toList,e1,e2,key i hi,List.getElem?_map]
     have hy:i < (ys.map (·.2.1)).length:=by rw[List.length_map];omega
     rw[List.getElem?_eq_getElem hy]
     simp [List.getD_eq_getElem?_getD,List.getElem?_eq_getElem hy]
   . rw[List.getElem?_eq_none (by rw[Array.length_toList,it.1];omega),List.getElem?_eq_none (by rw[List.length_map,List.length_map];omega)]
 rw[eacc]
 generalize hps:ys.map (·.2.1)=ps at eacc tup key
 have lp:ps.length=ks.length:=by rw[<-hps,List.length_map];omega
 refine wpAny_bind (wpAny_newList ?_)
 have I1:qx X pins σ H {s with heap:=h1,toks:=tk}:=I.kept (t':=tk) k1
 show wpAny _ _ _ _ _ {s with heap:=h1.push (seqObj "list" (ps.map Value.ref).toArray 0),toks:=tk}
 have oL:(h1.push (seqObj "list" (ps.map Value.ref).toArray 0)).get? h1.objs.size=some (seqObj "list" (ps.map Value.ref).toArray 0):=Heap.get?_push_size _ rfl
 have pa:∀(i:Nat) (v:Value) (k:Int×Int),(ps.map Value.ref)[i]?=some v->ks[i]?=some k->Jy (h1.push (seqObj "list" (ps.map Value.ref).toArray 0)) v k:=λi v k e1 e2=>by
   rw[List.getElem?_map]at e1
   cases ep1:ps[i]? with
   | none=>rw[ep1]at e1;cases e1
   | some p=>
     rw[ep1]at e1
     obtain rfl:=(Option.some.inj e1).symm
     obtain⟨its,rv,⟨ob,eb,cb,nb,db⟩,_⟩:=I1.tuple (.of (tup i p k ep1 e2):SqT X.K H p _)
     cases rv with
     | cons r1 rv=>
       cases rv with
       | cons r2 rv=>
         cases rv
         obtain⟨t1,rfl⟩:=r1
         obtain⟨t2,rfl⟩:=r2
         exact⟨p,ob,nb,t1,t2,rfl,Heap.get?_push_of_some _ eb,cb,db⟩
 refine wpAny_bind (wpAny_holding (wpAny_call_entry slot_list_sort ⟨_,oL,rfl⟩ entry_list_sort (UW oL (by rw[List.length_map];exact lp) pa hr (by rw[List.length_map];omega) ⟨_,rfl,?_⟩) (args_list_sort _)))
 refine wpAny_pure ⟨_,rfl,?_⟩
 have lne:∀b o,h1.get? b=some o->b≠h1.objs.size:=λb o e=>Nat.ne_of_lt (Heap.lt_size e)
 have kf:∀b o,h1.get? b=some o->(sortedHeap (h1.push (seqObj "list" (ps.map Value.ref).toArray 0)) h1.objs.size (ps.map Value.ref) (ps.map Value.ref).toArray).get? b=some o:=λb o e=>by
   unfold sortedHeap
   rw[Heap.get?_update_other _ _ (Ne.symm (lne b o e))]
   exact Heap.get?_push_of_some _ (Heap.get?_push_of_some _ ((Heap.get?_update_other _ _ (Ne.symm (lne b o e))).trans (Heap.get?_push_of_some _ e)))
 obtain⟨c2,o2⟩:∃c,((h1.push (seqObj "list" (ps.map Value.ref).toArray 0)).update h1.objs.size (Obj.mapSeq λ_=>#[])).get? h1.objs.size=some (seqObj "list" #[] c):=⟨_,get?_update_seq oL (λ_=>#[])⟩
 obtain⟨c3,o3⟩:∃c,(sortedHeap (h1.push (seqObj "list" (ps.map Value.ref).toArray 0)) h1.objs.size (ps.map Value.ref) (ps.map Value.ref).toArray).get? h1.objs.size=some (seqObj "list" (ps.map Value.ref).toArray c):=
   ⟨_,get?_update_seq (Heap.get?_push_of_some _ (Heap.get?_push_of_some _ o2)) (λ_=>(ps.map Value.ref).toArray)⟩
 refine⟨.ref h1.objs.size,_,I1.laid (t':=tk) (o:=.lst (ps.map V.ref)) kf (Nat.le_refl _) ⟨by rw[List.length_map,lp,<-lk];exact Nat.le_of_lt (ql hz),_,c3,Wb ps,o3⟩,rfl,?_⟩
 exact q _ ps (I1.hok.fresh (Nat.le_refl _)) lp tup
end
end L2
set_option Elab.async false
set_option linter.all false
set_option maxRecDepth 100000
set_option maxHeartbeats 4000000
namespace L2
open PySem PySem.Spec PySem.W PyProof.Rows
section
variable {X:Cx}
def RD:V->Option Int->Option Int->Hp->VK->Prop:=λx lo hi H Q=>∃(z:Str) (j:Int),x=.str z/\lo=none/\hi=some j/\z.length<=1000/\Q (.str (Txt.slice z none (some j))) H
theorem kx:Ri X RD:=by
 intro pins s σ H x v vl vu lo hi sl Q I rx hs pl pu h
 obtain⟨z,j,rfl,rfl,rfl,hz,q⟩:=h
 obtain⟨t,rfl⟩:=rx
 refine⟨"str",_,PySem.F.slot_str_getitem.lookup,typeIs_str _ _ _,?_⟩
 cases pl
 cases pu
 exact wpAny_getItem_str_slice (l:=none) (u:=some (j,_)) (st:=none) hs rfl (post_val_or_str ⟨Nat.le_trans (Txt.slice_le z none (some j)) (Nat.le_of_lt (ql hz)),λt' k=>⟨.str _,H,I.tok k,⟨t',rfl⟩,q⟩⟩)
theorem Jl (z:Str) (j:Nat):(Txt.slice z none (some (j:Int))).cps.toList=z.cps.toList.take j:=by
 have hl:z.cps.toList.length=z.length:=Array.length_toList
 have idx:Builtin.Str.strSliceIndices none (some (j:Int)) 1 z.length=(List.range (min j z.length)).map (0+·):=by
   have e:Builtin.Str.strSliceIndices none (some (j:Int)) 1 z.length=sliceRange ((0:Nat):Int) ((min j z.length:Nat):Int) 1:=by
     unfold Builtin.Str.strSliceIndices
     simp only[show (1:Int) > 0 by decide,if_true,show ¬((j:Int) < 0) by omega,if_false]
     congr 1
     omega
   rw[e,sliceRange_one]
   rfl
 unfold Txt.slice
 rw[idx]
 split
 . rename_i h
   have hm:min j z.length=z.length:=by simpa using h
   rw[List.take_of_length_le]
   omega
 . rw[pick_run]
   show (z.cps.toList.drop 0).take (min j z.length)=_
   rw[List.drop_zero]
   by_cases hj:j<=z.length
   . rw[Nat.min_eq_left hj]
   . rw[Nat.min_eq_right (by omega),List.take_of_length_le (by omega),List.take_of_length_le (by omega)]
def uc (n:Nat):List V:=(List.range n).map λi=>V.int (i:Nat)
def tLr (te:TE):TE:=λσ H Q=>te σ H λx H1=>∃n:Nat,x=.int n/\n<=1000/\∀l,H1 l=none->Q (.ref l) (upd H1 l (.lst (uc n)))
theorem xM {n:Nat} {acc:Array Value} (h:ItemsOf (λi v=>∃t,v=.int (0+i*1) t) acc n):qD (uc n) acc.toList:=by
 obtain⟨hz,hv⟩:=h
 refine va _ _ (by simp [uc,hz]) λi x u h1 h2=>?_
 have h2':acc[i]?=some u:=by simpa using h2
 obtain⟨t,rfl⟩:=hv i u h2'
 have hi:i < n:=by
   have:=(Array.getElem?_eq_some_iff.mp h2').1
   omega
 unfold uc at h1
 rw[List.getElem?_map,List.getElem?_range hi]at h1
 obtain rfl:=(Option.some.inj h1).symm
 refine⟨t,?_⟩
 congr 1
 omega
variable {e:Expr} {te:TE} {p1 p3 pos1 pos3:Pos}
theorem GD (hc:X.calm=true) (g1:Gl X "list") (m1:X.mg "list"=none) (g3:Gl X "range") (m3:X.mg "range"=none) (ha:JE X e te) (hs:starEach [e] X.env=[(false,eval e X.env)]:=by rfl) (hs2:starEach [.Call (.Name "range" p3) [e] [] pos3] X.env=[(false,eval (.Call (.Name "range" p3) [e] [] pos3) X.env)]:=by rfl):JE X (.Call (.Name "list" p1) [.Call (.Name "range" p3) [e] [] pos3] [] pos1) (tLr te):=.of (by
 have ha:=ha.to
 intro pins s σ H Q I h
 refine Call_ (Q4 I g1 m1 boot_list (PyProof.Rows.callWith_type1 (ke hs2 ?_) (by rw[hs2];rfl) rfl))
 refine Call_ (Q4 I g3 m3 boot_range (PyProof.Rows.callWith_type1 (ke hs (jg (ha pins s σ H _ I h) λu s1 ⟨x,H1,I1,r1,q1⟩=>?_)) (by rw[hs];rfl) rfl))
 obtain⟨n,rfl,hn,q⟩:=q1
 obtain⟨t,rfl⟩:=r1
 refine call_range_1 ?_
 refine call_list_range (n:=n) (I1.ok.hd hc) (IsRange.new ..) (small_one (by omega) (by omega) (by omega) (by omega)) (Ug n) (by omega) λh' tk acc' c' kp e hi=>?_
 have s1z:s1.heap.objs.size<=(s1.heap.push ({cls:=.type "range",data:=.fields #[.int 0 s1.toks,.int n t,.int 1 (s1.toks+1)]}:Obj)).objs.size:=by
   rw[Heap.size_push]
   omega
 exact⟨.ref _,_,I1.laid (t':=tk) (o:=.lst (uc n)) (λb o eb=>kp b o (Heap.get?_push_of_some _ eb)) s1z ⟨by simp only[uc,List.length_map,List.length_range];exact Nat.le_of_lt (ql hn),acc'.toList,c',xM hi,by simpa using e⟩,rfl,q _ (I1.hok.fresh s1z)⟩)
theorem vG (hc:X.calm=true):Qr X (.type "set") (λxs H Q=>∃(p:Addr) (ns:List Int),xs=[.ref p]/\SqL X.K H p (ns.map V.int)/\ns.length<=1000/\∀l S,H l=none->Q (.ref l) (upd H l (.set S (firstMet (λi=>ns.getD i 0) ns.length).length))):=by
 intro pins s σ H xs us Q I r h
 obtain⟨p,ns,rfl,hq,hz,q⟩:=h
 obtain⟨u,rfl,ru⟩:=QU r
 cases ru
 obtain⟨its,rv,pl,_⟩:=I.list hq
 have hl:=rv.length
 rw[List.length_map]at hl
 have hsz:its.toArray.size=ns.length:=by rw[List.size_toArray,<-hl]
 refine call_set_list (ns:=ns) (I.ok.hd hc) pl.isList (by simpa using VF rv) (by rw[hsz];show ns.length+1 < 4096;omega) λh' tk so kp=>?_
 rw[hsz]at so
 exact⟨.ref s.heap.objs.size,_,I.laid (t':=tk) (o:=.set _ _) (λb o e=>kp b o (Heap.lt_size e) e) (Nat.le_refl _) so,rfl,q _ _ (I.hok.fresh (Nat.le_refl _))⟩
theorem WV:Qr X (.builtin "len") (λxs H Q=>∃a S n,xs=[V.ref a]/\H a=some (.set S n)/\Q (.int (n:Nat)) H):=by
 intro pins s σ H xs us Q I r h
 obtain⟨a,S,n,rfl,ea,q⟩:=h
 obtain⟨u,rfl,ru⟩:=QU r
 cases ru
 obtain⟨o,es,ep,t,e1,e2,e3,_,_,b,f,rfl⟩:=(show qI X.prog X.w H s.heap a (.set S n) from I.hok a _ ea)
 refine call_len_set e1 e2 e3 f (by have:es.size < 4096:=b;omega) ⟨.int _,H,I.tok _,⟨_,rfl⟩,q⟩
end
end L2
set_option Elab.async false
set_option linter.all false
set_option maxRecDepth 100000
set_option maxHeartbeats 4000000
namespace L2
open PySem PySem.Spec PyProof.Rows
def G4 (K:PySem.W.Frag) (a:Addr):It:=⟨λi H=>∃xs x,SqL K H a xs/\xs[i]?=some x,
 λi H v H'=>∃p,H p=none/\v=.ref p/\∀xs x,SqL K H a xs->xs[i]?=some x->H'=upd H p (.tup [.int (i:Nat),x]),
 λi H=>∃xs,SqL K H a xs/\xs.length<=i⟩
theorem US {P:Program} {w:World} {K:PySem.W.Frag} {elts:List Expr} {x1:Nat} {tpos:Pos} (a e it:Addr) (hne:e≠it):
   VQ P w K (.Tuple elts x1 tpos) (G4 K a) [e,it] e (λi h=>(∃old,IsEnum h e it i old)/\h.IsListIter it a i) where
 mem:=by simp
 obj:=λi h st c hc=>by
   obtain⟨⟨old,he⟩,⟨o1,e1,c1,d1⟩⟩:=st
   simp only[List.mem_cons,List.mem_nil_iff,or_false]at hc
   rcases hc with rfl | rfl
   . exact⟨_,he,λv z=>by cases z⟩
   . exact⟨o1,e1,λv z=>by rw[d1]at z;cases z⟩
 keep:=λi h h' st k=>by
   obtain⟨⟨old,he⟩,h1⟩:=st
   exact⟨⟨old,k e (by simp) _ he⟩,h1.at λo e=>k it (by simp) o e⟩
 item:=by
   intro X hP hw hK hc i pins s σ H E I hf st hg
   subst hP hw hK
   obtain⟨⟨old,he⟩,h1⟩:=st
   obtain⟨xs,x,qa,hx⟩:=hg
   obtain⟨its,rv,p,_⟩:=I.list qa
   obtain⟨u,hu,ru⟩:=rv.get hx
   refine wpAny_pyNext_enum_item he h1 p.isList (x:=u) (by simpa using hu) hne λh' z1 z2 z3 z4 kk=>⟨_,rfl,?_⟩
   refine wpAny_letOwnedTupleGo_enum z1 λh'' z1' sb=>?_
   have nT:∀c o,s.heap.get? c=some o->s.heap.objs.size≠c:=λc o e=>Nat.ne_of_gt (Heap.lt_size e)
   have kT:∀c o,c≠e->h'.get? c=some o->h''.get? c=some o:=λc o hc e=>(sb.2 c hc).trans e
   have I1:qx X pins σ (upd H s.heap.objs.size (.tup [.int (i:Nat),x])) {s with heap:=h'',toks:=s.toks+1}:=I.turnLaid (L:=[e,it]) (t':=s.toks+1)
     (λc o hc e=>kT c o (λz=>hc (by simp [z])) (kk c o (λz=>hc (by simp [z])) (λz=>hc (by simp [z])) e)) hf (Nat.le_refl _)
     ⟨by show 2<=sizeLine;decide,[.int i s.toks,u],.cons ⟨_,rfl⟩ (.cons ru .nil),⟨_,kT _ _ (nT _ _ he) z3,rfl,_,rfl⟩⟩
   refine⟨.ref s.heap.objs.size,_,I1,rfl,⟨s.heap.objs.size,I.hok.fresh (Nat.le_refl _),rfl,λxs' x' qa' hx'=>?_⟩,⟨⟨_,z1'⟩,z2.at λo e=>kT _ o (Ne.symm hne) e⟩,λc hc=>?_⟩
   . rw[I.list_inj qa' qa,hx]at hx'
     cases hx'
     rfl
   . have h0:=(hf c hc).1
     by_cases ec:c=s.heap.objs.size
     . subst ec
       obtain⟨o1,e1,_⟩:=h1
       simp only[List.mem_cons,List.mem_nil_iff,or_false]at hc
       rcases hc with e | e
       . exact absurd e (nT _ _ he)
       . exact absurd e (nT _ _ e1)
     . rw[qg ec];exact h0
 done:=by
   intro X hP hw hK hc i pins s σ H E I hf st hg
   subst hP hw hK
   obtain⟨⟨old,he⟩,h1⟩:=st
   obtain⟨xs,qa,hl⟩:=hg
   obtain⟨its,rv,p,_⟩:=I.list qa
   have l1:=rv.length
   exact wpAny_pyNext_enum_end (I.ok.hd hc) he h1 p.isList (by simp;omega) λh' kk=>⟨rfl,I.turnedL (L:=[e,it]) (t':=s.toks) (λc o hc e=>kk c o (λz=>hc (by simp [z])) e) hf⟩
 self:=λ_ _ _ _ _ st h=>let ⟨⟨_,he⟩,_⟩:=st;wpAny_pyIter_enum he h
section
variable {X:Cx} {elts:List Expr} {x1:Nat} {tpos:Pos}
def yY (K:PySem.W.Frag) (ta:TA):TI:=λσ H R=>ta σ H λvs H1=>∃a,vs=[.ref a]/\(∃xs,SqL K H1 a xs)/\R (G4 K a) H1
theorem zU {a:Expr} {ta:TA} {p pos:Pos} (hg:Gl X "enumerate") (hm:X.mg "enumerate"=none) (ha:JA X [a] ta) (hs:starEach [a] X.env=[(false,eval a X.env)]:=by rfl):JI X (.Tuple elts x1 tpos) (.Call (.Name "enumerate" p) [a] [] pos) (yY X.K ta):=.of (by
 have ha:=ha.to
 intro pins s σ H R I h
 refine Call_ (Q4 I hg hm boot_enumerate (PyProof.Rows.callWith_type1 (jg (ha pos pins s σ H _ I h) λus s1 ⟨vs,H1,I1,r1,q1⟩=>?_) (by rw[hs];rfl) rfl))
 obtain⟨l,e,⟨xs,qa⟩,q⟩:=q1
 subst e
 cases r1 with
 | cons r rr=>
   cases rr
   cases r
   obtain⟨its,rv,p,_⟩:=I1.list qa
   refine call_enumerate_list p.isList λh' z1 z2 z3 kk=>?_
   refine wpAny_pyIter_enum z1 ?_
   have I2:qx X pins σ H1 {s1 with heap:=h'}:=I1.kept (t':=s1.toks) kk
   have fr:∀c,s1.heap.objs.size<=c->ZE X pins H1 c:=λc hc=>I1.fpOk hc (I1.hok.fresh hc)
   refine⟨s1.heap.objs.size+1,[s1.heap.objs.size+1,s1.heap.objs.size],_,_,H1,rfl,I2,US l (s1.heap.objs.size+1) s1.heap.objs.size (Nat.succ_ne_self _),⟨⟨_,z1⟩,z2⟩,λc hc=>?_,q⟩
   simp only[List.mem_cons,List.mem_nil_iff,or_false]at hc
   rcases hc with e | e<;>rw[e]<;>first | exact fr _ (Nat.le_add_right _ _) | exact fr _ (Nat.le_refl _))
end
theorem QN {K:PySem.W.Frag} {a:Addr} {xs:List V} {g:TG} {tb:TS} {D:QS} {σ:St} {H:Hp} (Pv:Nat->St->Hp->Prop) (h0:Pv 0 σ H) (hl:∀i σ H,i<=xs.length->Pv i σ H->SqL K H a xs)
   (hs:∀i x σ H p,xs[i]?=some x->H p=none->Pv i σ H->g (.ref p) σ (upd H p (.tup [.int (i:Nat),x])) λσ2 H2=>tb {D with nx:=Pv (i+1),ct:=Pv (i+1),bk:=D.nx} σ2 H2) (hd:∀σ H,Pv xs.length σ H->D.nx σ H):
   ∃W:Nat->Nat->St->Hp->Prop,(∃m,W 0 m σ H)/\∀i m σ H,W i m σ H->
    ((G4 K a).stop i H/\D.nx σ H)\/((G4 K a).go i H/\∃N:St->Hp->Prop,(∀σ' H',N σ' H'->∃m',m' < m/\W (i+1) m' σ' H')/\∀x H',(G4 K a).yld i H x H'->g x σ H' λσ2 H2=>tb {D with nx:=N,ct:=N,bk:=D.nx} σ2 H2):=by
 refine⟨λi m σ H=>m=xs.length - i/\i<=xs.length/\Pv i σ H,⟨xs.length,by simp,Nat.zero_le _,h0⟩,?_⟩
 rintro i m σ H ⟨rfl,hi,p⟩
 have qa:=hl i σ H hi p
 by_cases hlt:i < xs.length
 . have ex:xs[i]?=some xs[i]:=List.getElem?_eq_getElem hlt
   refine .inr ⟨⟨xs,_,qa,ex⟩,Pv (i+1),λσ' H' p'=>⟨xs.length - (i+1),by omega,rfl,hlt,p'⟩,λx H' yl=>?_⟩
   obtain⟨pp,hp,rfl,e⟩:=yl
   rw[e xs _ qa ex]
   exact hs i _ σ H pp ex hp p
 . have e:i=xs.length:=by omega
   subst e
   exact .inl ⟨⟨xs,qa,Nat.le_refl _⟩,hd σ H p⟩
theorem JV (ns:List Nat):∀i,i<=ns.length->preSum (λj=>((ns.getD j 0:Nat):Int)) i=(((ns.take i).sum:Nat):Int)
 | 0,_=>by simp [preSum]
 | i+1,h=>by
   have hi:i < ns.length:=h
   show preSum _ i+_=_
   rw[JV ns i (Nat.le_of_lt hi),List.take_add_one,List.getElem?_eq_getElem hi,List.sum_append]
   simp [List.getD_eq_getElem?_getD,List.getElem?_eq_getElem hi]
theorem zC (ns:List Nat) (i:Nat):(ns.take i).sum<=ns.sum:=by
 have h:(ns.take i++ns.drop i).sum=ns.sum:=by rw[List.take_append_drop]
 rw[List.sum_append]at h
 omega
theorem WO (ns:List Nat) (i:Nat):ns.getD i 0<=ns.sum:=by
 have h:=zC ns (i+1)
 rw[List.take_add_one,List.sum_append]at h
 rw[List.getD_eq_getElem?_getD]
 cases e:ns[i]? with
 | none=>exact Nat.zero_le _
 | some x=>
   rw[e]at h
   simp at h ⊢
   omega
section
variable {X:Cx}
theorem Xe (hc:X.calm=true):Qr X (.builtin "sum") (λxs H Q=>∃(p:Addr) (ns:List Nat),xs=[.ref p]/\SqL X.K H p (ns.map λn=>V.int ((n:Nat):Int))/\ns.sum < 2^62/\Q (.int (ns.sum:Nat)) H):=by
 intro pins s σ H xs us Q I r h
 obtain⟨p,ns,rfl,hq,hs,q⟩:=h
 obtain⟨u,rfl,rx⟩:=QU r
 cases rx
 obtain⟨its,rv,pl,hz⟩:=I.list hq
 have hlt:p < s.heap.objs.size:=by
   obtain⟨o,n,e,_⟩:=pl
   exact Heap.lt_size e
 have hn:its.toArray.size=ns.length:=by
   have:=rv.length
   rw[List.length_map]at this
   simp only[List.size_toArray]
   omega
 have hh:X.A.in1.handled=none:=I.ok.hd hc
 refine call_sum_walk (wpAny_pyIter_list pl.isList ?_)
 refine⟨s.heap.objs.size,[s.heap.objs.size,p],[s.heap.objs.size],its.toArray.size,λi v=>its.toArray[i]?=some v,_,λj=>((ns.getD j 0:Nat):Int),rfl,Walks.list hh s.heap.objs.size p (Nat.ne_of_lt hlt) its.toArray,
   ⟨⟨_,Heap.get?_push_size _ rfl,rfl,rfl⟩,pl.isList.at λo e=>Heap.get?_push_of_some _ e⟩,?_,?_,?_,λh' tk t' hk=>?_⟩
 . intro b hb
   show b < (s.heap.push _).objs.size
   rw[Heap.size_push]
   simp only[List.mem_cons,List.mem_nil_iff,or_false]at hb
   rcases hb with e | e
   . rw[e];exact Nat.lt_succ_self _
   . rw[e];exact Nat.lt_succ_of_lt hlt
 . intro i v hP
   have hi:its[i]?=some v:=by simpa using hP
   cases e:ns[i]? with
   | none=>
     exfalso
     have h1:(ns.map λn=>V.int ((n:Nat):Int))[i]?=none:=by rw[List.getElem?_map,e];rfl
     rw[qD.none_of rv h1]at hi
     cases hi
   | some b=>
     have h1:(ns.map λn=>V.int ((n:Nat):Int))[i]?=some (V.int b):=by rw[List.getElem?_map,e];rfl
     obtain⟨u,hu,ru⟩:=rv.get h1
     rw[hi]at hu
     cases hu
     obtain⟨t,rfl⟩:=ru
     refine⟨t,?_⟩
     show Value.int b t=.int ((ns.getD i 0:Nat):Int) t
     rw[List.getD_eq_getElem?_getD,e]
     rfl
 . intro j hj
   rw[hn]at hj
   have h1:=WO ns j
   have h2:=zC ns (j+1)
   have h3:=JV ns (j+1) hj
   refine⟨⟨?_,?_⟩,⟨?_,?_⟩⟩
   . show -(2^63)<=((ns.getD j 0:Nat):Int)
     omega
   . show ((ns.getD j 0:Nat):Int) < 2^63
     omega
   . rw[h3];omega
   . rw[h3];omega
 . rw[hn,JV ns _ (Nat.le_refl _),List.take_of_length_le (Nat.le_refl _)]
   refine⟨.int (ns.sum:Nat),H,?_,⟨_,rfl⟩,q⟩
   exact I.kept (h':=h') (t':=tk) λb o e=>hk b o (by
     intro z
     have z':b=s.heap.objs.size:=by simpa using z
     exact absurd (Heap.lt_size e) (by rw[z'];exact Nat.lt_irrefl _)) (Heap.get?_push_of_some _ e)
end
end L2
set_option Elab.async false
set_option linter.all false
set_option maxRecDepth 100000
set_option maxHeartbeats 4000000
namespace L2
open PySem PySem.Spec PyProof.Rows
structure VU (fs:List Addr) (ex:List Addr) (h h':Heap):Prop where
 keep:∀b o,b∉fs->b∉ex->h.get? b=some o->h'.get? b=some o
 slot:∀b o,b∈fs->b∉ex->h.get? b=some o->∃sl,h'.get? b=some {o with slots:=sl}
def xy (T:Addr) (fl:Value) (h:Heap):Prop:=∃ts,h.get? T=some {cls:=.type "traceback",data:=.fields ts}/\ts[3]?=some fl
section
variable {M:Model} {A:Around} {E:Value->Shared->Prop} {s:Shared} {base:Heap} {env:Env} {outer:List Env} {L e:Addr} {cl head:Value} {d:Option Addr} {vs:Array Value} {had:Bool} {Q:Unit->Shared->Prop}
theorem vT (fr:A.frames=some (env::outer)) (ff:s.heap.FunFrames base (env::outer)) (fm:env.frame=some L)
   (he:s.heap.get? e=some {cls:=cl,dict:=d,data:=.fields vs}) (sz:1 < vs.size)
   (k:∀h' T,s.heap.objs.size<=T->VU (zH (env::outer)) [e] s.heap h'->h'.get? e=some {cls:=cl,dict:=d,data:=.fields (vs.setIfInBounds 1 (.ref T))}->xy T (rawInt L) h'->Q () {s with heap:=h'}):
   wpAny M A (frameOf env >>= λa=>entryPlaceOf L had >>= λpl=>EntryCells.newEntry head a .none (rawInt L) .none pl >>= λb=>setField (.ref e) 1 b) Q E s:=by
 have out:e∉zH (env::outer):=λz=>by
   obtain⟨_,o,ho,nf⟩:=ff.mem z
   rw[he]at ho
   cases ho
   exact nf vs rfl
 refine wpAny_bind (wpAny_frameOf_fun fr ff fm λh1 so=>?_)
 refine wpAny_bind (wpAny_entryPlaceOf λpl ip=>?_)
 have e1:h1.get? e=some {cls:=cl,dict:=d,data:=.fields vs}:=(so.2.1 e out).trans he
 unfold EntryCells.newEntry newFields
 refine wpAny_bind (wpAny_newObj_type ?_ (ip.sizeOk5 _ _ _ _ _))
 have ne:e≠h1.objs.size:=Nat.ne_of_lt (Heap.lt_size e1)
 refine wpAny_setField (Heap.get?_push_of_some _ e1) rfl sz (k _ h1.objs.size (Nat.le_of_eq so.1.symm) ⟨λb o n1 n2 q=>?_,λb o n1 n2 q=>?_⟩ ?_ ⟨_,(Heap.get?_update_other _ _ ne).trans (Heap.get?_push_size _ rfl),?_⟩)
 . have n3:b≠e:=λz=>n2 (by simp [z])
   rw[Heap.get?_update_other _ _ (Ne.symm n3)]
   exact Heap.get?_push_of_some _ ((so.2.1 b n1).trans q)
 . have n3:b≠e:=λz=>n2 (by simp [z])
   obtain⟨sl,r⟩:=so.2.2 b o q
   exact⟨sl,by rw[Heap.get?_update_other _ _ (Ne.symm n3)];exact Heap.get?_push_of_some _ r⟩
 . exact Heap.get?_update_self _ (Heap.get?_push_of_some _ e1) rfl
 . rcases ip with rfl | ⟨_,_,_,_,_,_,_,rfl⟩<;>simp
theorem WD (fr:A.frames=some (env::outer)) (ff:s.heap.FunFrames base (env::outer)) (fm:env.frame=some L)
   (he:s.heap.get? e=some {cls:=cl,dict:=d,data:=.fields vs}) (h1:vs[1]?=some .none)
   (k:∀h' T,s.heap.objs.size<=T->VU (zH (env::outer)) [e] s.heap h'->h'.get? e=some {cls:=cl,dict:=d,data:=.fields (vs.setIfInBounds 1 (.ref T))}->xy T (rawInt L) h'->Q () {s with heap:=h'}):
   wpAny M A (noteFrame (.ref e) env) Q E s:=by
 unfold noteFrame
 simp only[fm]
 refine wpAny_bind (wpAny_field he rfl h1 ?_)
 rw[if_neg (show ¬((Value.none != Value.none)=true) by decide)]
 exact vT fr ff fm he (Array.getElem?_eq_some_iff.mp h1).1 k
theorem vf {T:Addr} (fm:env.frame=some L) (he:s.heap.get? e=some {cls:=cl,dict:=d,data:=.fields vs}) (h1:vs[1]?=some (.ref T)) (st:xy T (rawInt L) s.heap) (k:Q () s):
   wpAny M A (noteFrame (.ref e) env) Q E s:=by
 obtain⟨ts,ht,h3⟩:=st
 unfold noteFrame
 simp only[fm]
 refine wpAny_bind (wpAny_field he rfl h1 ?_)
 rw[if_pos (show (Value.ref T != Value.none)=true by simp)]
 refine wpAny_bind (wpAny_field ht rfl h3 ?_)
 rw[if_pos (show (rawInt L==rawInt L)=true by simp [rawInt])]
 exact wpAny_pure k
theorem XE {T:Addr} (fr:A.frames=some (env::outer)) (ff:s.heap.FunFrames base (env::outer)) (fm:env.frame=some L)
   (he:s.heap.get? e=some {cls:=cl,dict:=d,data:=.fields vs}) (h1:vs[1]?=some (.ref T)) (st:xy T .none s.heap) (ne:T≠e)
   (k:∀h' T',s.heap.objs.size<=T'->VU (zH (env::outer)) [e,T] s.heap h'->(∃o,h'.get? T=some o)->h'.get? e=some {cls:=cl,dict:=d,data:=.fields (vs.setIfInBounds 1 (.ref T'))}->xy T' (rawInt L) h'->Q () {s with heap:=h'}):
   wpAny M A (noteFrame (.ref e) env) Q E s:=by
 obtain⟨ts,ht,h3⟩:=st
 unfold noteFrame
 simp only[fm]
 refine wpAny_bind (wpAny_field he rfl h1 ?_)
 rw[if_pos (show (Value.ref T != Value.none)=true by simp)]
 refine wpAny_bind (wpAny_field ht rfl h3 ?_)
 rw[if_neg (show ¬((Value.none==rawInt L)=true) by simp [rawInt])]
 refine wpAny_bind (wpAny_setField ht rfl (Array.getElem?_eq_some_iff.mp h3).1 ?_)
 have oth:∀b,b≠T->(s.heap.update T (Obj.mapFields (·.setIfInBounds 3 Value.none))).get? b=s.heap.get? b:=λb n=>Heap.get?_update_other _ _ (Ne.symm n)
 have tno:T∉zH (env::outer):=λz=>by
   obtain⟨_,o,ho,nf⟩:=ff.mem z
   rw[ht]at ho
   cases ho
   exact nf ts rfl
 refine vT fr (ff.of_keeps λb o hb nf=>⟨o,(oth b λz=>?_).trans hb,rfl⟩) fm ((oth e (Ne.symm ne)).trans he) (Array.getElem?_eq_some_iff.mp h1).1 λh' T' hT F q1 q2=>?_
 . rw[z,ht]at hb
   cases hb
   exact nf ts rfl
 . have upT:=Heap.get?_update_self (Obj.mapFields (·.setIfInBounds 3 Value.none)) ht rfl
   refine k h' T' (Nat.le_trans (Nat.le_of_eq (by simp)) hT) ⟨λb o n1 n2 q=>?_,λb o n1 n2 q=>?_⟩ ⟨_,F.keep T _ tno (by simp [ne]) upT⟩ q1 q2
   . simp only[List.mem_cons,List.not_mem_nil,or_false,not_or]at n2
     exact F.keep b o n1 (by simp [n2.1]) ((oth b n2.2).trans q)
   . simp only[List.mem_cons,List.not_mem_nil,or_false,not_or]at n2
     exact F.slot b o n1 (by simp [n2.1]) ((oth b n2.2).trans q)
theorem Ju {T:Addr} {fl:Value} {fs:List Addr} (he:s.heap.get? e=some {cls:=cl,dict:=d,data:=.fields vs}) (h1:vs[1]?=some (.ref T)) (st:xy T fl s.heap)
   (k:∀h',VU fs [T] s.heap h'->xy T .none h'->Q () {s with heap:=h'}):wpAny M A (setFlight (.ref e) none) Q E s:=by
 obtain⟨ts,ht,h3⟩:=st
 have lt:=(Array.getElem?_eq_some_iff.mp h3).1
 refine wpAny_setFlight_none he rfl h1 ht rfl lt (k _ ⟨λb o _ n q=>?_,λb o _ n q=>⟨o.slots,?_⟩⟩ ⟨_,Heap.get?_update_self _ ht rfl,by simp [lt]⟩)
 all_goals
   rw[Heap.get?_update_other _ _ λz=>n (by simp [z])]
   exact q
end
structure YC (ex:List Addr) (n:Nat) (H H':Hp):Prop where
 ext:∀b∈ex,∃φ,H b=some (.ext φ)
 same:∀b o,b∉ex->H b=some o->H' b=some o
 no:∀b,b < n->H b=none->H' b=none
section
variable {P:Program} {w:World} {fs ex:List Addr} {H H':Hp} {h h':Heap}
theorem YC.out {n:Nat} (t:YC ex n H H') {b:Addr} {o:HO} (q:H b=some o) (hn:∀φ,o≠.ext φ):b∉ex:=λz=>by
 obtain⟨φ,e⟩:=t.ext b z
 rw[q]at e
 cases e
 exact hn φ rfl
theorem YC.out0 {n:Nat} (t:YC ex n H H') {b:Addr} (q:H b=none):b∉ex:=λz=>by
 obtain⟨φ,e⟩:=t.ext b z
 rw[q]at e
 cases e
theorem Un.fly (F:VU fs ex h h') (t:YC ex h.objs.size H H') (th:∀b∈ex,∃o,h'.get? b=some o):Un fs [] H H' h h' where
 keep b o q n hf _:=F.keep b o hf (t.out0 n) q
 slot b o q n hf _:=F.slot b o hf (t.out0 n) q
 free b o q n _:=t.no b (Heap.lt_size q) n
 there b o q _:=by
   by_cases hb:b∈ex
   . exact th b hb
   . by_cases hf:b∈fs
     . obtain⟨sl,r⟩:=F.slot b o hf hb q
       exact⟨_,r⟩
     . exact⟨o,F.keep b o hf hb q⟩
 tups b xs q:=t.same b _ (t.out q (by intro φ z;cases z)) q
 frzs b o u q:=t.same b _ (t.out q (by intro φ z;cases z)) q
 tbls b ps q:=⟨#[],by simpa using t.same b _ (t.out q (by intro φ z;cases z)) q⟩
theorem JJ.fly (ok:JJ P w H h) (F:VU fs ex h h') (t:YC ex h.objs.size H H') (fr:∀b∈fs,H b=none) (new:∀b o,H' b=some o->(H b=none\/b∈ex)->qI P w H' h' b o):JJ P w H' h':=λb o q=>by
 by_cases hb:b∈ex
 . exact new b o q (.inr hb)
 cases e:H b with
 | none=>exact new b o q (.inl e)
 | some u=>
   have r:=t.same b u hb e
   rw[q]at r
   cases r
   refine(ok b o e).stay (λc v hc g=>F.keep c v ?_ ?_ g) (λc z=>t.same c _ (t.out z (by intro φ z;cases z)) z) (λc xs z=>t.same c _ (t.out z (by intro φ z;cases z)) z) (λc o z=>t.same c _ (t.out z (by intro φ z;cases z)) z)
   . intro z
     have n:=fr c z
     rcases hc with rfl | hc
     . rw[e]at n;cases n
     . rw[hc]at n;cases n
   . rcases hc with rfl | hc
     . exact hb
     . exact t.out hc (by intro φ z;cases z)
end
end L2
namespace L2
open PySem PySem.Spec PyProof.Rows
def YF (T:Addr) (fl:Value):HO:=.ext (xy T fl)
theorem Zv {P:Program} {w:World} {H:Hp} {h:Heap} {T:Addr} {fl:Value} (x:xy T fl h):qI P w H h T (YF T fl):=by
 obtain⟨ts,q,z⟩:=x
 exact⟨⟨ts,q,z⟩,⟨_,q⟩,λh1 h2 ⟨ts',q',z'⟩ k=>⟨ts',k _ q',z'⟩⟩
def QT (P:Program) (w:World):YL:=λouter H s E e s'=>∃a C dx T Hx H',e=.ref a/\s'.os=s.os/\AllBare s'.gens/\Un (zH outer) [] H H' s.heap s'.heap/\JJ P w H' s'.heap/\
 H' a=some (jU a C dx (.ref T))/\H' T=some (YF T .none)/\Hx T=none/\Hx a=some (QO a C dx)/\(∀b o,b≠a->Hx b=some o->H' b=some o)/\E (.ref C) (some dx) Hx
def XW (X:Cx) (E:XK):Prop:=∀(pins:List (Addr×Obj)) (σ:St) (H:Hp) (s:Shared) (a C dx:Addr),qx X pins σ H s->H a=some (QO a C dx)->E (.ref C) (some dx) H->X.xe (.ref a) s
section
variable {X:Cx} {pins:List (Addr×Obj)} {σ:St} {H H':Hp} {s:Shared} {h':Heap} {ex:List Addr}
theorem qx.flown (I:qx X pins σ H s) (F:VU (zH X.stack) ex s.heap h') (t:YC ex s.heap.objs.size H H') (th:∀b∈ex,∃o,h'.get? b=some o)
   (new:∀b o,H' b=some o->(H b=none\/b∈ex)->qI X.prog X.w H' h' b o):qx X pins σ H' {s with heap:=h'}:=
 I.call (g':=s.gens) (t':=s.toks) (d':=s.drawn) (ch:=[]) (Un.fly F t th) (JJ.fly I.hok F t I.stkFree new) I.bare λb z=>absurd z (by simp)
theorem VU.then {fs ex:List Addr} {h h1 h2:Heap} {T:Addr} (F:VU fs ex h h1) (G:VU fs [T] h1 h2) (hT:h.objs.size<=T):VU fs ex h h2 where
 keep b o n1 n2 q:=G.keep b o n1 (by simp;exact Nat.ne_of_lt (Nat.lt_of_lt_of_le (Heap.lt_size q) hT)) (F.keep b o n1 n2 q)
 slot b o n1 n2 q:=by
   obtain⟨sl,r⟩:=F.slot b o n1 n2 q
   obtain⟨sl',r'⟩:=G.slot b _ n1 (by simp;exact Nat.ne_of_lt (Nat.lt_of_lt_of_le (Heap.lt_size q) hT)) r
   exact⟨sl',r'⟩
end
section
variable {P:Program} {w:World} {K:PySem.W.Frag} {mg:Str->Option Value} {base:Heap} {N:List Str} {qual:Str} {scope:Scope} {f:Addr} {cd:Value} {A:Around} {outer:List Env} {s₀:Shared} {H₀:Hp} {E:XK}
theorem Je:XW (Qc (QT P w) P w K mg base N qual scope f cd A outer s₀ H₀ E) E:=by
 intro pins σ H s a C dx I ha hE
 obtain⟨⟨fl,he,hz⟩,_,_⟩:=(show qI P w H s.heap a (jU a C dx .none) from I.hok a _ ha)
 have fr:=I.ok.frames
 have ff:=I.stack
 show wpAny _ _ (leaving _ _) _ _ s
 unfold leaving
 refine wpAny_bind (WD fr ff rfl he hz λh1 T hT F q1 q2=>?_)
 have lt:=(Array.getElem?_eq_some_iff.mp hz).1
 have g1:(fl.setIfInBounds 1 (Value.ref T))[1]?=some (.ref T):=by simp [lt]
 have nT:T≠a:=λz=>by
   obtain⟨ts,q,_⟩:=q2
   rw[z,q1]at q
   cases q
 refine Ju (fs:=zH (Qc (QT P w) P w K mg base N qual scope f cd A outer s₀ H₀ E).stack) q1 g1 q2 λh2 F2 st=>?_
 have anf:a∉zH (Qc (QT P w) P w K mg base N qual scope f cd A outer s₀ H₀ E).stack:=λz=>by
   have:=I.stkFree a z
   rw[ha]at this
   cases this
 have hTn:H T=none:=I.hok.fresh hT
 have q3:=F2.keep a _ anf (by simp [Ne.symm nT]) q1
 have I2:=I.flown (H':=upd (upd H a (jU a C dx (.ref T))) T (YF T .none)) (VU.then F F2 hT) ⟨λb hb=>by cases List.mem_singleton.mp hb;exact⟨_,ha⟩,λb o hb q=>by
     rw[qg (qt q hTn),qg λz=>hb (by simp [z])];exact q,λb hb q=>by
     rw[qg (Nat.ne_of_lt (Nat.lt_of_lt_of_le hb hT)),qg λz=>by rw[z,ha]at q;cases q];exact q⟩ (λb hb=>by cases List.mem_singleton.mp hb;exact⟨_,q3⟩) λb o q hb=>by
   by_cases e1:b=T
   . subst e1
     rw[qd]at q
     cases q
     exact Zv st
   . rw[qg e1]at q
     by_cases e2:b=a
     . subst e2
       rw[qd]at q
       cases q
       exact Zi ⟨_,q3,g1⟩
     . rw[qg e2]at q
       rcases hb with hb | hb
       . rw[q]at hb;cases hb
       . exact absurd (List.mem_singleton.mp hb) e2
 exact⟨a,C,dx,T,H,_,rfl,I2.os,I2.bare,I2.base,I2.hok,by rw[qg (Ne.symm nT),qd],qd ..,hTn,ha,λb o nb q=>by rw[qg (qt q hTn),qg nb];exact q,hE⟩
theorem QD:Qh (QT P w) (Qc (QT P w) P w K mg base N qual scope f cd A outer s₀ H₀ E) E:=by
 intro pins σ H s e s' I0 hc
 obtain⟨a,C,dx,T,Hx,H1,rfl,os,bare,un,hok,ha,ht,hxT,hxa,hx,hE⟩:=hc
 have I:qx (Qc (QT P w) P w K mg base N qual scope f cd A outer s₀ H₀ E) pins σ H1 s':=I0.call' os un hok bare λb z=>absurd z (by simp)
 obtain⟨⟨fl,he,hz⟩,_,_⟩:=(show qI P w H1 s'.heap a (jU a C dx (.ref T)) from I.hok a _ ha)
 obtain⟨st0,_,_⟩:=(show qI P w H1 s'.heap T (YF T .none) from I.hok T _ ht)
 have fr:=I.ok.frames
 have ff:=I.stack
 have nT0:T≠a:=λz=>by
   obtain⟨ts,q,_⟩:=st0
   rw[z,he]at q
   cases q
 show wpAny _ _ (leaving _ _) _ _ s'
 unfold leaving
 refine wpAny_bind (XE fr ff rfl he hz st0 nT0 λh1 T' hT F tT q1 q2=>?_)
 have lt:=(Array.getElem?_eq_some_iff.mp hz).1
 have g1:(fl.setIfInBounds 1 (Value.ref T'))[1]?=some (.ref T'):=by simp [lt]
 have nT:T'≠a:=λz=>by
   obtain⟨ts,q,_⟩:=q2
   rw[z,q1]at q
   cases q
 refine Ju (fs:=zH (Qc (QT P w) P w K mg base N qual scope f cd A outer s₀ H₀ E).stack) q1 g1 q2 λh2 F2 st=>?_
 have anf:∀b o,H1 b=some o->b∉zH (Qc (QT P w) P w K mg base N qual scope f cd A outer s₀ H₀ E).stack:=λb o q z=>by
   have:=I.stkFree b z
   rw[q]at this
   cases this
 have hTn:H1 T'=none:=I.hok.fresh hT
 have nTT:T'≠T:=(qt ht hTn).symm
 have q3:=F2.keep a _ (anf a _ ha) (by simp [Ne.symm nT]) q1
 obtain⟨oT,hoT⟩:=tT
 have q4:=F2.keep T _ (anf T _ ht) (by simp [Ne.symm nTT]) hoT
 have I2:=I.flown (H':=upd (upd (upd H1 a (jU a C dx (.ref T'))) T (.ext λh=>∃o,h.get? T=some o)) T' (YF T' .none)) (VU.then F F2 hT) ⟨λb hb=>by
     simp only[List.mem_cons,List.not_mem_nil,or_false]at hb
     rcases hb with rfl | rfl
     . exact⟨_,ha⟩
     . exact⟨_,ht⟩,λb o hb q=>by
     simp only[List.mem_cons,List.not_mem_nil,or_false,not_or]at hb
     rw[qg (qt q hTn),qg hb.2,qg hb.1];exact q,λb hb q=>by
     rw[qg (Nat.ne_of_lt (Nat.lt_of_lt_of_le hb hT)),qg (λz=>by rw[z,ht]at q;cases q),qg (λz=>by rw[z,ha]at q;cases q)];exact q⟩ (λb hb=>by
     simp only[List.mem_cons,List.not_mem_nil,or_false]at hb
     rcases hb with rfl | rfl
     . exact⟨_,q3⟩
     . exact⟨_,q4⟩) λb o q hb=>by
   by_cases e1:b=T'
   . subst e1
     rw[qd]at q
     cases q
     exact Zv st
   . rw[qg e1]at q
     by_cases e2:b=T
     . subst e2
       rw[qd]at q
       cases q
       exact⟨⟨_,q4⟩,⟨_,q4⟩,λh1 h2 ⟨u,z⟩ k=>⟨u,k u z⟩⟩
     . rw[qg e2]at q
       by_cases e3:b=a
       . subst e3
         rw[qd]at q
         cases q
         exact Zi ⟨_,q3,g1⟩
       . rw[qg e3]at q
         rcases hb with hb | hb
         . rw[q]at hb;cases hb
         . simp only[List.mem_cons,List.not_mem_nil,or_false]at hb
           exact(hb.elim e3 e2).elim
 refine⟨a,C,dx,T',Hx,_,rfl,I2.os,I2.bare,I2.base,I2.hok,by rw[qg (Ne.symm nT),qg (Ne.symm nT0),qd],qd ..,?_,hxa,λb o nb q=>?_,hE⟩
 . cases e:Hx T' with
   | none=>rfl
   | some o=>
     have:=hx T' o nT e
     rw[hTn]at this
     cases this
 . have n1:b≠T:=λz=>by rw[z,hxT]at q;cases q
   have q':=hx b o nb q
   rw[qg (qt q' hTn),qg n1,qg nb]
   exact q'
end
end L2
set_option Elab.async false
set_option linter.all false
set_option maxRecDepth 100000
set_option maxHeartbeats 4000000
namespace L2
open PySem PySem.Spec PyProof.Rows
section
variable {M:Model} {A:Around} {E:Value->Shared->Prop} {s:Shared} {env:Env} {C:Addr}
theorem U8 {oC:Obj} {x:Sem Value} {Q:Flow->Shared->Prop} (hh:A.handled=none) (hcl:oC.cls=.type "type")
   (hs:∀(h:Heap) (g d t os) (Q:Bool->Shared->Prop),h.get? C=some oC->Q true ⟨h,g,d,t,os⟩->wpAny M A (isSubtype (.ref C) (.type "BaseException")) Q E ⟨h,g,d,t,os⟩)
   (h:wpAny M A x (λv s₁=>∃e dx fl,v=.ref e/\s₁.heap.get? C=some oC/\s₁.heap.get? e=some {cls:=.ref C,dict:=some dx,data:=.fields fl}/\fl[1]?=some Value.none/\E (.ref e) s₁) E s):
   wpAny M A (raiseStmt env (some x) none) Q E s:=by
 unfold raiseStmt
 refine wpAny_bind (jg h λv s₁ h₁=>?_)
 obtain⟨e,dx,fl,rfl,hC,he,hz,hE⟩:=h₁
 obtain⟨hp,g,d,tk,os⟩:=s₁
 repeat (first | with_reducible refine wpAny_loadPart_at he ?_ | with_reducible refine wpAny_loadPart_at hC ?_ | with_reducible refine hs _ _ _ _ _ _ hC ?_ | wp_step)
 rw[hz]
 refine wpAny_pure ?_
 rw[if_neg (show ¬((Value.none != Value.none)=true) by decide)]
 exact wpAny_pure (wpAny_raiseNew_none hh hE)
end
def XX (K:PySem.W.Frag) (C:Addr):Prop:=∃f bm,G6 K C f bm/\bm.contains (.type "BaseException")=true
def ze (K:PySem.W.Frag) (E:XK) (te:TE):TS:=λD σ H=>te σ H λv H1=>∃a C dx,v=.ref a/\H1 a=some (QO a C dx)/\XX K C/\E (.ref C) (some dx) H1
section
variable {X:Cx} {E:XK} {e:Expr} {te:TE} {pos:Pos}
theorem Qa (hc:X.calm=true) (hx:XW X E) (he:JE X e te):JS X (.Raise (some e) none pos) (ze X.K E te):=.of (by
 have he:=he.to
 intro pins s σ H D I h
 have key:∀x:Sem Value,wpAny (model X.prog X.w) X.A x (λu s1=>∃v H1,qx X pins σ H1 s1/\qN v u/\∃a C dx,v=.ref a/\H1 a=some (QO a C dx)/\XX X.K C/\E (.ref C) (some dx) H1) X.xe s->
     wpAny (model X.prog X.w) X.A (raiseStmt X.env (some x) none) (SP X pins D) X.xe s:=λx hw=>by
   unfold raiseStmt
   refine wpAny_bind (jg hw λu s1 ⟨v,H1,I1,rv,a,C,dx,ev,ha,⟨f,bm,em,hb⟩,hE⟩=>?_)
   subst ev
   obtain rfl:u=Value.ref a:=rv
   obtain⟨nm,q,N,bs,hdct,sn,sub,ab,col,dd,k0,k1,k2,k3,k5,hC⟩:=em.obj
   obtain⟨⟨fl,ho,hz⟩,_,_⟩:=(show qI X.prog X.w H1 s1.heap a (jU a C dx .none) from I1.hok a _ ha)
   have hC':=I1.kIn _ _ hC
   have r:=U8 (M:=model X.prog X.w) (A:=X.A) (E:=X.xe) (s:=s1) (env:=X.env) (C:=C) (x:=pure (.ref a)) (Q:=SP X pins D) (I1.ok.hd hc) rfl (λh g d t os Q z k=>wpAny_isSubtype_exc z (by
     rw[show (Value.ref C::bm).contains (.type "BaseException")=true by rw[List.contains_cons,hb,Bool.or_true]];exact k)) (wpAny_pure ⟨a,dx,fl,rfl,hC',ho,hz,hx pins σ H1 s1 a C dx I1 ha hE⟩)
   exact r
 rw[arm_exec_Raise]
 exact wpAny_bind (wpAny_standAt (key _ (wpAny_bind (jg (he pins s σ H _ I h) λu s1 q=>wpAny_bind (wpAny_standAt (wpAny_pure q)))))))
end
end L2
set_option Elab.async false
set_option linter.all false
set_option maxRecDepth 100000
set_option maxHeartbeats 4000000
namespace L2
open PySem PySem.Spec PyProof.Rows
section
variable {M:Model} {A:Around} {E:Value->Shared->Prop}
theorem vB {h:Heap} {g:Array GenState} {d:Drawn} {t:Nat} {os:OsState} {e C D:Addr} {oe oC:Obj} {ddc:Option Addr} {sld:Array (Option Value)} {cdd} {bC bD:List Value} {Q:Bool->Shared->Prop}
   (he:h.get? e=some oe) (hcls:oe.cls=.ref C) (hC:h.get? C=some oC) (hD:h.get? D=some ⟨.type "type",ddc,.cls cdd,sld⟩)
   (sC:∀(T:Value) (Q:Bool->Shared->Prop),Q (bC.contains T) ⟨h,g,d,t,os⟩->wpAny M A (isSubtype (.ref C) T) Q E ⟨h,g,d,t,os⟩)
   (sD:∀(T:Value) (Q:Bool->Shared->Prop),Q (bD.contains T) ⟨h,g,d,t,os⟩->wpAny M A (isSubtype (.ref D) T) Q E ⟨h,g,d,t,os⟩)
   (hB:bD.contains (.type "BaseException")=true)
   (hq:Q (bC.contains (.ref D)) ⟨h,g,d,t,os⟩):wpAny M A (excMatches (.ref e) (.ref D)) Q E ⟨h,g,d,t,os⟩:=by
 have f:=tc_notTuple
 unfold excMatches
 repeat (first | (with_reducible refine wpAny_loadPart_at he ?_;rw[hcls]) | with_reducible refine wpAny_loadPart_at hD ?_ | (with_reducible refine sC _ _ ?_) | (with_reducible refine sD _ _ ?_;rw[hB]) | wp_step)
 cases hb:bC.contains (.ref D)<;>(rw[hb]at hq;wp_walk;exact hq)
end
end L2
set_option Elab.async false
set_option linter.all false
set_option maxRecDepth 100000
set_option maxHeartbeats 4000000
namespace L2
open PySem PySem.Spec PyProof.Rows
def Jx (CX:YL) (X:Cx) (E:St->XK):Prop:=∀(pins:List (Addr×Obj)) (σ:St) (H:Hp) (s:Shared) (e:Value) (s':Shared),qx X pins σ H s->CX X.stack H s (E σ) e s'->X.xe e s'
def Vi (sp:Sp) (dvs:List V) (E:St->XK) (t:TA):TE:=λσ H Q=>t σ H λvs H1=>sp (vs++dvs) H1 Q (E σ)
section
variable {X:Cx} {CX:YL} {k:Nat} {f C:Addr} {fd:FuncData} {ps:List Str} {sp:Sp} {dvs:List V} {ds:List Value} {E:St->XK} {x m:Str} {p pos apos:Pos} {e o:Expr} {es:List Expr} {ta:TE} {t:TA}
theorem x4 {pins:List (Addr×Obj)} {σ:St} {H:Hp} {s:Shared} {Q:VK} {us:List Value} {vs:List V} (F:qv X.prog X.w X.K X.mg X.base CX k f fd ps sp) (hr:qZ k X.A) (hb:jX X.K fd ps ds) (hd:qD dvs ds) (hx:Jx CX X E)
   (I:qx X pins σ H s) (r:qD vs us) (h:sp (vs++dvs) H Q (E σ)):wpAny (model X.prog X.w) X.A (call (.ref f) us) (EP X pins σ Q) X.xe s:=by
 have rr:qD (vs++dvs) (us++ds):=r.append hd
 have ll:(us++ds).length=ps.length:=rr.length.symm.trans (F.len _ _ _ _ h)
 have run:=F.run X.A X.stack s H ⟨us,[]⟩ (us++ds) (vs++dvs) Q (E σ) hr I.env0 (hb s us I.kIn ll) rr h
 refine wpAny_call (codeAny_mono run λz s' q=>?_)
 match z,q with
 | .error y,q=>exact hx pins σ H s y s' I q
 | .ok (.ret u),q=>exact I.after q
theorem yc (F:qv X.prog X.w X.K X.mg X.base CX k f fd ps sp) (hr:qZ k X.A) (hg:Gl X x) (hm:X.mg x=some (.ref f)) (hk:PySem.W.keepIn X.K (.ref f)=true) (hb:jX X.K fd ps ds) (hd:qD dvs ds) (hx:Jx CX X E)
   (ha:PA X (e::es) t) (hdb:(x==("__debug__":Str))=false:=by decide) (he:starEach (e::es) X.env=(false,eval e X.env)::starEach es X.env:=by rfl) (hpl:(backTo pos (starEach es X.env)).any (·.1)=false:=by rfl):
   PE X (.Call (.Name x p) (e::es) [] pos) (Vi sp dvs E t):=by
 intro pins s σ H Q I h
 refine wpAny_Call_Name_kw (Ze I hg hm (PySem.W.callWith_K (h₀:=X.base) I.ok.mod.kin hk (jg (ha pos pins s σ H _ I h) λus s1 ⟨vs,H1,I1,r,q⟩=>⟨I1.kIn,x4 F hr hb hd hx I1 r q⟩) he hpl) hdb)
end
end L2
set_option Elab.async false
set_option linter.all false
set_option maxRecDepth 100000
set_option maxHeartbeats 4000000
namespace L2
open PySem PySem.Spec PyProof.Rows
section
variable {X:Cx} {pins:List (Addr×Obj)} {σ:St} {H:Hp} {s:Shared} {a b:Addr} {kvs more:List (ja×V)} {A:Around} {E:Value->Shared->Prop}
end
section
variable {X:Cx} {o e:Expr} {apos cpos:Pos} {td ty:TE}
end
theorem RX {us:List Value} (h:us.length=0):us=[]:=List.eq_nil_of_length_eq_zero h
theorem wG {us:List Value} {n:Nat} (h:us.length=n+1):∃a r,us=a::r/\r.length=n:=by
 cases us with
 | nil=>cases h
 | cons a r=>exact⟨a,r,rfl,Nat.succ.inj h⟩
theorem QQ {us:List Value} (h:us.length=1):∃a,us=[a]:=by
 obtain⟨a,r,rfl,h'⟩:=wG h
 exact⟨a,by rw[RX h']⟩
theorem ZA {us:List Value} (h:us.length=2):∃a b,us=[a,b]:=by
 obtain⟨a,r,rfl,h'⟩:=wG h
 obtain⟨b,rfl⟩:=QQ h'
 exact⟨a,b,rfl⟩
theorem RW {us:List Value} (h:us.length=3):∃a b c,us=[a,b,c]:=by
 obtain⟨a,r,rfl,h'⟩:=wG h
 obtain⟨b,c,rfl⟩:=ZA h'
 exact⟨a,b,c,rfl⟩
theorem RV {us:List Value} (h:us.length=4):∃a b c d,us=[a,b,c,d]:=by
 obtain⟨a,r,rfl,h'⟩:=wG h
 obtain⟨b,c,d,rfl⟩:=RW h'
 exact⟨a,b,c,d,rfl⟩
end L2
set_option Elab.async false
set_option linter.all false
set_option maxRecDepth 100000
set_option maxHeartbeats 4000000
namespace L2
open PySem PySem.Spec PyProof.Rows
abbrev Cx.suite (X:Cx) (a:Value) (E:Value->Shared->Prop):Cx:={X with A:=X.A.mark (some a),calm:=false,xe:=E}
abbrev Cx.tried (X:Cx) (pn:List (Addr×Obj)) (E:Value->Shared->Prop):Cx:={X with xe:=E,pn:=pn}
section
variable {X:Cx} {pins:List (Addr×Obj)} {σ:St} {H:Hp} {s:Shared} {E:Value->Shared->Prop} {a:Value}
theorem Cx.Ok.suite (o:X.Ok) (a:Value) (E:Value->Shared->Prop):(X.suite a E).Ok:=⟨o.mod,o.kind,o.glob,o.blt,o.above,o.inj,o.has,o.cab,λz=>Bool.noConfusion z,o.frames,o.stk,o.exf,o.bs,o.bsz,o.noex,o.exfs,o.funs,o.frf⟩
theorem Cx.Ok.tried (o:X.Ok) (pn:List (Addr×Obj)) (E:Value->Shared->Prop):(X.tried pn E).Ok:=⟨o.mod,o.kind,o.glob,o.blt,o.above,o.inj,o.has,o.cab,o.hd,o.frames,o.stk,o.exf,o.bs,o.bsz,o.noex,o.exfs,o.funs,o.frf⟩
theorem qx.suite (I:qx X pins σ H s) (a:Value) (E:Value->Shared->Prop):qx (X.suite a E) pins σ H s:=⟨I.ok.suite a E,I.os,I.bare,I.base,I.loc,I.cell,I.free,I.freeC,I.pin,I.hok,I.len⟩
theorem qx.unsuite {σ0:St} {H0:Hp} {s0:Shared} (I0:qx X pins σ0 H0 s0) (I:qx (X.suite a E) pins σ H s):qx X pins σ H s:=⟨I0.ok,I.os,I.bare,I.base,I.loc,I.cell,I.free,I.freeC,I.pin,I.hok,I.len⟩
theorem qx.tried (I:qx X pins σ H s) (E:Value->Shared->Prop):qx (X.tried (X.pn++pins) E) [] σ H s:=⟨I.ok.tried _ E,I.os,I.bare,I.base,I.loc,I.cell,I.free,I.freeC,λp hp=>I.pin p (by simpa using hp),I.hok,I.len⟩
theorem qx.untried {pins':List (Addr×Obj)} {σ0:St} {H0:Hp} {s0:Shared} (I0:qx X pins σ0 H0 s0) (I:qx (X.tried (X.pn++pins) E) pins' σ H s):qx X pins σ H s:=⟨I0.ok,I.os,I.bare,I.base,I.loc,I.cell,I.free,I.freeC,λp hp=>I.pin p (List.mem_append_left _ hp),I.hok,I.len⟩
theorem zY {M:Model} {A:Around} {F:Value->Shared->Prop} {i:Nat} {x:Str} {pos:Pos} {Q:Unit->Shared->Prop} (I:qx X pins σ H s) (hN:X.N.Nodup) (hi:X.N[i]?=some x) (hk:X.env.scope.names.lookup x=some .local)
   (h:∀s',qx X pins (σ.set i none) H s'->Q () s'):wpAny M A (do bindName X.env x .none;unbindBehindTheSuite X.env x pos) Q F s:=by
 obtain⟨m,hn,hl⟩:=id I.loc
 have hcls:(X.env.scope.kind==.class || (X.env.scope.kind==.module&&X.env.locals != X.env.globals))=false:=by rw[I.ok.kind];rfl
 have hiσ:i < σ.length:=by rw[I.len];exact(List.getElem?_eq_some_iff.mp hi).1
 have cne:=I.cne
 have tracked:∀{a:Addr} {h':Heap},(∃o,s.heap.get? a=some o/\H a=none)->Heap.SameBut a s.heap h'->JJ X.prog X.w H h':=λ{a h'} ha hs b ob e=>by
   obtain⟨_,_,hfree⟩:=ha
   refine(I.hok b ob e).stay (λc w' hc q=>(hs.2 c ?_).trans q) (λ_ q=>q) λ_ _ q=>q
   rintro rfl
   rcases hc with rfl | hc
   . rw[hfree]at e;cases e
   . rw[hfree]at hc;cases hc
 refine wpAny_nameGoes_keeps hk hn hcls λh' v0 hn' hs=>?_
 obtain⟨oL,_,_,hoL,_⟩:=id hn
 refine h _ ⟨I.ok,I.os,I.bare,⟨λb o e n hb hx=>?_,λb o e n hb hx=>?_,I.base.free,λb o e hx=>?_,I.base.tups,I.base.frzs,I.base.tbls⟩,⟨_,hn',λj y v' e1 e2 e3=>?_⟩,λy c e=>?_,I.free,I.freeC,λp hp=>?_,tracked ⟨oL,hoL,I.free⟩ hs,by simpa using I.len⟩
 . exact(hs.2 b (Nat.ne_of_lt (Nat.lt_of_lt_of_le (Heap.lt_size e) I.ok.above))).trans (I.base.keep b o e n hb hx)
 . obtain⟨sl,e1⟩:=I.base.slot b o e n hb hx
   exact⟨sl,(hs.2 b (Nat.ne_of_lt (Nat.lt_of_lt_of_le (Heap.lt_size e) I.ok.above))).trans e1⟩
 . obtain⟨o',e1⟩:=I.base.there b o e hx
   exact⟨o',(hs.2 b (Nat.ne_of_lt (Nat.lt_of_lt_of_le (Heap.lt_size e) I.ok.above))).trans e1⟩
 . by_cases hj:j=i
   . subst hj
     rw[List.getElem?_set_self hiσ]at e2
     cases e2
   . rw[List.getElem?_set_ne (Ne.symm hj)]at e2
     obtain⟨u',r',q⟩:=hl j y v' e1 e2 e3
     refine⟨u',r',?_⟩
     rcases q with ⟨k,e⟩ | ⟨k,c,e,z⟩
     . refine .inl ⟨k,?_⟩
       have:y≠x:=λe=>hj (Ym hN e1 (e▸hi))
       simp [this,e]
     . exact .inr ⟨k,c,e,z.sameBut hs (cne y c e)⟩
 . obtain⟨w',z⟩:=I.cell y c e
   exact⟨w',z.sameBut hs (cne y c e)⟩
 . obtain⟨e,n,ne,nf,d⟩:=I.pin p hp
   exact⟨(hs.2 p.1 ne).trans e,n,ne,nf,d⟩
end
abbrev TH:=Addr->Addr->Addr->TS
def PH (X:Cx) (hs:List ExceptHandler) (t:TH):Prop:=
 ∀(pins:List (Addr×Obj)) (s:Shared) (σ:St) (H:Hp) (D:QS) (a C dx T:Addr),qx X pins σ H s->H a=some (jU a C dx (.ref T))->H T=some (YF T .none)->t C a dx D σ H->
   wpAny (model X.prog X.w) X.A (handleBy (.ref a) X.env hs) (SP X pins D) X.xe s
def y8:TH:=λ_ _ _ _ _ _=>False
theorem vg {X:Cx} {hs:List ExceptHandler}:PH X hs y8:=λ_ _ _ _ _ _ _ _ _ _ _ _ h=>h.elim
def QS.gone (D:QS) (j:Nat):QS:={nx:=λσ H=>D.nx (σ.set j none) H,rt:=D.rt,bk:=λσ H=>D.bk (σ.set j none) H,ct:=λσ H=>D.ct (σ.set j none) H}
def V1 (K:PySem.W.Frag) (Cl:Addr) (j:Nat) (ts:TS) (tr:TH):TH:=λC a dx D σ H=>∃f bm,G6 K C f bm/\
 if (Value.ref C::bm).contains (.ref Cl)=true then ts (D.gone j) (σ.set j (some (.ref a))) H else tr C a dx D σ H
def KE (K:PySem.W.Frag) (C:Addr):Prop:=∃bm,(∃nm q N bs hdct sn sub ab col dd k0 k1 k2 k3 k5,K.lookup C=some (excClassObj nm q C N bs bm hdct sn sub ab col dd k0 k1 k2 k3 k5 "ValueError.__new__"))/\bm.contains (.type "BaseException")=true
theorem XX.c {K:PySem.W.Frag} {C:Addr} (h:XX K C):KE K C:=let ⟨_,bm,a,b⟩:=h;⟨bm,a.obj,b⟩
theorem VN {X:Cx} {x n:Str} {p pos:Pos} {j:Nat} {b₀:Stmt} {suite:List Stmt} {rest:List ExceptHandler} {ts:TS} {tr:TH} {Cl:Addr} (hg:Gl X x) (hm:X.mg x=some (.ref Cl)) (hD:KE X.K Cl) (hN:X.N.Nodup) (hj:X.N[j]?=some n)
   (hl:X.env.scope.names.lookup n=some .local) (hs:∀v E,xG (X.suite v E) (b₀::suite) ts) (hr:PH X rest tr) (hdb:(x==("__debug__":Str))=false:=by decide):PH X (.ExceptHandler (some (.Name x p)) (some n) (b₀::suite) pos::rest) (V1 X.K Cl j ts tr):=by
 intro pins s σ H D a C dx T I ha hT h
 obtain⟨f,bm,em,h⟩:=h
 obtain⟨bm',em',hB⟩:=hD
 refine wpAny_handleBy_cons (codeAny_handlers_test ?_) (by intro q;cases q)
 refine wpAny_mono (Uk (X:=X.suite (.ref a) _) (v:=.ref Cl) hg hm rfl hdb pins s σ H (λv H'=>v=.ref Cl/\H'=H) (I.suite _ _) ⟨rfl,rfl⟩) (λc s₁ q=>?_) (λ_ _ z=>z)
 obtain⟨v,H',I1,rv,rfl,rfl⟩:=q
 obtain rfl:c=Value.ref Cl:=rv
 have I2:qx X pins σ H' s₁:=I.unsuite I1
 obtain⟨nm,q,N,bs,hdct,sn,sub,ab,col,dd,k0,k1,k2,k3,k5,hC⟩:=em.obj
 obtain⟨nm',q',N',bs',hdct',sn',sub',ab',col',dd',k0',k1',k2',k3',k5',hC'⟩:=em'
 obtain⟨⟨fl,he,hz⟩,_,_⟩:=(show qI X.prog X.w H' s₁.heap a (jU a C dx (.ref T)) from I2.hok a _ ha)
 obtain⟨st,_,_⟩:=(show qI X.prog X.w H' s₁.heap T (YF T .none) from I2.hok T _ hT)
 have gC:=I2.kIn _ _ hC
 have gD:=I2.kIn _ _ hC'
 obtain⟨hp,g,d,tk,os⟩:=s₁
 refine vB (bC:=Value.ref C::bm) (bD:=Value.ref Cl::bm') he rfl gC gD (λT Q k=>wpAny_isSubtype_exc gC k) (λT Q k=>wpAny_isSubtype_exc gD k) (by rw[List.contains_cons,hB,Bool.or_true]) ?_
 cases hb:(Value.ref C::bm).contains (.ref Cl) with
 | false=>
   rw[hb,if_neg Bool.false_ne_true]at h
   exact hr pins _ σ H' D a C dx T I2 ha hT h
 | true=>
   rw[hb,if_pos rfl]at h
   refine(show codeAny _ _ _ _ _ from codeAny_handlers_suite_as ?_)
   refine Ju (fs:=zH X.stack) he hz st λh' F st'=>?_
   have I3:qx X pins σ H' {heap:=h',gens:=g,drawn:=d,toks:=tk,os:=os}:=I2.flown (H':=H') F ⟨λb hb'=>by cases List.mem_singleton.mp hb';exact⟨_,hT⟩,λb o _ z=>z,λb _ z=>z⟩ (λb hb'=>by cases List.mem_singleton.mp hb';obtain⟨ts',z,_⟩:=st';exact⟨_,z⟩) λb o z hb'=>by
     rcases hb' with hb' | hb'
     . rw[z]at hb';cases hb'
     . cases List.mem_singleton.mp hb'
       rw[hT]at z
       cases z
       exact Zv st'
   refine z5 I3 hN hj (.inl hl) (v:=.ref a) rfl (λs' I4=>?_) (.inr hl)
   refine wpAny_mono (hs (.ref a) _ pins s' _ H' (D.gone j) (I4.suite _ _) h) (λfl s3 q=>?_) (λ_ _ z=>z)
   cases fl with
   | next=>
     obtain⟨σ3,H3,I5,q⟩:=q
     exact zY (I.unsuite I5) hN hj hl λs4 I6=>⟨_,_,I6,q⟩
   | brk=>
     obtain⟨σ3,H3,I5,q⟩:=q
     exact zY (I.unsuite I5) hN hj hl λs4 I6=>⟨_,_,I6,q⟩
   | cont=>
     obtain⟨σ3,H3,I5,q⟩:=q
     exact zY (I.unsuite I5) hN hj hl λs4 I6=>⟨_,_,I6,q⟩
   | ret u=>
     obtain⟨v,σ3,H3,I5,r,q⟩:=q
     exact zY (I.unsuite I5) hN hj hl λs4 I6=>⟨v,_,_,I6,r,q⟩
def K7 (tb:(St->XK)->TS) (th:TH):TS:=λD σ H=>∃R:Addr->Addr->Hp->Prop,tb (λσ' c d Hx=>σ'=σ/\∃C dx,c=.ref C/\d=some dx/\R C dx Hx) D σ H/\
 ∀(a C dx T:Addr) (Hx H':Hp),R C dx Hx->Hx a=some (QO a C dx)->(∀b o,b≠a->Hx b=some o->H' b=some o)->H' a=some (jU a C dx (.ref T))->th C a dx D σ H'
theorem xQ {X:Cx} {body:List Stmt} {h0:ExceptHandler} {hs:List ExceptHandler} {tb:(St->XK)->TS} {th:TH} {pos:Pos} (hst:X.stack=X.env::X.outer) (hfm:X.env.frame=some X.env.locals)
   (hb:∀(pn:List (Addr×Obj)) (W:Value->Shared->Prop) (E:St->XK),Jx (QT X.prog X.w) (X.tried pn W) E->xG (X.tried pn W) body (tb E)) (hh:PH X (h0::hs) th):PS X (.Try body (h0::hs) [] [] pos) (K7 tb th):=by
 intro pins s σ H D I h
 obtain⟨R,hbd,hx⟩:=h
 refine wpAny_Try_except ?_
 refine wpAny_mono (hb (X.pn++pins) (λe s₁=>wpAny (model X.prog X.w) X.A (noteFrame e X.env) (λ_ s₂=>wpAny (model X.prog X.w) X.A (setFlight e none) (λ_ s₃=>wpAny (model X.prog X.w) X.A (handleBy e X.env (h0::hs)) (SP X pins D) X.xe s₃) X.xe s₂) X.xe s₁) _ ?_ [] s σ H D (I.tried _) hbd) (λf s1 q=>?_) (λ_ _ z=>z)
 . intro pins' σ' H1 s1 e s' I1 hc
   obtain⟨a,C,dx,T,Hx,H2,rfl,os,bare,un,hok,ha,ht,hxT,hxa,hxs,rfl,C',dx',eC,eD,hR⟩:=hc
   cases eC
   cases eD
   have I2:qx X pins σ' H2 s':=I.untried (I1.call' os un hok bare λb z=>absurd z (by simp))
   obtain⟨⟨fl,he,hz⟩,_,_⟩:=(show qI X.prog X.w H2 s'.heap a (jU a C dx (.ref T)) from I2.hok a _ ha)
   obtain⟨st0,_,_⟩:=(show qI X.prog X.w H2 s'.heap T (YF T .none) from I2.hok T _ ht)
   have nT0:T≠a:=λz=>by
     obtain⟨ts,q,_⟩:=st0
     rw[z,he]at q
     cases q
   have fr:=I2.ok.frames
   have ff:=I2.stack
   rw[hst]at fr ff
   refine XE fr ff hfm he hz st0 nT0 λh1 T' hT F tT q1 q2=>?_
   have lt:=(Array.getElem?_eq_some_iff.mp hz).1
   have g1:(fl.setIfInBounds 1 (Value.ref T'))[1]?=some (.ref T'):=by simp [lt]
   have nT:T'≠a:=λz=>by
     obtain⟨ts,q,_⟩:=q2
     rw[z,q1]at q
     cases q
   refine Ju (fs:=zH X.stack) q1 g1 q2 λh2 F2 stt=>?_
   have anf:∀b o,H2 b=some o->b∉zH X.stack:=λb o q z=>by
     have:=I2.stkFree b z
     rw[q]at this
     cases this
   have hTn:H2 T'=none:=I2.hok.fresh hT
   have nTT:T'≠T:=(qt ht hTn).symm
   have q3:=F2.keep a _ (anf a _ ha) (by simp [Ne.symm nT]) q1
   obtain⟨oT,hoT⟩:=tT
   have q4:=F2.keep T _ (anf T _ ht) (by simp [Ne.symm nTT]) hoT
   rw[<-hst]at F
   have I3:=I2.flown (H':=upd (upd (upd H2 a (jU a C dx (.ref T'))) T (.ext λh=>∃o,h.get? T=some o)) T' (YF T' .none)) (VU.then F F2 hT) ⟨λb hb=>by
       simp only[List.mem_cons,List.not_mem_nil,or_false]at hb
       rcases hb with rfl | rfl
       . exact⟨_,ha⟩
       . exact⟨_,ht⟩,λb o hb q=>by
       simp only[List.mem_cons,List.not_mem_nil,or_false,not_or]at hb
       rw[qg (qt q hTn),qg hb.2,qg hb.1];exact q,λb hb q=>by
       rw[qg (Nat.ne_of_lt (Nat.lt_of_lt_of_le hb hT)),qg (λz=>by rw[z,ht]at q;cases q),qg (λz=>by rw[z,ha]at q;cases q)];exact q⟩ (λb hb=>by
       simp only[List.mem_cons,List.not_mem_nil,or_false]at hb
       rcases hb with rfl | rfl
       . exact⟨_,q3⟩
       . exact⟨_,q4⟩) λb o q hb=>by
     by_cases e1:b=T'
     . subst e1
       rw[qd]at q
       cases q
       exact Zv stt
     . rw[qg e1]at q
       by_cases e2:b=T
       . subst e2
         rw[qd]at q
         cases q
         exact⟨⟨_,q4⟩,⟨_,q4⟩,λh1 h2 ⟨u,z⟩ k=>⟨u,k u z⟩⟩
       . rw[qg e2]at q
         by_cases e3:b=a
         . subst e3
           rw[qd]at q
           cases q
           exact Zi ⟨_,q3,g1⟩
         . rw[qg e3]at q
           rcases hb with hb | hb
           . rw[q]at hb;cases hb
           . simp only[List.mem_cons,List.not_mem_nil,or_false]at hb
             exact(hb.elim e3 e2).elim
   have ea:upd (upd (upd H2 a (jU a C dx (.ref T'))) T (.ext λh=>∃o,h.get? T=some o)) T' (YF T' .none) a=some (jU a C dx (.ref T')):=by rw[qg (Ne.symm nT),qg (Ne.symm nT0),qd]
   refine hh pins _ σ' _ D a C dx T' I3 ea qd (hx a C dx T' Hx _ hR hxa (λb o nb q=>?_) ea)
   have n1:b≠T:=λz=>by rw[z,hxT]at q;cases q
   have q':=hxs b o nb q
   rw[qg (qt q' hTn),qg n1,qg nb]
   exact q'
 . cases f with
   | next=>
     obtain⟨σ',H',I',q⟩:=q
     exact wpAny_execs_nil ⟨σ',H',I.untried I',q⟩
   | brk=>
     obtain⟨σ',H',I',q⟩:=q
     exact⟨σ',H',I.untried I',q⟩
   | cont=>
     obtain⟨σ',H',I',q⟩:=q
     exact⟨σ',H',I.untried I',q⟩
   | ret u=>
     obtain⟨v,σ',H',I',r,q⟩:=q
     exact⟨v,σ',H',I.untried I',r,q⟩
@[irreducible] def JH (X:Cx) (hs:List ExceptHandler) (t:TH):Prop:=PH X hs t
theorem JH.of {X:Cx} {hs:List ExceptHandler} {t:TH} (h:PH X hs t):JH X hs t:=by unfold JH;exact h
theorem JH.to {X:Cx} {hs:List ExceptHandler} {t:TH} (h:JH X hs t):PH X hs t:=by unfold JH at h;exact h
theorem WL {X:Cx} {hs:List ExceptHandler}:JH X hs y8:=.of vg
theorem Jr {X:Cx} {x n:Str} {p pos:Pos} {j:Nat} {b₀:Stmt} {suite:List Stmt} {rest:List ExceptHandler} {ts:TS} {tr:TH} {Cl:Addr} (hg:Gl X x) (hm:X.mg x=some (.ref Cl)) (hD:XX X.K Cl) (hN:X.N.Nodup) (hj:X.N[j]?=some n)
   (hl:X.env.scope.names.lookup n=some .local) (hs:∀v E,XY (X.suite v E) (b₀::suite) ts) (hr:JH X rest tr) (hdb:(x==("__debug__":Str))=false:=by decide):JH X (.ExceptHandler (some (.Name x p)) (some n) (b₀::suite) pos::rest) (V1 X.K Cl j ts tr):=
 .of (VN hg hm hD.c hN hj hl (λv E=>(hs v E).to) hr.to hdb)
theorem yG {X:Cx} {body:List Stmt} {h0:ExceptHandler} {hs:List ExceptHandler} {tb:(St->XK)->TS} {th:TH} {pos:Pos} (hst:X.stack=X.env::X.outer) (hfm:X.env.frame=some X.env.locals)
   (hb:∀(pn:List (Addr×Obj)) (W:Value->Shared->Prop) (E:St->XK),Jx (QT X.prog X.w) (X.tried pn W) E->XY (X.tried pn W) body (tb E)) (hh:JH X (h0::hs) th):JS X (.Try body (h0::hs) [] [] pos) (K7 tb th):=
 .of (xQ hst hfm (λpn W E h=>(hb pn W E h).to) hh.to)
def ue (K:PySem.W.Frag) (bm:List Value) (ta:TE) (f:Str):TE:=λσ H Q=>ta σ H λx H1=>∃a C dx hd fs v,x=.ref a/\H1 a=some (jU a C dx hd)/\H1 dx=some (.xd fs)/\zO K C bm/\Qi K C f/\fs.lookup f=some v/\Q v H1
def kZ (K:PySem.W.Frag) (bm:List Value):List V->Hp->VK->Prop:=λxs H Q=>∃a C dx hd fs c b,xs=[.ref a,c]/\uw c=true/\H a=some (jU a C dx hd)/\H dx=some (.xd fs)/\zO K C bm/\PySem.W.kitOne K (.ref C) (wR c)=some b/\Q (.bl b) H
section
variable {X:Cx} {f:Str} {e:Expr} {pos:Pos} {ta:TE} {bm:List Value}
theorem Js (he:JE X e ta) (hb:attributeBase e f X.env (eval e X.env)=eval e X.env):JE X (.Attribute e f pos) (ue X.K bm ta f):=.of (by
 have he:=he.to
 intro pins s σ H Q I h
 refine UL hb (jg (he pins s σ H _ I h) λu s1 z=>?_)
 obtain⟨x,H1,I1,rx,a,C,dx,hd,fs,v,ex,ea,ed,c,n,l,q⟩:=z
 subst ex
 obtain rfl:u=Value.ref a:=rx
 exact vy I1 ea ed c n l λu' s2 I2 ru=>⟨v,H1,I2,ru,q⟩)
theorem zL (hn:PySem.W.specialIn X.K (.builtin "object.__class__") "__get__"=some (some (.builtin "getset_descriptor.__get__"))) (htk:PySem.W.takesIn X.K (.builtin "object.__class__")=some true):Qr X (.builtin "isinstance") (kZ X.K bm):=by
 intro pins s σ H xs us Q I r h
 obtain⟨a,C,dx,hd,fs,c,b,rfl,hc,ha,hdx,ec,ek,q⟩:=h
 obtain⟨u,w',rfl,ru,rw'⟩:=VY r
 have ew:w'=wR c:=by
   cases c with
   | ty n=>exact rw'
   | ref z=>exact rw'
   | _=>cases hc
 subst ew
 cases ru
 exact yR I ha hdx ec hn htk ek λtk=>⟨.bl b,H,I.tok tk,rfl,q⟩
end
end L2
set_option Elab.async false
set_option linter.all false
set_option maxRecDepth 100000
set_option maxHeartbeats 4000000
namespace PySem
open PySem.Spec
namespace F
end F
section
variable {prog:Program} {w:World} {A:Around} {R:Result->Shared->Prop} {I:Addr} {fp wr:List Addr} {n:Nat} {P:Nat->Value->Prop} {St:Nat->Heap->Prop} {κ:Type} [DecidableEq κ] {knd:KeyKind prog w κ}
end
section
variable {prog:Program} {w:World} {A:Around} {E:Value->Shared->Prop} {s:Shared} {κ:Type} [DecidableEq κ] {knd:KeyKind prog w κ}
end
end PySem
namespace L2
open PySem PySem.Spec PyProof.Rows
section
variable {X:Cx} {pins:List (Addr×Obj)} {σ:St} {H:Hp} {s:Shared}
end
end L2
set_option Elab.async false
set_option linter.all false
set_option maxRecDepth 100000
set_option maxHeartbeats 4000000
namespace L2
open PySem PySem.Spec PySem.W PyProof.Rows
section
variable {α β:Type} {lt:Nat->Nat->Bool} {n:Nat}
def evT (lt:Nat->Nat->Bool):KasT α->α
 | .ret a=>a
 | .ask i j k=>evT lt (k (lt i j))
end
def ltS (zs:List Str) (i j:Nat):Bool:=decide ((zs.getD i "").cps.toList < (zs.getD j "").cps.toList)
def srt (zs:List Str):List Nat:=if zs.length < 2 then List.range zs.length else (evT (ltS zs) (kas_sort zs.length)).toList
section
variable {P:Program} {w:World} {B:Around} {F:Value->Shared->Prop} {z:Shared}
end
section
variable {X:Cx} {o:Expr} {td:TE} {p1 p2 pos1 pos2 ap cp:Pos}
end
section
variable {X:Cx}
end
end L2
set_option Elab.async false
set_option linter.all false
set_option maxRecDepth 100000
set_option maxHeartbeats 4000000
namespace L2
open PySem PySem.Spec PySem.W PyProof.Rows
section
variable {X:Cx}
def Ga (K:PySem.W.Frag):R2:=λx y H Q=>∃(a b:Addr) (xs:List V),x=.ref a/\y=.ref b/\SqL K H a xs/\SqL K H b []/\Q (.bl (!xs.isEmpty)) H
theorem Um (hu:X.A.units < cLine):ZF X (compareOp .NotEq) (Ga X.K):=by
 intro pins s σ H x y v u Q I rx ry h
 obtain⟨a,b,xs,rfl,rfl,ha,hb,q⟩:=h
 cases rx
 cases ry
 obtain⟨its,rv,pl,_⟩:=I.list ha
 obtain⟨its2,rv2,pl2,_⟩:=I.list hb
 have l2:its2=[]:=List.eq_nil_of_length_eq_zero rv2.length.symm
 subst l2
 cases xs with
 | nil=>
   have l1:its=[]:=List.eq_nil_of_length_eq_zero rv.length.symm
   subst l1
   exact EqBoolInt.of_rcne (SeqAt.RcNeAt.lists (e:=λ_=>true) pl.isList pl2.isList rfl hu λj h1 h2=>absurd h1 (Nat.not_lt_zero j)) ⟨.bl _,H,I,rfl,q⟩
 | cons x xs=>
   cases its with
   | nil=>cases rv
   | cons u' us'=>exact EqBoolInt.of_rcne (SeqAt.RcNeAt.lists_lengths pl.isList pl2.isList (by simp) hu) ⟨.bl true,H,I,rfl,q⟩
end
end L2
set_option Elab.async false
set_option linter.all false
set_option maxRecDepth 100000
set_option maxHeartbeats 4000000
namespace L2
open PySem PySem.Spec PySem.W PyProof.Rows
section
variable {P:Program} {w:World} {B:Around} {F:Value->Shared->Prop} {z:Shared}
end
section
variable {X:Cx}
end
end L2
set_option Elab.async false
set_option linter.all false
set_option maxRecDepth 100000
set_option maxHeartbeats 4000000
namespace L2
open PySem PySem.Spec PySem.W PyProof.Rows
section
variable {prog:Program} {w:World} {A:Around} {R:Result->Shared->Prop} {I:Addr} {fp wr:List Addr} {G:Array GenState->Array GenState->Prop} {n:Nat} {P:Nat->Value->Prop} {St:Nat->Shared->Prop}
end
section
variable {prog:Program} {w:World} {A:Around} {E:Value->Shared->Prop} {s:Shared}
end
section
variable {X:Cx} {e:Expr} {te:TE} {p1 p2 pos1 pos2:Pos}
end
end L2
set_option Elab.async false
set_option linter.all false
set_option maxRecDepth 100000
set_option maxHeartbeats 4000000
namespace L2
open PySem PyProof.Rows
theorem XT {α:Type} {K:PySem.W.Frag} {a D:Addr} {xs:List α} {enc:α->V} {out:α->Option V} {rest:St} {H:Hp} {tt:TT} {te:TE} {Q:Hp->Prop} (hD:H D=none) (ha:H a=some (.lst (xs.map enc))) (len:xs.length < sizeLine)
   (ht:∀x∈xs,∀G,Same H G->∀R:Bool->Hp->Prop,(∀G',Same G G'->R (out x).isSome G')->tt (some (enc x)::rest) G R)
   (he:∀x∈xs,∀v,out x=some v->∀G,Same H G->∀R:V->Hp->Prop,(∀G',Same G G'->R v G')->te (some (enc x)::rest) G R)
   (k:∀G,Same H G->G D=some (.lst (xs.filterMap out))->Q G):Wj (KA K a) (jH 0) tt te D (none::rest) H Q:=by
 have sD:Same H (upd H D (.lst [])):=λb o h=>by
   rw[qg (λe=>by rw[e,hD]at h;cases h)]
   exact h
 refine jN (K:=K) (a:=a) (xs:=xs.map enc) (λi σ' G=>(∃v0,σ'=v0::rest)/\Same H G/\G D=some (.lst ((xs.take i).filterMap out))) ⟨⟨none,rfl⟩,sD,qd⟩ (λi σ' G _ ⟨_,s,_⟩=>.of (s _ _ ha)) ?_ ?_
 . rintro i y σ' G hy ⟨⟨v0,rfl⟩,s,hG⟩
   rw[List.getElem?_map]at hy
   cases ex:xs[i]? with
   | none=>rw[ex]at hy;cases hy
   | some x=>
     rw[ex]at hy
     obtain rfl:=(Option.some.inj hy).symm
     have hx:x∈xs:=List.mem_of_getElem? ex
     have et:(xs.take (i+1)).filterMap out=(xs.take i).filterMap out++(out x).toList:=by
       rw[List.take_add_one,ex,List.filterMap_append]
       cases c:out x<;>simp [c]
     show tt (some (enc x)::rest) G _
     refine ht x hx G s _ λG1 s1=>?_
     cases c:out x with
     | none=>
       show if false=true then _ else _
       rw[if_neg Bool.false_ne_true]
       refine⟨⟨_,rfl⟩,λb o h=>s1 _ _ (s _ _ h),?_⟩
       rw[et,c]
       simpa using s1 _ _ hG
     | some v=>
       show if true=true then _ else _
       rw[if_pos rfl]
       refine he x hx v c G1 (λb o h=>s1 _ _ (s _ _ h)) _ λG2 s2=>?_
       refine⟨_,s2 _ _ (s1 _ _ hG),?_,⟨_,rfl⟩,?_,?_⟩
       . refine Nat.lt_of_le_of_lt (List.length_filterMap_le _ _) ?_
         rw[List.length_take]
         omega
       . intro b o h
         rw[qg (λe=>by rw[e,hD]at h;cases h)]
         exact s2 _ _ (s1 _ _ (s _ _ h))
       . rw[et,c]
         exact qd
 . rintro σ' G ⟨_,s,hG⟩
   rw[List.length_map,List.take_of_length_le (Nat.le_refl _)]at hG
   exact k G s hG
end L2
set_option Elab.async false
set_option linter.all false
set_option maxRecDepth 100000
set_option maxHeartbeats 4000000
namespace L2
open PySem PyProof.Rows
section
variable {prog:Program} {w:World} {KK:Type} [DecidableEq KK] {kd:HeapKind prog w KK} {A:Around} {E:Value->Shared->Prop} {s:Shared}
end
section
variable {X:Cx} {pins:List (Addr×Obj)} {σ:St} {H:Hp} {s:Shared} {a b:Addr} {v:V} {r:Value} {A:Around} {E:Value->Shared->Prop}
end
section
variable {X:Cx} {o e f:Expr} {apos cpos:Pos} {td ty tx:TE}
end
end L2
set_option Elab.async false
set_option linter.all false
set_option maxRecDepth 100000
set_option maxHeartbeats 4000000
namespace L2
open PySem PyProof.Rows
section
variable {X:Cx}
end
end L2
set_option Elab.async false
set_option linter.all false
set_option maxRecDepth 100000
set_option maxHeartbeats 4000000
namespace L2
open PySem PySem.Spec PyProof.Rows
section
variable {X:Cx} {pins:List (Addr×Obj)} {σ:St} {H:Hp} {s:Shared} {tg:Expr}
end
section
variable {a:Addr} {o:Obj} {kvs:List (ja×V)} {zs:List Str} {g:TG} {σ:St} {H:Hp}
end
end L2
set_option Elab.async false
set_option linter.all false
set_option maxRecDepth 100000
set_option maxHeartbeats 4000000
namespace L2
open PySem PySem.Spec PyProof.Rows
section
variable {P:Program} {w:World} {K:PySem.W.Frag} {mg:Str->Option Value} {base:Heap}
theorem Qj.okX {CX:YL} {x qual:Str} {st:Stmt} {f:Addr} {fd:FuncData} {N ps:List Str} {k:Nat} {sp:Sp} (F:Qj K x qual st f fd) (S:qC N ps (qo st)) (len:∀vs H Q E,sp vs H Q E->vs.length=ps.length)
   (hbody:∀(cdv:Value) (A:Around) (outer:List Env) (s:Shared) (H:Hp) (vs:List V) (Q:VK) (E:XK),qZ k (A.deeper (envOfC qual (qo st) s.heap.objs.size f cdv))->sp vs H Q E->
     ∃t,XY (Qc CX P w K mg base N qual (qo st) f cdv A outer s H E) (jZ st) t/\t {nx:=λ_ H'=>Q .non H',rt:=Q} (Zo N vs) H):qv P w K mg base CX (k+1) f fd ps sp:=by
 obtain⟨oc,od,kV,doc,pm,an,cdv,ct,osl,rfl,lk,hcd⟩:=F.ex
 refine ux lk hcd S len λA outer s H vs Q E hr hsp=>?_
 obtain⟨t,h,q⟩:=hbody cdv A outer s H vs Q E hr hsp
 exact⟨t,h.to,q⟩
end
section
variable {X:Cx} {es:List Expr} {t:TA} {pos:Pos}
end
end L2
set_option Elab.async false
set_option linter.all false
set_option maxRecDepth 100000
set_option maxHeartbeats 4000000
namespace L2
open PySem PySem.Spec PyProof.Rows
section
variable {X:Cx}
end
end L2
namespace L2
open PySem PySem.Spec PyProof.Rows
end L2
set_option Elab.async false
set_option linter.all false
set_option maxRecDepth 100000
set_option maxHeartbeats 4000000
namespace L2
open PySem PySem.Spec PyProof.Rows
section
variable {X:Cx} {pins pins0:List (Addr×Obj)} {σ σ0:St} {H H0:Hp} {s s0:Shared}
end
section
variable {X:Cx}
end
end L2
namespace L2
open PySem PyProof.Rows
end L2
set_option Elab.async false
set_option linter.all false
set_option maxRecDepth 100000
set_option maxHeartbeats 4000000
namespace HT
open PySem PySem.Spec PyProof.Rows
section
variable {prog:Program} {w:World} {A:Around} {E:Value->Shared->Prop} {s:Shared}
end
end HT
namespace L2
open PySem PySem.Spec PyProof.Rows
section
variable {X:Cx}
end
end L2
namespace L2
open PySem PyProof.Rows
end L2
set_option Elab.async false
set_option linter.all false
set_option maxRecDepth 100000
set_option maxHeartbeats 4000000
namespace L2
open PySem PySem.Spec PyProof.Rows
section
variable {X:Cx} {CX:YL} {C:Addr->Sp->Prop} {E:St->XK} {x:Str} {p pos:Pos} {e:Expr} {es:List Expr} {t:TA} {i:Nat}
end
end L2
set_option Elab.async false
set_option linter.all false
set_option maxRecDepth 100000
set_option maxHeartbeats 4000000
namespace L2
open PySem PySem.Spec PyProof.Rows
section
variable {M:Model} {A:Around} {F:Value->Shared->Prop} {s:Shared} {e:Addr} {cl:Value} {d:Option Addr} {vs:Array Value} {Q:Unit->Shared->Prop}
theorem VL {T:Addr} {fl:Value} {fs:List Addr} {fr:Option Addr} (he:s.heap.get? e=some {cls:=cl,dict:=d,data:=.fields vs}) (h1:vs[1]?=some (.ref T)) (st:xy T fl s.heap)
   (k:∀h',VU fs [T] s.heap h'->xy T (fr.elim .none λf=>rawInt f) h'->Q () {s with heap:=h'}):wpAny M A (setFlight (.ref e) fr) Q F s:=by
 obtain⟨ts,ht,h3⟩:=st
 have lt:=(Array.getElem?_eq_some_iff.mp h3).1
 unfold setFlight
 refine wpAny_bind (wpAny_field he rfl h1 ?_)
 rw[if_pos (show (Value.ref T != Value.none)=true from by simp)]
 refine wpAny_setField ht rfl lt (k _ ⟨λb o _ n q=>?_,λb o _ n q=>⟨o.slots,?_⟩⟩ ⟨_,Heap.get?_update_self _ ht rfl,by simp [lt]⟩)
 all_goals
   rw[Heap.get?_update_other _ _ λz=>n (by simp [z])]
   exact q
end
section
variable {X:Cx} {pins:List (Addr×Obj)} {σ:St} {H:Hp} {s:Shared} {M:Model} {F:Value->Shared->Prop} {Q:Unit->Shared->Prop} {a C dx:Addr}
theorem wP (I:qx X pins σ H s) (hst:X.stack=X.env::X.outer) (hfm:X.env.frame=some X.env.locals) (ha:H a=some (QO a C dx))
   (k:∀T h',H T=none->T≠a->qx X pins σ (upd (upd H a (jU a C dx (.ref T))) T (YF T (rawInt X.env.locals))) {s with heap:=h'}->Q () {s with heap:=h'}):wpAny M X.A (noteFrame (.ref a) X.env) Q F s:=by
 obtain⟨⟨fl,he,hz⟩,_,_⟩:=(show qI X.prog X.w H s.heap a (jU a C dx .none) from I.hok a _ ha)
 have fr:=I.ok.frames
 have ff:=I.stack
 rw[hst]at fr ff
 refine WD fr ff hfm he hz λh1 T hT F1 q1 q2=>?_
 rw[<-hst]at F1
 have lt:=(Array.getElem?_eq_some_iff.mp hz).1
 have g1:(fl.setIfInBounds 1 (Value.ref T))[1]?=some (.ref T):=by simp [lt]
 have nT:T≠a:=λz=>by
   obtain⟨ts,q,_⟩:=q2
   rw[z,q1]at q
   cases q
 have hTn:H T=none:=I.hok.fresh hT
 refine k T h1 hTn nT (I.flown F1 ⟨λb hb=>by cases List.mem_singleton.mp hb;exact⟨_,ha⟩,λb o hb q=>by
     rw[qg (qt q hTn),qg λz=>hb (by simp [z])];exact q,λb hb q=>by
     rw[qg (Nat.ne_of_lt (Nat.lt_of_lt_of_le hb hT)),qg λz=>by rw[z,ha]at q;cases q];exact q⟩ (λb hb=>by cases List.mem_singleton.mp hb;exact⟨_,q1⟩) λb o q hb=>?_)
 by_cases e1:b=T
 . subst e1
   rw[qd]at q
   cases q
   exact Zv q2
 . rw[qg e1]at q
   by_cases e2:b=a
   . subst e2
     rw[qd]at q
     cases q
     exact Zi ⟨_,q1,g1⟩
   . rw[qg e2]at q
     rcases hb with hb | hb
     . rw[q]at hb;cases hb
     . exact absurd (List.mem_singleton.mp hb) e2
theorem Ks {T:Addr} (I:qx X pins σ H s) (hst:X.stack=X.env::X.outer) (hfm:X.env.frame=some X.env.locals) (ha:H a=some (jU a C dx (.ref T))) (ht:H T=some (YF T .none))
   (k:∀T' h',H T'=none->T'≠a->qx X pins σ (upd (upd (upd H a (jU a C dx (.ref T'))) T (.ext λh=>∃o,h.get? T=some o)) T' (YF T' (rawInt X.env.locals))) {s with heap:=h'}->Q () {s with heap:=h'}):wpAny M X.A (noteFrame (.ref a) X.env) Q F s:=by
 obtain⟨⟨fl,he,hz⟩,_,_⟩:=(show qI X.prog X.w H s.heap a (jU a C dx (.ref T)) from I.hok a _ ha)
 obtain⟨st0,_,_⟩:=(show qI X.prog X.w H s.heap T (YF T .none) from I.hok T _ ht)
 have nT0:T≠a:=λz=>by
   obtain⟨ts,q,_⟩:=st0
   rw[z,he]at q
   cases q
 have fr:=I.ok.frames
 have ff:=I.stack
 rw[hst]at fr ff
 refine XE fr ff hfm he hz st0 nT0 λh1 T' hT F1 tT q1 q2=>?_
 rw[<-hst]at F1
 have lt:=(Array.getElem?_eq_some_iff.mp hz).1
 have g1:(fl.setIfInBounds 1 (Value.ref T'))[1]?=some (.ref T'):=by simp [lt]
 have nT:T'≠a:=λz=>by
   obtain⟨ts,q,_⟩:=q2
   rw[z,q1]at q
   cases q
 have hTn:H T'=none:=I.hok.fresh hT
 obtain⟨oT,hoT⟩:=tT
 refine k T' h1 hTn nT (I.flown F1 ⟨λb hb=>by
     simp only[List.mem_cons,List.not_mem_nil,or_false]at hb
     rcases hb with rfl | rfl
     . exact⟨_,ha⟩
     . exact⟨_,ht⟩,λb o hb q=>by
     simp only[List.mem_cons,List.not_mem_nil,or_false,not_or]at hb
     rw[qg (qt q hTn),qg hb.2,qg hb.1];exact q,λb hb q=>by
     rw[qg (Nat.ne_of_lt (Nat.lt_of_lt_of_le hb hT)),qg (λz=>by rw[z,ht]at q;cases q),qg (λz=>by rw[z,ha]at q;cases q)];exact q⟩ (λb hb=>by
     simp only[List.mem_cons,List.not_mem_nil,or_false]at hb
     rcases hb with rfl | rfl
     . exact⟨_,q1⟩
     . exact⟨_,hoT⟩) λb o q hb=>?_)
 by_cases e1:b=T'
 . subst e1
   rw[qd]at q
   cases q
   exact Zv q2
 . rw[qg e1]at q
   by_cases e2:b=T
   . subst e2
     rw[qd]at q
     cases q
     exact⟨⟨_,hoT⟩,⟨_,hoT⟩,λh1 h2 ⟨u,z⟩ k=>⟨u,k u z⟩⟩
   . rw[qg e2]at q
     by_cases e3:b=a
     . subst e3
       rw[qd]at q
       cases q
       exact Zi ⟨_,q1,g1⟩
     . rw[qg e3]at q
       rcases hb with hb | hb
       . rw[q]at hb;cases hb
       . simp only[List.mem_cons,List.not_mem_nil,or_false]at hb
         exact(hb.elim e3 e2).elim
theorem WP {T:Addr} (I:qx X pins σ H s) (hfm:X.env.frame=some X.env.locals) (ha:H a=some (jU a C dx (.ref T))) (ht:H T=some (YF T (rawInt X.env.locals))) (k:Q () s):wpAny M X.A (noteFrame (.ref a) X.env) Q F s:=by
 obtain⟨⟨fl,he,hz⟩,_,_⟩:=(show qI X.prog X.w H s.heap a (jU a C dx (.ref T)) from I.hok a _ ha)
 obtain⟨st0,_,_⟩:=(show qI X.prog X.w H s.heap T (YF T (rawInt X.env.locals)) from I.hok T _ ht)
 exact vf hfm he hz st0 k
theorem XM {T:Addr} {fl:Value} {fr:Option Addr} (I:qx X pins σ H s) (ha:H a=some (jU a C dx (.ref T))) (ht:H T=some (YF T fl))
   (k:∀h',qx X pins σ (upd H T (YF T (fr.elim .none λf=>rawInt f))) {s with heap:=h'}->Q () {s with heap:=h'}):wpAny M X.A (setFlight (.ref a) fr) Q F s:=by
 obtain⟨⟨fs,he,hz⟩,_,_⟩:=(show qI X.prog X.w H s.heap a (jU a C dx (.ref T)) from I.hok a _ ha)
 obtain⟨st0,_,_⟩:=(show qI X.prog X.w H s.heap T (YF T fl) from I.hok T _ ht)
 refine VL (fs:=zH X.stack) he hz st0 λh1 F1 st=>?_
 obtain⟨ts,q,z⟩:=id st
 refine k h1 (I.flown F1 ⟨λb hb=>by cases List.mem_singleton.mp hb;exact⟨_,ht⟩,λb o hb q=>by rw[qg (λz=>hb (by simp [z]))];exact q,λb hb q=>by rw[qg (λz=>by rw[z,ht]at q;cases q)];exact q⟩ (λb hb=>by cases List.mem_singleton.mp hb;exact⟨_,q⟩) λb o q hb=>?_)
 by_cases e1:b=T
 . subst e1
   rw[qd]at q
   cases q
   exact Zv st
 . rw[qg e1]at q
   rcases hb with hb | hb
   . rw[q]at hb;cases hb
   . exact absurd (List.mem_singleton.mp hb) e1
end
def UO (X:Cx) (pins:List (Addr×Obj)) (E:XK):Value->Shared->Prop:=λe s=>
 (∃(a C dx:Addr) (H:Hp) (σ:St),e=.ref a/\qx X pins σ H s/\H a=some (QO a C dx)/\E (.ref C) (some dx) H)\/
 ∃(a C dx T:Addr) (fl:Value) (Hx H:Hp) (σ:St),e=.ref a/\qx X pins σ H s/\(fl=.none\/fl=rawInt X.env.locals)/\H a=some (jU a C dx (.ref T))/\H T=some (YF T fl)/\Hx T=none/\Hx a=some (QO a C dx)/\(∀b o,b≠a->Hx b=some o->H b=some o)/\E (.ref C) (some dx) Hx
theorem vt {X:Cx} {pins:List (Addr×Obj)} {E:XK} (hst:X.stack=X.env::X.outer) (hfm:X.env.frame=some X.env.locals):PassesOwn (model X.prog X.w) X.A X.env (UO X pins E):=by
 intro e s h
 have back:∀{a C dx T:Addr} {fl:Value} {H Hx:Hp} {σ:St} {s':Shared},qx X pins σ H s'->H a=some (jU a C dx (.ref T))->H T=some (YF T fl)->T≠a->Hx T=none->Hx a=some (QO a C dx)->(∀b o,b≠a->Hx b=some o->H b=some o)->E (.ref C) (some dx) Hx->cameBackBy (model X.prog X.w) X.A X.env (UO X pins E) (.ref a) s':=λ{a C dx T fl H Hx σ s'} I ha ht nT h1 h2 h3 hE=>by
   obtain⟨⟨fs,he,hz⟩,_,_⟩:=(show qI X.prog X.w H s'.heap a (jU a C dx (.ref T)) from I.hok a _ ha)
   unfold cameBackBy
   refine wpAny_bind (wpAny_field he rfl hz ?_)
   rw[if_neg (show ¬((Value.ref T==Value.none)=true) by simp)]
   first
     | refine XM I ha ht λh' I2=>?_
     | refine wpAny_bind (wpAny_pure (XM I ha ht λh' I2=>?_))
   refine .inr ⟨a,C,dx,T,_,Hx,_,σ,rfl,I2,.inr (by rw[hfm];rfl),by rw[qg (Ne.symm nT)];exact ha,qd,h1,h2,λb o nb q=>?_,hE⟩
   rw[qg (λz=>by rw[z,h1]at q;cases q)]
   exact h3 b o nb q
 rcases h with ⟨a,C,dx,H,σ,rfl,I,ha,hE⟩ | ⟨a,C,dx,T,fl,Hx,H,σ,rfl,I,hfl,ha,ht,h1,h2,h3,hE⟩
 . refine wP I hst hfm ha λT h' hT nT I2=>?_
   exact back (Hx:=H) I2 (by rw[qg (Ne.symm nT)];exact qd) qd nT hT ha (λb o nb q=>by rw[qg (qt q hT),qg nb];exact q) hE
 . have nT:T≠a:=λz=>by rw[z,h2]at h1;cases h1
   rcases hfl with rfl | rfl
   . refine Ks I hst hfm ha ht λT' h' hT nT' I2=>?_
     refine back (Hx:=Hx) I2 (by rw[qg (Ne.symm nT'),qg (Ne.symm nT)];exact qd) qd nT' ?_ h2 (λb o nb q=>?_) hE
     . cases q:Hx T' with
       | none=>rfl
       | some o=>rw[h3 T' o nT' q]at hT;cases hT
     . have n1:b≠T:=λz=>by rw[z,h1]at q;cases q
       have q':=h3 b o nb q
       rw[qg (qt q' hT),qg n1,qg nb]
       exact q'
   . exact WP I hfm ha ht (back I ha ht nT h1 h2 h3 hE)
section
variable {P:Program} {w:World} {K:PySem.W.Frag} {mg:Str->Option Value} {base:Heap} {N:List Str} {qual:Str} {scope:Scope} {f:Addr} {cd:Value} {A:Around} {outer:List Env} {s₀:Shared} {H₀:Hp} {E:XK}
theorem vv {pins:List (Addr×Obj)} {e:Value} {s:Shared} (h:UO (Qc (QT P w) P w K mg base N qual scope f cd A outer s₀ H₀ E) pins E e s):(Qc (QT P w) P w K mg base N qual scope f cd A outer s₀ H₀ E).xe e s:=by
 rcases h with ⟨a,C,dx,H,σ,rfl,I,ha,hE⟩ | ⟨a,C,dx,T,fl,Hx,H,σ,rfl,I,hfl,ha,ht,h1,h2,h3,hE⟩
 . exact Je pins σ H s a C dx I ha hE
 . rcases hfl with rfl | rfl
   . exact QD pins σ H s _ s I ⟨a,C,dx,T,Hx,H,rfl,rfl,I.bare,Un.refl,I.hok,ha,ht,h1,h2,h3,hE⟩
   . show wpAny _ _ (leaving _ _) _ _ s
     unfold leaving
     refine wpAny_bind (WP I rfl ha ht ?_)
     have nT:T≠a:=λz=>by rw[z,h2]at h1;cases h1
     refine XM (fr:=none) I ha ht λh' I2=>?_
     refine⟨a,C,dx,T,Hx,_,rfl,I2.os,I2.bare,I2.base,I2.hok,by rw[qg (Ne.symm nT)];exact ha,qd,h1,h2,λb o nb q=>?_,hE⟩
     rw[qg (λz=>by rw[z,h1]at q;cases q)]
     exact h3 b o nb q
theorem yy {st:Stmt} {t:TS} (h:∀(pn:List (Addr×Obj)) (W:Value->Shared->Prop),PassesOwn (model P w) (Qc (QT P w) P w K mg base N qual scope f cd A outer s₀ H₀ E).A (Qc (QT P w) P w K mg base N qual scope f cd A outer s₀ H₀ E).env W->
     Qh (QT P w) ((Qc (QT P w) P w K mg base N qual scope f cd A outer s₀ H₀ E).tried pn W) E->XW ((Qc (QT P w) P w K mg base N qual scope f cd A outer s₀ H₀ E).tried pn W) E->JS ((Qc (QT P w) P w K mg base N qual scope f cd A outer s₀ H₀ E).tried pn W) st t):
   PS (Qc (QT P w) P w K mg base N qual scope f cd A outer s₀ H₀ E) st t:=by
 intro pins s σ H D I hw
 refine wpAny_mono ((h _ (UO _ pins E) (vt rfl rfl) ?_ ?_).to [] s σ H D (I.tried _) hw) (λfl s1 q=>?_) (λe s1 z=>vv z)
 . intro pins' σ' H1 s1 e s' I1 hc
   obtain⟨a,C,dx,T,Hx,H2,rfl,os,bare,un,hok,ha,ht,hxT,hxa,hxs,hE⟩:=hc
   have I2:=I.untried (I1.call' os un hok bare λb z=>absurd z (by simp))
   exact .inr ⟨a,C,dx,T,.none,Hx,H2,σ',rfl,I2,.inl rfl,ha,ht,hxT,hxa,hxs,hE⟩
 . intro pins' σ' H1 s1 a C dx I1 ha hE
   exact .inl ⟨a,C,dx,H1,σ',rfl,I.untried I1,ha,hE⟩
 . cases fl with
   | next=>obtain⟨σ',H',I',q⟩:=q;exact⟨σ',H',I.untried I',q⟩
   | brk=>obtain⟨σ',H',I',q⟩:=q;exact⟨σ',H',I.untried I',q⟩
   | cont=>obtain⟨σ',H',I',q⟩:=q;exact⟨σ',H',I.untried I',q⟩
   | ret u=>obtain⟨v,σ',H',I',r,q⟩:=q;exact⟨v,σ',H',I.untried I',r,q⟩
theorem ZT {st:Stmt} {t:TS} (h:∀(pn:List (Addr×Obj)) (W:Value->Shared->Prop),PassesOwn (model P w) (Qc (QT P w) P w K mg base N qual scope f cd A outer s₀ H₀ E).A (Qc (QT P w) P w K mg base N qual scope f cd A outer s₀ H₀ E).env W->
     Qh (QT P w) ((Qc (QT P w) P w K mg base N qual scope f cd A outer s₀ H₀ E).tried pn W) E->XW ((Qc (QT P w) P w K mg base N qual scope f cd A outer s₀ H₀ E).tried pn W) E->JS ((Qc (QT P w) P w K mg base N qual scope f cd A outer s₀ H₀ E).tried pn W) st t):
   JS (Qc (QT P w) P w K mg base N qual scope f cd A outer s₀ H₀ E) st t:=.of (yy h)
end
end L2
set_option Elab.async false
set_option linter.all false
set_option maxRecDepth 100000
set_option maxHeartbeats 4000000
namespace L2
open PySem PySem.Spec PyProof.Rows
section
variable {X:Cx}
end
end L2
set_option Elab.async false
set_option linter.all false
set_option maxRecDepth 100000
set_option maxHeartbeats 4000000
namespace L2
open PySem PySem.Spec PyProof.Rows
def GZ:Obj:={cls:=.type "cell",data:=.cell none}
structure OwnC (n:Nat) (l:List (Str×NameKind)) (cs cs':List (Str×Addr)) (h h':Heap):Prop where
 kp:∀b o,h.get? b=some o->h'.get? b=some o
 same:∀x,(x,NameKind.cell)∉l->cs'.lookup x=cs.lookup x
 own:∀x,(x,NameKind.cell)∈l->∃c,cs'.lookup x=some c/\n<=c/\h'.get? c=some GZ
 inj:∀x y c,(x,NameKind.cell)∈l->(y,NameKind.cell)∈l->cs'.lookup x=some c->cs'.lookup y=some c->x=y
structure Na (X:Cx) (N':List Str) (ix:List (Option Nat)) (scope:Scope):Prop where
 kind:scope.kind=.function
 nd:(scope.names.map (·.1)).Nodup
 frees:(scope.names.all λx=>x.2 != .free || (X.env.scope.names.lookup x.1==some .cell || X.env.scope.names.lookup x.1==some .free))=true
 ixs:wL N' X.N scope X.env.scope ix=true
section
variable {X:Cx} {N':List Str} {ix:List (Option Nat)} {scope:Scope} {pins:List (Addr×Obj)} {σ:St} {H:Hp} {s:Shared}
end
section
variable {X:Cx} {N':List Str} {ix:List (Option Nat)} {scope:Scope}
end
end L2
set_option Elab.async false
set_option linter.all false
set_option maxRecDepth 100000
set_option maxHeartbeats 4000000
namespace L2
open PySem PySem.Spec PyProof.Rows
section
variable {X:Cx} {CX:YL} {k:Nat} {f C:Addr} {fd:FuncData} {ps:List Str} {sp:Sp} {dvs:List V} {ds:List Value} {E:St->XK} {m:Str} {pos apos:Pos} {e o:Expr} {es:List Expr} {ta:TE} {t:TA}
end
end L2
set_option Elab.async false
set_option linter.all false
set_option maxRecDepth 100000
set_option maxHeartbeats 4000000
namespace L2
open PySem PySem.Spec PyProof.Rows
section
variable {X:Cx}
end
end L2
set_option Elab.async false
set_option linter.all false
set_option maxRecDepth 100000
set_option maxHeartbeats 4000000
namespace L2
open PySem PySem.Spec PyProof.Rows PySem.W
section
variable {X:Cx}
end
end L2
set_option Elab.async false
set_option linter.all false
set_option maxRecDepth 100000
set_option maxHeartbeats 4000000
namespace L2
open PySem PySem.Spec PyProof.Rows
section
variable {P:Program} {w:World} {K:PySem.W.Frag} {mg:Str->Option Value} {base:Heap} {CX:YL} {k:Nat} {f:Addr} {fd:FuncData} {ps:List Str} {sp sp':Sp}
theorem qv.toX (F:qv P w K mg base jh k f fd ps sp):qv P w K mg base CX k f fd ps sp:=
 ⟨F.len,λA outer s H args us vs Q E a b c d h=>codeAny_mono (F.run A outer s H args us vs Q E a b c d h) λz s' q=>by
   cases z with
   | error y=>exact(show False from q).elim
   | ok r=>
     cases r with
     | ret u=>exact q
     | _=>exact q⟩
theorem qv.either (F:qv P w K mg base CX k f fd ps sp) (G:qv P w K mg base CX k f fd ps sp'):qv P w K mg base CX k f fd ps (λvs H Q E=>sp vs H Q E\/sp' vs H Q E):=
 ⟨λvs H Q E h=>h.elim (F.len vs H Q E) (G.len vs H Q E),λA outer s H args us vs Q E a b c d h=>h.elim (F.run A outer s H args us vs Q E a b c d) (G.run A outer s H args us vs Q E a b c d)⟩
end
end L2
set_option Elab.async false
set_option linter.all false
set_option maxRecDepth 100000
set_option maxHeartbeats 4000000
namespace L2
open PySem PySem.Spec PyProof.Rows PySem.W
section
variable {X:Cx}
end
end L2
set_option Elab.async false
set_option linter.all false
set_option maxRecDepth 100000
set_option maxHeartbeats 4000000
namespace L2
open PySem PySem.Spec PyProof.Rows
def RawD (h:Heap) (d:Addr) (es:Array DictEntry) (ep:Nat):Prop:=∃o,h.get? d=some o/\o.ExactDict/\o.data=.dict es ep
section
variable {prog:Program} {w:World} {A:Around} {E:Value->Shared->Prop} {s:Shared} {it d:Addr} {es:Array DictEntry} {i ep:Nat}
end
end L2
set_option Elab.async false
set_option linter.all false
set_option maxRecDepth 100000
set_option maxHeartbeats 4000000
namespace L2
open PySem PySem.Spec PyProof.Rows
section
variable {X:Cx} {pins:List (Addr×Obj)} {σ:St} {H:Hp} {s:Shared} {tg:Expr}
end
section
variable {a:Addr} {o:Obj} {u:HO} {g:TG} {σ:St} {H:Hp}
end
end L2
set_option Elab.async false
set_option linter.all false
set_option maxRecDepth 100000
set_option maxHeartbeats 4000000
namespace L2
open PySem PySem.Spec PyProof.Rows PySem.W
section
variable {X:Cx}
end
end L2
set_option Elab.async false
set_option linter.all false
set_option maxRecDepth 100000
set_option maxHeartbeats 4000000
namespace L2
open PySem PySem.Spec PyProof.Rows
section
variable {prog:Program} {w:World} {KK:Type} [DecidableEq KK] {kd:HeapKind prog w KK} {A:Around} {E:Value->Shared->Prop} {s:Shared}
end
section
variable {X:Cx}
end
end L2
set_option Elab.async false
set_option linter.all false
set_option maxRecDepth 100000
set_option maxHeartbeats 4000000
namespace L2
open PySem PySem.Spec PyProof.Rows
structure FnLd (P:Program) (w:World) (K:PySem.W.Frag) (mg:Str->Option Value) (base:Heap) (k:Nat) (f:Addr) (fd:FuncData) (ps:List Str) (sp:Sp):Prop where
 len:∀vs H Q E,sp vs H Q E->vs.length=ps.length
 run:∀(A:Around) (a:Value) (outer:List Env) (s:Shared) (H:Hp) (args:Args) (us:List Value) (vs:List V) (Q:VK) (E:XK),qZ k A->W2 P w K mg base (A.mark (some a)) outer s H->BindsTo s fd args (ps.zip us)->qD vs us->sp vs H Q E->
   codeAny (model P w) (A.mark (some a)) (.call (.ref f) args) (CR jh outer P w H s Q E) s
section
variable {P:Program} {w:World} {K:PySem.W.Frag} {mg:Str->Option Value} {base:Heap}
end
section
variable {X:Cx} {k:Nat} {f:Addr} {fd:FuncData} {ps:List Str} {sp:Sp} {x:Str} {p pos:Pos} {e:Expr} {es:List Expr} {t:TA} {a:Value} {E:Value->Shared->Prop}
end
end L2
set_option Elab.async false
set_option linter.all false
set_option maxRecDepth 100000
set_option maxHeartbeats 4000000
namespace L2
open PySem PySem.Spec PyProof.Rows
section
variable {X:Cx}
end
end L2
set_option Elab.async false
set_option linter.all false
set_option maxRecDepth 100000
set_option maxHeartbeats 4000000
namespace L2
open PySem PySem.Spec PyProof.Rows
def vX (C:Addr) (sp:Sp) (dvs:List V) (E:St->XK) (t:TA):TE:=λσ H Q=>t σ H λvs H1=>∀x dx,H1 x=none->H1 dx=none->dx≠x->sp (.ref x::(vs++dvs)) (upd (upd H1 dx (.own x)) x (.ins C dx [])) (λv H2=>v=.non/\Q (.ref x) H2) (E σ)
section
variable {X:Cx} {CX:YL} {k:Nat} {f C:Addr} {fd:FuncData} {ps:List Str} {sp:Sp} {dvs:List V} {ds:List Value} {E:St->XK} {x m:Str} {p pos apos:Pos} {e o:Expr} {es:List Expr} {ta:TE} {t:TA}
theorem U2 {pins:List (Addr×Obj)} {σ:St} {H:Hp} {s:Shared} {Q:VK} {us:List Value} {vs:List V} (M:Mk X.K C f) (F:qv X.prog X.w X.K X.mg X.base CX k f fd ps sp) (hr:qZ (k+1) X.A) (hb:jX X.K fd ps ds) (hd:qD dvs ds)
   (hx:Jx CX X E) (I:qx X pins σ H s) (r:qD vs us)
   (h:∀x dx,H x=none->H dx=none->dx≠x->sp (.ref x::(vs++dvs)) (upd (upd H dx (.own x)) x (.ins C dx [])) (λv H2=>v=.non/\Q (.ref x) H2) (E σ)):
   wpAny (model X.prog X.w) X.A (call (.ref C) us) (EP X pins σ Q) X.xe s:=by
 have hq:=h (s.heap.objs.size+1) s.heap.objs.size (I.hok.fresh (Nat.le_succ _)) (I.hok.fresh (Nat.le_refl _)) (Nat.ne_of_lt (Nat.lt_succ_self _))
 have I2:=qx.made (C:=C) I
 have r2:qD (V.ref (s.heap.objs.size+1)::(vs++dvs)) (Value.ref (s.heap.objs.size+1)::(us++ds)):=.cons rfl (r.append hd)
 have hl:(Value.ref (s.heap.objs.size+1)::us++ds).length=ps.length:=by
   have e:=r2.length
   rw[F.len _ _ _ _ hq]at e
   exact e.symm
 refine wpAny_call (WH (f:=f) I.kIn M.makes M.init (beq_iff_eq.mp M.fn) (codeAny_mono (F.run _ X.stack _ _ ⟨Value.ref (s.heap.objs.size+1)::us,[]⟩ (Value.ref (s.heap.objs.size+1)::(us++ds)) _ _ (E σ) (hr.make C us [])
   (I2.env0.make C us []) (hb _ (Value.ref (s.heap.objs.size+1)::us) I2.kIn hl) r2 hq) λr s' hq'=>?_))
 cases r with
 | error e=>exact hx pins σ _ _ e s' I2 hq'
 | ok fl=>
   cases fl with
   | ret u=>
     obtain⟨v,H',I3,rv,ev,q3⟩:=I2.after hq'
     subst ev
     exact⟨rv,⟨V.ref (s.heap.objs.size+1),H',I3,rfl,q3⟩⟩
   | next=>exact False.elim hq'
   | brk=>exact False.elim hq'
   | cont=>exact False.elim hq'
theorem yL (M:Mk X.K C f) (F:qv X.prog X.w X.K X.mg X.base CX k f fd ps sp) (hr:qZ (k+1) X.A) (hg:Gl X x) (hm:X.mg x=some (.ref C)) (hb:jX X.K fd ps ds) (hd:qD dvs ds) (hx:Jx CX X E) (ha:JA X (e::es) t) (hdb:(x==("__debug__":Str))=false:=by decide) (he:starEach (e::es) X.env=(false,eval e X.env)::starEach es X.env:=by rfl) (hpl:(backTo pos (starEach es X.env)).any (·.1)=false:=by rfl):JE X (.Call (.Name x p) (e::es) [] pos) (vX C sp dvs E t):=.of (by
 have ha:=ha.to
 intro pins s σ H Q I h
 refine wpAny_Call_Name_kw (Ze I hg hm ?_ hdb)
 refine PySem.W.callWith_K (h₀:=X.base) I.ok.mod.kin M.kp (jg (ha pos pins s σ H _ I h) λus s1 ⟨vs,H1,I1,r,q⟩=>⟨I1.kIn,?_⟩) he hpl
 exact U2 M F hr hb hd hx I1 r q)
end
section
variable {X:Cx}
end
section
variable {X:Cx} {pins:List (Addr×Obj)} {σ:St} {H:Hp} {s:Shared}
end
end L2
set_option Elab.async false
set_option linter.all false
set_option maxRecDepth 100000
set_option maxHeartbeats 4000000
namespace L2
open PySem PySem.Spec PyProof.Rows
section
variable {prog:Program} {w:World} {A:Around} {E:Value->Shared->Prop} {s:Shared}
end
section
variable {X:Cx} {pos:Pos}
end
end L2
set_option Elab.async false
set_option linter.all false
set_option maxRecDepth 100000
set_option maxHeartbeats 4000000
namespace L2
open PySem PySem.Spec PyProof.Rows
section
variable {X:Cx}
end
end L2
set_option Elab.async false
set_option linter.all false
set_option maxRecDepth 100000
set_option maxHeartbeats 4000000
namespace L2
open PySem PySem.Spec PyProof.Rows
section
variable {X:Cx} {N':List Str} {ix:List (Option Nat)} {scope:Scope}
end
end L2
set_option Elab.async false
set_option linter.all false
set_option maxRecDepth 100000
set_option maxHeartbeats 4000000
namespace L2
open PySem PySem.Spec PyProof.Rows
abbrev KG (o:Obj):HO:=.frz o (.frz o (.own 0))
def KC (q:Str) (oc:Obj):Prop:=∃(vs:Array Value) (t:Tok),oc.data=.fields vs/\vs[1]?=some (.str q t)
structure TabM (mg:Str->Option Value) (base:Heap) (c P:Addr):Prop where
 code:PySem.W.CodeHd base c P
 blt:base.BuiltinsAt mg P
section
variable {X:Cx} {pins:List (Addr×Obj)} {σ:St} {H:Hp} {s:Shared}
structure Made (X:Cx) (σ:St) (H H':Hp) (P:Addr) (name qual:Str) (params:Arguments) (body:List Stmt) (scope:Scope) (f c':Addr) (doc pm ctv:Value) (oc:Obj):Prop where
 same:Same H H'
 new:H f=none
 fn:H' f=some (KG (PySem.W.fnMade name qual params body scope (jA X.env scope.names []) doc pm c' ctv))
 cd:H' c'=some (.frz oc (.own P))
 cq:KC qual oc
 cells:∀x,(x,NameKind.free)∈scope.names->∃ca co v,(jA X.env scope.names []).lookup x=some ca/\H' ca=some (KG co)/\co.data=.cell v/\∀(i:Nat) (y:V),X.N[i]?=some x->σ[i]?=some (some y)->∃u,v=some u/\qN y u
 inj:∀x y c,(jA X.env scope.names []).lookup x=some c->(jA X.env scope.names []).lookup y=some c->x=y
open Classical in
end
end L2
set_option Elab.async false
set_option linter.all false
set_option maxRecDepth 100000
set_option maxHeartbeats 4000000
namespace L2
open PySem PySem.Spec PyProof.Rows
section
variable {P:Program} {w:World} {K:PySem.W.Frag} {mg:Str->Option Value} {base:Heap} {N:List Str} {qual:Str} {scope:Scope} {f:Addr} {cd:Value} {A:Around} {outer:List Env} {s₀:Shared} {H₀:Hp} {E:XK}
end
section
variable {P:Program} {w:World} {K:PySem.W.Frag} {mg:Str->Option Value} {base:Heap}
end
structure G7 (N ps fr:List Str) (sc:Scope):Prop where
 kind:sc.kind=.function
 co:sc.isCoroutine=false
 gen:sc.isGenerator=false
 nd:N.Nodup
 pre:N.take (ps++fr).length=ps++fr
 par:∀x∈ps,sc.names.lookup x=some .local
 free:∀x∈fr,sc.names.lookup x=some .free
 frees:∀y∈sc.names,y.2=.free->y.1∈fr
 nocell:∀y∈sc.names,y.2≠.cell
structure Clo (H:Hp) (P f:Addr) (name qual:Str) (st:Stmt) (fd:FuncData) (ws:List (Str×V)):Prop where
 ex:∃(doc pm ctv:Value) (c':Addr) (cl:List (Str×Addr)) (oc:Obj),fd=PySem.W.fnX name qual (Qz st) (jZ st) (qo st) cl .none .none doc pm none (.ref c') ctv/\H f=some (KG {cls:=.type "function",data:=.func fd})/\H c'=some (.frz oc (.own P))/\KC qual oc/\
   (∀x y c,cl.lookup x=some c->cl.lookup y=some c->x=y)/\(∀x c,cl.lookup x=some c->x∈ws.map (·.1))/\
   ∀x v,(x,v)∈ws->∃c o u,cl.lookup x=some c/\H c=some (KG o)/\o.data=.cell (some u)/\qN v u
section
variable {P:Program} {w:World} {K:PySem.W.Frag} {mg:Str->Option Value} {base:Heap}
end
section
variable {X:Cx} {CX:YL} {C:Addr->FuncData->Sp->Prop} {E:St->XK} {x:Str} {p pos:Pos} {e:Expr} {es:List Expr} {t:TA} {i:Nat}
end
end L2
set_option Elab.async false
set_option linter.all false
set_option maxRecDepth 100000
set_option maxHeartbeats 4000000
namespace L2
open PySem PySem.Spec PyProof.Rows
structure Tab where
 x:Str
 c:Addr
 P:Addr
 q:Str
end L2
set_option Elab.async false
set_option linter.all false
set_option maxRecDepth 100000
set_option maxHeartbeats 4000000
namespace L2
open PySem PySem.Spec PyProof.Rows
mutual
inductive DG (H:Hp):V->PyData->Prop
 | non:DG H .non .none
 | bl (b:Bool):DG H (.bl b) (.bool b)
 | int (i:Int):DG H (.int i) (.int i)
 | str (x:Str):DG H (.str x) (.str x)
 | lst {a:Addr} {xs:List V} {ds:List PyData}:H a=some (.lst xs)->a≠sysModules->DGs H xs ds->DG H (.ref a) (.list ds)
 | tup {a:Addr} {xs:List V} {ds:List PyData}:H a=some (.tup xs)->DGs H xs ds->DG H (.ref a) (.tuple ds)
 | dct0 {a:Addr}:H a=some (.dK [])->DG H (.ref a) (.dict [])
 | dct1 {a:Addr} {z:Str} {i:Int}:H a=some (.dK [(Sum.inr z,.int i)])->DG H (.ref a) (.dict [(.str z,.int i)])
inductive DGs (H:Hp):List V->List PyData->Prop
 | nil:DGs H [] []
 | cons {x:V} {xs:List V} {d:PyData} {ds:List PyData}:DG H x d->DGs H xs ds->DGs H (x::xs) (d::ds)
end
section
variable {X:Cx} {pins:List (Addr×Obj)} {σ:St} {H:Hp} {s:Shared}
end
section
variable {X:Cx}
end
end L2
set_option Elab.async false
set_option linter.all false
set_option maxRecDepth 100000
set_option maxHeartbeats 4000000
namespace L2
open PySem PySem.Spec PyProof.Rows
structure CloE (H:Hp) (P f:Addr) (qual:Str) (ag:Arguments) (be:Expr) (sc:Scope) (fd:FuncData) (ws:List (Str×V)):Prop where
 ex:∃(pm ctv:Value) (c':Addr) (cl:List (Str×Addr)) (oc:Obj),fd=PySem.W.kla_fn "<lambda>" qual ag be sc cl pm (.ref c') ctv/\H f=some (KG {cls:=.type "function",data:=.func fd})/\H c'=some (.frz oc (.own P))/\KC qual oc/\
   (∀x y c,cl.lookup x=some c->cl.lookup y=some c->x=y)/\(∀x c,cl.lookup x=some c->x∈ws.map (·.1))/\
   ∀x v,(x,v)∈ws->∃c o u,cl.lookup x=some c/\H c=some (KG o)/\o.data=.cell (some u)/\qN v u
section
variable {P:Program} {w:World} {K:PySem.W.Frag} {mg:Str->Option Value} {base:Heap}
end
section
variable {X:Cx} {c P:Addr} {qual:Str} {ag:Arguments} {be:Expr} {sc:Scope} {pos:Pos}
end
section
variable {P:Program} {w:World} {K:PySem.W.Frag} {mg:Str->Option Value} {base:Heap} {N:List Str} {qual:Str} {scope:Scope} {f:Addr} {cd:Value} {cl:List (Str×Addr)} {A:Around} {outer:List Env} {s₀:Shared} {H₀:Hp} {E:XK}
end
section
variable {P:Program} {w:World} {K:PySem.W.Frag} {mg:Str->Option Value} {base:Heap}
end
end L2
set_option Elab.async false
set_option linter.all false
set_option maxRecDepth 100000
set_option maxHeartbeats 4000000
namespace L2
open PySem PySem.Spec PySem.Builtin PySem.Builtin.Str PyProof.Rows
section
variable {X:Cx}
theorem YM:∀(l:List (Str×Tok)),qD ((l.map (·.1)).map V.str) (strValues l)
 | []=>.nil
 | p::r=>.cons ⟨p.2,rfl⟩ (YM r)
def uU:V->List V->Hp->VK->Prop:=λx xs H Q=>∃z y:Str,x=.str z/\xs=[.str y]/\(y.length==0)=false/\z.length<=1000/\∀l,H l=none->Q (.ref l) (upd H l (.lst ((Txt.split z y).map V.str)))
theorem Qo:KL X "str.split" uU:=by
 intro pins s σ H x xs v us Q I rx rs h
 obtain⟨x,y,rfl,rfl,hy,hz,q⟩:=h
 obtain⟨t,rfl⟩:=rx
 obtain⟨w',rfl,rw'⟩:=QU rs
 obtain⟨u,rfl⟩:=rw'
 have hz':x.length+2<=sizeLine:=by exact Nat.le_trans (Nat.add_le_add_right hz 2) (by decide+kernel)
 have fin:∀(l:List (Str×Tok)) (k:Tok),l.map (·.1)=Txt.split x y->EP X pins σ Q (.ref s.heap.objs.size) {s with heap:=s.heap.push {cls:=.type "list",data:=.seq (strValues l).toArray},toks:=k}:=λl k e=>by
   refine⟨.ref s.heap.objs.size,_,I.laid (t':=k) (o:=.lst ((Txt.split x y).map V.str)) (λb o e=>Heap.get?_push_of_some _ e) (Nat.le_refl _) ?_,rfl,q _ (I.hok.fresh (Nat.le_refl _))⟩
   refine⟨?_,strValues l,0,?_,Heap.get?_push_size _ rfl⟩
   . rw[List.length_map]
     have:=split_le x y
     omega
   . rw[<-e]
     exact YM l
 have hn:(partsBetween x (occurrences x y 0 x.length (x.length+1)) y.length).length<=sizeLine:=by
   have e1:=StrLaws.occ_length_le x y 0 x.length (x.length+1)
   rw[length_partsBetween];omega
 cases h1:(decide (x.length < y.length) || decide (strKind x < strKind y))
 . cases hf:(occurrences x y 0 x.length (x.length+1)).isEmpty
   . refine call_meets F.slot_str_split (typeIs_str _ _ _) F.entry_str_split (F.args_str_split_2 _ _) (meets_str_split_sep x y t u h1 hy hf (by omega) hn) ?_
     show wants _ _ _ {s with toks:=_,heap:=s.heap.push {cls:=.type "list",data:=.seq (strsFrom s.toks (partsBetween x (occurrences x y 0 x.length (x.length+1)) y.length)).toArray}}
     rw[strsFrom_eq]
     exact fin (numbered s.toks _) _ ((numbered_texts _ _).trans ((if_neg (ne_true_of_eq_false h1)).trans (if_neg (ne_true_of_eq_false hf))).symm)
   . exact call_meets F.slot_str_split (typeIs_str _ _ _) F.entry_str_split (F.args_str_split_2 _ _) (meets_str_split_not_found x y t u h1 hy hf)
       (fin [(x,t)] s.toks ((if_neg (ne_true_of_eq_false h1)).trans (if_pos hf)).symm)
 . exact call_meets F.slot_str_split (typeIs_str _ _ _) F.entry_str_split (F.args_str_split_2 _ _) (meets_str_split_cannot_occur x y t u h1)
     (fin [(x,t)] s.toks (if_pos h1).symm)
def RF:V->Option Int->Option Int->Hp->VK->Prop:=λx lo hi H Q=>∃z:Str,x=.str z/\z.length<=1000/\Q (.str (Txt.slice z lo hi)) H
theorem Qw:Ri X RF:=by
 intro pins s σ H x v vl vu lo hi sl Q I rx hs pl pu h
 obtain⟨z,rfl,hz,q⟩:=h
 obtain⟨t,rfl⟩:=rx
 refine⟨"str",_,PySem.F.slot_str_getitem.lookup,typeIs_str _ _ _,?_⟩
 have fin:∀l u:Option (Int×Tok),s.heap.IsSlice sl l u none->l.map (·.1)=lo->u.map (·.1)=hi->wpAny (model X.prog X.w) X.A (getItem (.str z t) (.ref sl)) (EP X pins σ Q) X.xe s:=λl u h1 e1 e2=>by
   subst e1 e2
   exact wpAny_getItem_str_slice (l:=l) (u:=u) (st:=none) h1 rfl (post_val_or_str ⟨Nat.le_trans (Txt.slice_le z _ _) (Nat.le_of_lt (ql hz)),λt' k=>⟨.str _,H,I.tok k,⟨t',rfl⟩,q⟩⟩)
 cases pl with
 | none=>
   cases pu with
   | none=>exact fin none none hs rfl rfl
   | int j u=>exact fin none (some (j,u)) hs rfl rfl
 | int i u'=>
   cases pu with
   | none=>exact fin (some (i,u')) none hs rfl rfl
   | int j u=>exact fin (some (i,u')) (some (j,u)) hs rfl rfl
end
theorem Qv {a b:Str} (h:a.cps.toList=b.cps.toList):a=b:=Str.ext' (Array.toList_inj.mp h)
theorem wS {c:Nat}:∀{a b r s:List Nat},c∉a->c∉b->a++c::r=b++c::s->a=b/\r=s:=by
 intro a
 induction a with
 | nil=>
   intro b r s _ hb e
   cases b with
   | nil=>exact⟨rfl,(List.cons.inj e).2⟩
   | cons y b=>exact absurd (by rw[(List.cons.inj e).1];exact List.mem_cons_self) hb
 | cons x a ih=>
   intro b r s ha hb e
   cases b with
   | nil=>exact absurd (by rw[<-(List.cons.inj e).1];exact List.mem_cons_self) ha
   | cons y b=>
     obtain⟨e1,e2⟩:=List.cons.inj e
     obtain⟨h1,h2⟩:=ih (λz=>ha (List.mem_cons_of_mem _ z)) (λz=>hb (List.mem_cons_of_mem _ z)) e2
     exact⟨by rw[e1,h1],h2⟩
theorem yI {c:Nat}:∀{xs ys:List Str},xs≠[]->ys≠[]->(∀x∈xs,c∉x.cps.toList)->(∀x∈ys,c∉x.cps.toList)->Str.join ⟨#[c]⟩ xs=Str.join ⟨#[c]⟩ ys->xs=ys:=by
 have cps:∀(x y:Str) (l:List Str),(Str.join ⟨#[c]⟩ (x::y::l)).cps.toList=x.cps.toList++c::(Str.join ⟨#[c]⟩ (y::l)).cps.toList:=λx y l=>by
   show ((x++⟨#[c]⟩)++Str.join ⟨#[c]⟩ (y::l)).cps.toList=_
   show ((x.cps++#[c])++(Str.join ⟨#[c]⟩ (y::l)).cps).toList=_
   simp
 intro xs
 induction xs with
 | nil=>intro ys h;exact absurd rfl h
 | cons x l ih=>
   intro ys _ hy fx fy e
   cases ys with
   | nil=>exact absurd rfl hy
   | cons y m=>
     cases l with
     | nil=>
       cases m with
       | nil=>rw[show x=y from e]
       | cons y2 m=>
         have:=congrArg (λs:Str=>s.cps.toList) e
         rw[cps y y2 m]at this
         exact absurd (show c∈x.cps.toList from by rw[show x.cps.toList=_ from this];simp) (fx x List.mem_cons_self)
     | cons x2 l=>
       cases m with
       | nil=>
         have:=congrArg (λs:Str=>s.cps.toList) e
         rw[cps x x2 l]at this
         exact absurd (show c∈y.cps.toList from by rw[show y.cps.toList=_ from this.symm];simp) (fy y List.mem_cons_self)
       | cons y2 m=>
         have:=congrArg (λs:Str=>s.cps.toList) e
         rw[cps x x2 l,cps y y2 m]at this
         obtain⟨h1,h2⟩:=wS (fx x List.mem_cons_self) (fy y List.mem_cons_self) this
         rw[Qv h1,ih (by simp) (by simp) (λz hz=>fx z (List.mem_cons_of_mem _ hz)) (λz hz=>fy z (List.mem_cons_of_mem _ hz)) (Qv h2)]
theorem Qn (x y:Str):Txt.split x y≠[]:=λz=>by
 have:=split_pos x y
 rw[z]at this
 exact absurd this (by decide)
theorem Jj {c:Nat} {xs:List Str} (h:xs≠[]) (f:∀x∈xs,c∉x.cps.toList):Txt.split (Str.join ⟨#[c]⟩ xs) ⟨#[c]⟩=xs:=
 yI (Qn _ _) h (StrLaws.split_free _ c) f (StrLaws.join_split _ _)
end L2
set_option Elab.async false
set_option linter.all false
set_option maxRecDepth 100000
set_option maxHeartbeats 4000000
namespace L2
open PySem PySem.Spec PySem.Builtin PySem.Builtin.Str PyProof.Rows
section
variable {X:Cx}
def uT:V->List V->Hp->VK->Prop:=λx xs H Q=>∃z:Str,x=.str z/\xs=[]/\(Txt.upper z).length<=1000/\Q (.str (Txt.upper z)) H
theorem yv:KL X "str.upper" uT:=by
 intro pins s σ H x xs v us Q I rx rs h
 obtain⟨z,rfl,rfl,hz,q⟩:=h
 obtain⟨t,rfl⟩:=rx
 cases rs
 exact SC.upper (by unfold tooLong;exact decide_eq_false (Nat.not_lt.mpr (Nat.le_of_lt (ql hz)))) ⟨.str _,H,I.tok _,⟨_,rfl⟩,q⟩
theorem Uu {pins:List (Addr×Obj)} {s:Shared} {σ:St} {H:Hp} {i:Nat} {x:Str} {v:V} {pos:Pos} {Q:Value->Shared->Prop} {E:Value->Shared->Prop} (I:qx X pins σ H s) (hN:X.N[i]?=some x) (hv:Kw X.env.scope x) (hd:(x==("__debug__":Str))=false) (hcd:(x==("__classdict__":Str))=false) (e:σ[i]?=some (some v)) (q:∀u,qN v u->Q u s):
   wpAny (model X.prog X.w) X.A (eval (.Name x pos) X.env) Q E s:=by
 obtain⟨m,hn,hl⟩:=I.loc
 obtain⟨u,r,l⟩:=hl i x v hN e hv
 have fin:Q u s:=q u r
 rcases l with ⟨hk,hm⟩ | ⟨hk,c,hc,hcell⟩
 . exact wpAny_Name (wpAny_loadName_local I.ok.kind hk hn hm fin) hd
 . rcases hk with hk | hk
   . exact wpAny_Name (wpAny_loadName_cell I.ok.kind hk hc hcell fin) hd
   . exact wpAny_Name (wpAny_loadName_free I.ok.kind hk hc hcell fin hcd) hd
def Rn (i:Nat) (a b c:Str) (t:TA):TA:=λσ H R=>∃z:Str,σ[i]?=some (some (.str z))/\z.length<=1000/\(a.length==0)=false/\a.length<=14/\(b==c)=false/\c.length<=14/\t σ H λvs H1=>R (.str (a++z)::.str (Txt.replace z b c)::vs) H1
theorem Kr (i:Nat) {x:Str} {a b c:Str} {k1 k2 k3:Nat} {p0 p1 p2 p3 p4 p5 apos cpos:Pos} {es:List Expr} {t:TA} (hr:JA X es t) (hN:X.N[i]?=some x:=by rfl) (hv:Kw X.env.scope x:=by first | exact Or.inl rfl | exact Or.inr (Or.inl rfl) | exact Or.inr (Or.inr rfl)) (hd:(x==("__debug__":Str))=false:=by decide) (hcd:(x==("__classdict__":Str))=false:=by decide) (hbase:attributeBase (.Name x p3) (Str.ofString "replace") X.env (eval (.Name x p3) X.env)=eval (.Name x p3) X.env:=by rfl) (hline:(apos.endLine==cpos.line)=true:=by rfl):JA X (.BinOp (.Constant (.str a) k1 p1) .Add (.Name x p2) p0::.Call (.Attribute (.Name x p3) (Str.ofString "replace") apos) [.Constant (.str b) k2 p4,.Constant (.str c) k3 p5] [] cpos::es) (Rn i a b c t):=.of (by
 have hr:=hr.to
 intro pos pins s σ H Q I h
 obtain⟨z,e,hz,ha,la,hbc,lc,h⟩:=h
 show wpAny _ _ (spliced ((false,eval (.BinOp (.Constant (.str a) k1 p1) .Add (.Name x p2) p0) X.env)::(false,eval (.Call (.Attribute (.Name x p3) (Str.ofString "replace") apos) [.Constant (.str b) k2 p4,.Constant (.str c) k3 p5] [] cpos) X.env)::backTo pos (starEach es X.env))) _ _ s
 have fin:∀(t':Tok) (k:Nat),0 < k->wpAny (model X.prog X.w) X.A (spliced ((false,eval (.Call (.Attribute (.Name x p3) (Str.ofString "replace") apos) [.Constant (.str b) k2 p4,.Constant (.str c) k3 p5] [] cpos) X.env)::backTo pos (starEach es X.env))) (λvs s₂=>AP X pins σ Q (.str (a++z) t'::vs) s₂) X.xe {s with toks:=k}:=λt' k hk=>by
   have I1:=I.tok k
   refine Calls.spliced_cons (wpAny_Call_method_late hbase rfl hline rfl (Uu I1 hN hv hd hcd e λu ru=>?_))
   obtain⟨tz,rfl⟩:=ru
   refine⟨"str","str.replace",PySem.F.plainAttrs_str,PySem.F.slot_str_replace,PySem.F.type_str_replace,typeIs_str _ _ _,(λa e=>nomatch e),?_⟩
   refine Calls.callWith_builtin rfl (Calls.evalArgs_plain ?_)
   refine Calls.spliced_cons (Calls.Constant_str (k:=k2) (pos:=p4) (Calls.spliced_cons (Calls.Constant_str (k:=k3) (pos:=p5) (Calls.spliced_nil ?_))))
   refine SC.replaceW (Nat.ne_of_gt hk) (Nat.ne_of_gt (Nat.succ_pos _)) (Nat.ne_of_lt (Nat.lt_succ_self _)) hbc (Nat.le_trans hz (by decide)) lc λt2 k2=>?_
   exact jg (hr pos pins _ σ H _ (I.tok _) h) λus s2 ⟨xs,H2,I2,r2,q2⟩=>⟨.str (a++z)::.str (Txt.replace z b c)::xs,H2,I2,.cons (show ∃t,_=_ from⟨t',rfl⟩) (.cons ⟨t2,rfl⟩ r2),q2⟩
 refine Calls.spliced_cons (wpAny_BinOp (Calls.Constant_str (Uu (I.tok _) hN hv hd hcd e λu ru=>?_)))
 obtain⟨tz,rfl⟩:=ru
 refine P.add_str ?_
 rw[if_neg (by rw[ha];exact Bool.false_ne_true)]
 cases hz0:z.length==0 with
 | true=>
   rw[if_pos rfl]
   have e0:a++z=a:=by
     have:z.cps=#[]:=Array.size_eq_zero_iff.mp (eq_of_beq hz0)
     obtain⟨zc⟩:=z
     cases this
     exact Str.ext' (show a.cps++#[]=a.cps by simp)
   rw[e0]at fin
   exact fin _ _ (Nat.succ_pos _)
 | false=>
   rw[if_neg Bool.false_ne_true]
   refine⟨?_,fin _ _ (Nat.succ_pos _)⟩
   rw[show (a++z).length=a.length+z.length from Array.size_append]
   exact Nat.le_of_lt (Nat.lt_of_le_of_lt (by omega:a.length+z.length<=1014) (by decide)))
end
end L2
set_option Elab.async false
set_option linter.all false
set_option maxRecDepth 100000
set_option maxHeartbeats 4000000
namespace Rh
open PySem L2
def top (i:Nat):Stmt:=PySem.Challenge.pw_ringheaps_k04_whole_any_ground_text.main.body.getD i (.Pass ⟨0,0,0,0⟩)
abbrev QW:Stmt:=top 11
abbrev Uf:Stmt:=top 30
abbrev zP:Stmt:=top 31
abbrev JQ:Stmt:=top 32
abbrev Ya:Stmt:=top 33
abbrev Yb:Stmt:=top 34
abbrev Ub:Stmt:=top 35
abbrev XB:Stmt:=top 46
end Rh
namespace Rh
open PySem L2 PyProof.Rows
structure jC (K:PySem.W.Frag) (mg:Str->Option Value) (x:Str) (st:Stmt) (ps:List Str) (f:Addr) (fd:FuncData):Prop where
 fn:Qj K x x st f fd
 ns:mg x=some (.ref f)
 bi:jX K fd ps []
theorem qQ {X:Cx} {x:Str} {st:Stmt} {ps:List Str} {f:Addr} {fd:FuncData} {k:Nat} {sp:Sp} {e:Expr} {es:List Expr} {t:TA} {p pos:Pos} (h:jC X.K X.mg x st ps f fd) (G:qv X.prog X.w X.K X.mg X.base jh k f fd ps sp) (hr:qZ k X.A)
   (hg:Gl X x) (ha:JA X (e::es) t) (hdb:(x==("__debug__":Str))=false:=by decide) (he:starEach (e::es) X.env=(false,eval e X.env)::starEach es X.env:=by rfl) (hpl:(backTo pos (starEach es X.env)).any (·.1)=false:=by rfl):
   JE X (.Call (.Name x p) (e::es) [] pos) (Jz sp [] E0 t):=.of (Ul G hr hg h.ns h.fn.kp h.bi .nil JX ha.to hdb he hpl)
theorem qk {H:Hp} {b p:Addr} {o o':HO} (h:H b=some o) (hp:H p=none):upd H p o' b=some o:=by
 rw[qg (qt h hp)]
 exact h
theorem qj {H:Hp} {p:Addr} {o:HO} (hp:H p=none):Same H (upd H p o):=λb u h=>qk h hp
theorem Same.upd {H H':Hp} {p:Addr} {o:HO} (s:Same H H') (hp:H p=none):Same H (upd H' p o):=λb u h=>by
 rw[qg (qt h hp)]
 exact s b u h
def qP (n s t:Int):List (ja×V):=[(Sum.inr "number",.int n),(Sum.inr "seed",.int s),(Sum.inr "turn",.int t)]
theorem nns:¬(Str.ofString "number")=Str.ofString "seed":=by decide+kernel
theorem RP:¬(Str.ofString "number")=Str.ofString "turn":=by decide+kernel
theorem RO:¬(Str.ofString "seed")=Str.ofString "turn":=by decide+kernel
theorem nsn:¬(Str.ofString "seed")=Str.ofString "number":=by decide+kernel
theorem ntn:¬(Str.ofString "turn")=Str.ofString "number":=by decide+kernel
theorem nts:¬(Str.ofString "turn")=Str.ofString "seed":=by decide+kernel
theorem yU {a b:Str} (h:¬a=b):¬(Sum.inr a:ja)=Sum.inr b:=λe=>h (Sum.inr.inj e)
section
variable {H:Hp} {d:Addr} {n s t:Int}
theorem gN (h:H d=some (.dK (qP n s t))):Q7 H d (.str "number") (some (.int n)):=by
 have e:jI (qP n s t) (Sum.inr "number":ja)=some (.int n):=jq rfl
 have q:=Q7.k (k:=(Sum.inr "number":ja)) h
 rw[e]at q
 exact q
theorem gS (h:H d=some (.dK (qP n s t))):Q7 H d (.str "seed") (some (.int s)):=by
 have e:jI (qP n s t) (Sum.inr "seed":ja)=some (.int s):=(jr (yU nns)).trans (jq rfl)
 have q:=Q7.k (k:=(Sum.inr "seed":ja)) h
 rw[e]at q
 exact q
theorem gT (h:H d=some (.dK (qP n s t))):Q7 H d (.str "turn") (some (.int t)):=by
 have e:jI (qP n s t) (Sum.inr "turn":ja)=some (.int t):=(jr (yU RP)).trans ((jr (yU RO)).trans (jq rfl))
 have q:=Q7.k (k:=(Sum.inr "turn":ja)) h
 rw[e]at q
 exact q
theorem K0:(qP n s t).length < sizeLine:=ql (by show 3<=1000;decide)
theorem pN (h:H d=some (.dK (qP n s t))) (v:Int):JK H d (.str "number") (.int v) (upd H d (.dK (qP v s t))):=by
 have e:jW (qP n s t) (Sum.inr "number":ja) (.int v)=qP v s t:=by
   unfold jW qP
   simp [nsn,ntn]
 have q:=JK.k (k:=(Sum.inr "number":ja)) (v:=.int v) h K0
 rw[e]at q
 exact q
theorem pT (h:H d=some (.dK (qP n s t))) (v:Int):JK H d (.str "turn") (.int v) (upd H d (.dK (qP n s v))):=by
 have e:jW (qP n s t) (Sum.inr "turn":ja) (.int v)=qP n s v:=by
   unfold jW qP
   simp [RP,RO]
 have q:=JK.k (k:=(Sum.inr "turn":ja)) (v:=.int v) h K0
 rw[e]at q
 exact q
end
def Jk:Sp:=λvs H Q _=>∃(d:Addr) (m n s t:Int),vs=[.ref d,.int m]/\H d=some (.dK (qP n s t))/\0 < m/\m.natAbs < 2^200/\∀r n' t',0<=r->r < m->Q (.int r) (upd H d (.dK (qP n' s t')))
def Wl:Sp:=λvs H Q _=>∃c:Int,vs=[.int c]/\∀d n s,H d=none->Q (.ref d) (upd H d (.dK (qP n s 0)))
def kr (K:PySem.W.Frag):Sp:=λvs H Q _=>∃(a:Addr) (ns:List Int) (k:Int),vs=[.ref a,.int k]/\SqL K H a (ns.map V.int)/\0<=k/\∀v,Q (.int v) H
section
variable {P:Program} {w:World} {K:PySem.W.Frag} {mg:Str->Option Value} {base:Heap}
theorem XA:qC ["_law_source_here","_law_many","_law_digit","_law_number"] ["_law_source_here","_law_many"] (qo JQ):=⟨rfl,rfl,rfl,by decide+kernel,rfl,by decide+kernel,by decide+kernel⟩
theorem QY {f:Addr} {fd:FuncData} (F:Qj K "_law_take" "_law_take" JQ f fd):qv P w K mg base jh 1 f fd ["_law_source_here","_law_many"] Jk:=by
 refine F.okJ XA (λvs H Q E h=>?_) (λcdv A outer s H vs Q E hr h=>?_)
 . obtain⟨d,m,n,sd,t,rfl,_⟩:=h
   rfl
 . obtain⟨d,m,n,sd,t,rfl,hd,m0,m1,k⟩:=h
   have hu:=ZV hr
   refine⟨_,qf (qK (qp Yi (Q2 hu (jv 0) qy (λ_ _=>rfl)) qi (qA _))
       (qf (qr (i:=2) XA.nd rfl (Or.inl rfl) (qE QK (Q2 hu (jv 0) qy (λ_ _=>rfl)) (jv 1)))
       (qf (jY hu (jv 0) qy (qE yg (Q2 hu (jv 0) qy (λ_ _=>rfl)) (jv 1)) rfl)
       (qh (qF (jv 2))))) qu)
     (qf (jY hu (jv 0) qy (qE jD (Q2 hu (jv 0) qy (λ_ _=>rfl)) qi) rfl)
     (qf (qr (i:=3) XA.nd rfl (Or.inl rfl) (qE QK (qE Jo (qE jD (Q2 hu (jv 0) qy (λ_ _=>rfl)) (qE Jo qi (Q2 hu (jv 0) qy (λ_ _=>rfl)))) qi) qi))
     (qf (qr (i:=3) XA.nd rfl (Or.inl rfl) (qE QK (qE Jo (jv 3) (jv 3)) qi))
     (qh (qF (qE QK (qE Uo (qE QK (qE Jo (qE jD (jv 3) (Q2 hu (jv 0) qy (λ_ _=>rfl))) (qE jD (jv 3) qi)) qi) qi) (jv 1))))))),?_⟩
   refine⟨_,rfl,d,_,rfl,gN hd,_,_,rfl,rfl,_,rfl,?_⟩
   refine J6 (λ_=>?_) (λ_=>?_)
   . refine⟨_,rfl,d,_,rfl,gN hd,_,rfl,_,_,rfl,rfl,m0,?_⟩
     refine⟨_,rfl,d,_,rfl,gN hd,_,rfl,_,_,rfl,rfl,⟨m0,m1⟩,_,rfl,d,_,rfl,pN hd _,?_⟩
     exact⟨_,rfl,k _ _ _ (Int.emod_nonneg _ (by omega)) (Int.emod_lt_of_pos _ m0)⟩
   . refine⟨_,rfl,d,_,rfl,gT hd,_,_,rfl,rfl,_,rfl,d,_,rfl,pT hd _,?_⟩
     have h1:upd H d (.dK (qP n sd (t+1))) d=some (.dK (qP n sd (t+1))):=qd
     refine⟨_,rfl,d,_,rfl,gS h1,_,rfl,d,_,rfl,gT h1,_,_,rfl,rfl,.inl ⟨by decide,by decide⟩,_,_,rfl,rfl,_,_,rfl,rfl,.inr ⟨by decide,by decide⟩,_,_,rfl,rfl,(by show (0:Int) < 2147483647;decide),?_⟩
     generalize ha:((sd+7919*(t+1))*48271) % 2147483647=x
     have x0:0<=x:=by rw[<-ha];exact Int.emod_nonneg _ (by decide)
     have x1:x < 2147483647:=by rw[<-ha];exact Int.emod_lt_of_pos _ (by decide)
     refine⟨_,rfl,_,rfl,_,_,rfl,rfl,.inl ⟨by omega,by omega⟩,_,_,rfl,rfl,(by show (0:Int) < 2147483629;decide),?_⟩
     generalize hb:(x*x) % 2147483629=y
     have y0:0<=y:=by rw[<-hb];exact Int.emod_nonneg _ (by decide)
     have y1:y < 2147483629:=by rw[<-hb];exact Int.emod_lt_of_pos _ (by decide)
     refine⟨_,rfl,_,rfl,d,_,rfl,gT h1,_,_,rfl,rfl,_,rfl,_,_,rfl,rfl,_,_,rfl,rfl,.inr ⟨by omega,by omega⟩,_,_,rfl,rfl,(by show (0:Int) < 2147483587;decide),_,_,rfl,rfl,⟨by decide,by decide⟩,_,rfl,_,_,rfl,rfl,m0,?_⟩
     exact k _ _ _ (Int.emod_nonneg _ (by omega)) (Int.emod_lt_of_pos _ m0)
end
end Rh
namespace Rh
open PySem L2 PyProof.Rows
structure Zu (mg:Str->Option Value):Prop where
 len:mg "len"=none
 max:mg "max"=none
 min:mg "min"=none
 int:mg "int"=none
 rng:mg "range"=none
theorem vh (n s t:Int):Zz [] (qP n s t)=qP n s t:=by
 unfold Zz qP
 simp only[List.foldl_cons,List.foldl_nil]
 unfold jW
 simp [nns,RP,RO,nsn,ntn,nts]
section
variable {P:Program} {w:World} {K:PySem.W.Frag} {mg:Str->Option Value} {base:Heap}
theorem kC:qC ["_law_cell"] ["_law_cell"] (qo zP):=⟨rfl,rfl,rfl,by decide+kernel,rfl,by decide+kernel,by decide+kernel⟩
theorem vc {f:Addr} {fd:FuncData} (F:Qj K "_law_source" "_law_source" zP f fd) (B:Zu mg):qv P w K mg base jh 1 f fd ["_law_cell"] Wl:=by
 refine F.okJ kC (λvs H Q E h=>?_) (λcdv A outer s H vs Q E hr h=>?_)
 . obtain⟨c,rfl,_⟩:=h
   rfl
 . obtain⟨c,rfl,k⟩:=h
   refine⟨_,qh (qF (wK
     (Ys qy (qE Jo (qm (Xf rfl) (by rfl) B.max boot_max (qb qi (qb (jv 0) qe)))
       (jT vI (by rfl) B.int boot_int (qb (Zg yf (jv 0) (qE u7 qi qi) (qA _)) qe)))
     (Ys qy (qE QK (jv 0) qi) (Ys qy qi wI))) rfl rfl (by simp) (by decide))),?_⟩
   intro p hp
   refine⟨_,rfl,_,_,rfl,_,rfl,_,_,rfl,rfl,⟨by decide,by decide,by decide⟩,_,_,rfl,rfl,.inr ⟨_,rfl,_,_,rfl,rfl,.inr ?_,_,rfl,_,_,rfl,rfl,(by show (0:Int) < 2147483629;decide),?_⟩⟩
   . split<;>exact⟨by decide,by decide⟩
   . refine⟨qd,qP _ _ 0,rfl,(by show 3<=15;decide),?_⟩
     rw[vh,jx]
     exact k p _ _ hp
theorem uN:qC ["_law_script","_law_k"] ["_law_script","_law_k"] (qo Uf):=⟨rfl,rfl,rfl,by decide+kernel,rfl,by decide+kernel,by decide+kernel⟩
theorem wA {f:Addr} {fd:FuncData} (F:Qj K "_law_cell_at" "_law_cell_at" Uf f fd) (B:Zu mg):qv P w K mg base jh 1 f fd ["_law_script","_law_k"] (kr K):=by
 refine F.okJ uN (λvs H Q E h=>?_) (λcdv A outer s H vs Q E hr h=>?_)
 . obtain⟨a,ns,k,rfl,_⟩:=h
   rfl
 . obtain⟨a,ns,k,rfl,hS,k0,q⟩:=h
   refine⟨_,qf (qK (qp Qd (jv 1) (qm qH (by rfl) B.len boot_len (qb (jv 0) qe)) (qA _))
       (qh (qF (qU je (jv 0) (jv 1) (λ_ _=>rfl)))) qu)
     (qh (qF (qE jD (qE Jo qi (jv 1)) qi))),?_⟩
   refine⟨_,rfl,_,rfl,a,_,rfl,.inl hS,_,_,rfl,rfl,_,rfl,?_⟩
   refine J6 (λh=>?_) (λ_=>?_)
   . have h1:k < ((ns.map V.int).length:Int):=of_decide_eq_true h
     rw[List.length_map]at h1
     have h2:k.toNat < ns.length:=by omega
     have h3:(ns.map V.int)[k.toNat]?=some (V.int ns[k.toNat]):=by rw[List.getElem?_map,List.getElem?_eq_getElem h2];rfl
     have h4:k=((k.toNat:Nat):Int):=by omega
     refine⟨_,rfl,_,rfl,a,_,k,V.int ns[k.toNat],rfl,rfl,hS,?_,q _⟩
     have h5:=Z1 h3
     rw[<-h4]at h5
     exact h5
   . exact⟨_,rfl,_,_,rfl,rfl,.inl ⟨by decide,by decide⟩,_,_,rfl,rfl,q _⟩
end
end Rh
set_option Elab.async false
set_option linter.all false
set_option maxRecDepth 100000
set_option maxHeartbeats 4000000
namespace Rh
open PySem L2 PyProof.Rows
def Fr (H:Hp) (d:Addr) (H':Hp):Prop:=∀b o,H b=some o->b≠d->H' b=some o
theorem Fr.refl {H:Hp} {d:Addr}:Fr H d H:=λ_ _ h _=>h
theorem Fr.at_d {H H':Hp} {d:Addr} {o:HO} (h:Fr H d H'):Fr H d (upd H' d o):=λb u hb hn=>by
 rw[qg hn]
 exact h b u hb hn
theorem Fr.new {H H':Hp} {d p:Addr} {o:HO} (h:Fr H d H') (hp:H' p=none):Fr H d (upd H' p o):=λb u hb hn=>qk (h b u hb hn) hp
theorem Fr.own {H H':Hp} {d p:Addr} {o:HO} (h:Fr H d H') (hp:H p=none):Fr H d (upd H' p o):=λb u hb hn=>by
 rw[qg (qt hb hp)]
 exact h b u hb hn
theorem Fr.trans {H H' H'':Hp} {d:Addr} (h:Fr H d H') (k:Fr H' d H''):Fr H d H'':=λb u hb hn=>k b u (h b u hb hn) hn
theorem Fr.fresh {H H':Hp} {d p:Addr} {o:HO} (h:Fr H d H') (hd:H' d=some o) (hp:H' p=none):H p=none:=by
 cases e:H p with
 | none=>rfl
 | some u=>
   by_cases n:p=d
   . subst n
     rw[hd]at hp
     cases hp
   . rw[h p u e n]at hp
     cases hp
def qO (c:Nat):Bool:=decide (97<=c)&&decide (c<=122)
def qw (z:Str):Bool:=(decide (1<=z.length)&&decide (z.length<=8))&&z.cps.toList.all qO
def VP:Str:="abcdefghijklmnopqrstuvwxyz"
theorem Xl:VP.cps.toList=[97,98,99,100,101,102,103,104,105,106,107,108,109,110,111,112,113,114,115,116,117,118,119,120,121,122]:=by decide+kernel
theorem xv:VP.cps.toList=(List.range 26).map (97+·):=by rw[Xl];rfl
theorem UN:VP.length<=sizeLine:=by
 show VP.cps.size<=sizeLine
 rw[<-Array.length_toList,Xl]
 decide
theorem xw {r:Int} (h0:0<=r) (h1:r < 26):W7 VP.cps.toList r=some (97+r.toNat):=by
 have h2:VP.cps.toList[r.toNat]?=some (97+r.toNat):=by
   rw[xv,List.getElem?_map,List.getElem?_range (by omega)]
   rfl
 have h4:=Z1 h2
 have h5:r=((r.toNat:Nat):Int):=by omega
 rw[<-h5]at h4
 exact h4
theorem Y9 {r:Int} (h0:0<=r) (h1:r < 26):qO (97+r.toNat)=true:=by
 unfold qO
 rw[decide_eq_true (by omega:97<=97+r.toNat),decide_eq_true (by omega:97+r.toNat<=122)]
 rfl
theorem Kp (ws:List Nat):(Txt.join (Str.ofString "") (ws.map λk=>(⟨#[k]⟩:Str))).cps.toList=ws:=by
 show (Builtin.Str.glued (Str.ofString "") _).cps.toList=_
 rw[StrLaws.glued_eq_join]
 have e:(Str.ofString "")=⟨#[]⟩:=by decide+kernel
 rw[e,PyProof.Rows.join_ones]
theorem vo {z:Str} {A B:List Nat} {c:Nat} (e:z.cps.toList=A++[c]++B) (hA:A.all qO=true) (hc:qO c=true) (hB:B.all qO=true) (hl:A.length+B.length<=7):qw z=true:=by
 have l:z.length=A.length+1+B.length:=by
   show z.cps.size=_
   rw[<-Array.length_toList,e]
   simp
   omega
 unfold qw
 rw[decide_eq_true (by omega:1<=z.length),decide_eq_true (by omega:z.length<=8),e,List.all_append,List.all_append,hA,hB]
 simp [hc]
def Uq (f s:Int) (k:Nat):Nat:=97+((f+s*(k:Int)) % 26).toNat
theorem wE:∀s∈[(1:Int),3,5,7,9,11],∀k,k < 14->∀j,j < 14->(s*((k:Nat):Int) - s*((j:Nat):Int)) % 26=0->k=j:=by decide+kernel
theorem wD {f s:Int} {k j:Nat} (hs:s=1\/s=3\/s=5\/s=7\/s=9\/s=11) (hk:k < 14) (hj:j < 14) (h:Uq f s k=Uq f s j):k=j:=by
 unfold Uq at h
 refine wE s (by simpa using hs) k hk j hj ?_
 generalize s*(k:Int)=x at h ⊢
 generalize s*(j:Int)=y at h ⊢
 omega
def Q3 (A:List Nat) (f s:Int) (zs:List Str):Prop:=∀j z,zs[j]?=some z->∃B,z.cps.toList=A++[Uq f s j]++B/\B.all qO=true/\A.length+B.length<=7
theorem Q3.snoc {A:List Nat} {f s:Int} {zs:List Str} (h:Q3 A f s zs) {z:Str} {B:List Nat} (e:z.cps.toList=A++[Uq f s zs.length]++B) (hB:B.all qO=true) (hl:A.length+B.length<=7):Q3 A f s (zs++[z]):=by
 intro j y hy
 by_cases hj:j < zs.length
 . rw[List.getElem?_append_left hj]at hy
   exact h j y hy
 . have hj':j=zs.length:=by
     have:=(List.getElem?_eq_some_iff.mp hy).1
     rw[List.length_append,List.length_singleton]at this
     omega
   subst hj'
   rw[List.getElem?_append_right (Nat.le_refl _),Nat.sub_self]at hy
   obtain rfl:=(Option.some.inj hy).symm
   exact⟨B,e,hB,hl⟩
theorem Q3.names {A:List Nat} {f s:Int} {zs:List Str} (h:Q3 A f s zs) (hA:A.all qO=true):∀z∈zs,qw z=true:=λz hz=>by
 obtain⟨j,hj⟩:=List.getElem?_of_mem hz
 obtain⟨B,e,hB,hl⟩:=h j z hj
 refine vo e hA ?_ hB hl
 unfold Uq
 exact Y9 (Int.emod_nonneg _ (by decide)) (Int.emod_lt_of_pos _ (by decide))
theorem Q3.nodup {A:List Nat} {f s:Int} {zs:List Str} (h:Q3 A f s zs) (hs:s=1\/s=3\/s=5\/s=7\/s=9\/s=11) (hz:zs.length<=14):zs.Nodup:=by
 refine List.pairwise_iff_getElem.mpr λi j hi hj hij e=>?_
 obtain⟨B,b1,_⟩:=h j _ (List.getElem?_eq_getElem hj)
 obtain⟨C,c1,_⟩:=h i _ (List.getElem?_eq_getElem hi)
 rw[e]at c1
 have e2:(A++[Uq f s j]++B)[A.length]?=(A++[Uq f s i]++C)[A.length]?:=by rw[<-b1,<-c1]
 rw[List.append_assoc,List.append_assoc,List.getElem?_append_right (Nat.le_refl _),List.getElem?_append_right (Nat.le_refl _),Nat.sub_self]at e2
 have e3:Uq f s j=Uq f s i:=Option.some.inj e2
 exact absurd (wD hs (by omega) (by omega) e3) (by omega)
theorem WX {A:List Nat} (h:A.all qO=true) (n:Nat):(A.take n).all qO=true:=by
 rw[List.all_eq_true]at h ⊢
 exact λx hx=>h x (List.mem_of_mem_take hx)
theorem uL {r:Int} (h0:0<=r) (h1:r < 6):∃m:Int,(m=1\/m=3\/m=5\/m=7\/m=9\/m=11)/\W7 [V.int 1,V.int 3,V.int 5,V.int 7,V.int 9,V.int 11] r=some (.int m):=by
 have:r=0\/r=1\/r=2\/r=3\/r=4\/r=5:=by omega
 rcases this with rfl | rfl | rfl | rfl | rfl | rfl
 . exact⟨1,by decide,rfl⟩
 . exact⟨3,by decide,rfl⟩
 . exact⟨5,by decide,rfl⟩
 . exact⟨7,by decide,rfl⟩
 . exact⟨9,by decide,rfl⟩
 . exact⟨11,by decide,rfl⟩
def V3:Sp:=λvs H Q _=>∃(d:Addr) (m:Nat) (n s t:Int),vs=[.ref d,.int m]/\H d=some (.dK (qP n s t))/\m<=14/\
 ∀(l:Addr) (zs:List Str) (n' t':Int) (H':Hp),H l=none->H' l=some (.lst (zs.map V.str))->zs.length=m->(∀z∈zs,qw z=true)->zs.Nodup->H' d=some (.dK (qP n' s t'))->Fr H d H'->Q (.ref l) H'
theorem Wk:∀zs:List Str,(zs.map λ_=>1).sum=zs.length
 | []=>rfl
 | z::zs=>by rw[List.map_cons,List.sum_cons,Wk zs,List.length_cons];omega
section
variable {P:Program} {w:World} {K:PySem.W.Frag} {mg:Str->Option Value} {base:Heap}
abbrev Kh:List Str:=["_law_source_here","_law_many","_law_letters","_law_word","_law_ahead","_law_first","_law_step","_law_names_here","_law_k","_law_behind"]
theorem Qx:qC Kh ["_law_source_here","_law_many"] (qo Ya):=⟨rfl,rfl,rfl,by decide+kernel,rfl,by decide+kernel,by decide+kernel⟩
theorem yk {f fT:Addr} {fd fdT:FuncData} (F:Qj K "_law_names" "_law_names" Ya f fd) (B:Zu mg) (hT:jC K mg "_law_take" JQ ["_law_source_here","_law_many"] fT fdT):qv P w K mg base jh 2 f fd ["_law_source_here","_law_many"] V3:=by
 have GT:qv P w K mg base jh 1 fT fdT ["_law_source_here","_law_many"] Jk:=QY hT.fn
 refine F.okJ Qx (λvs H Q E h=>?_) (λcdv A outer s H vs Q E hr h=>?_)
 . obtain⟨d,m,n,sd,t,rfl,_⟩:=h
   rfl
 . obtain⟨d,m,n,sd,t,rfl,hd,hm,q⟩:=h
   refine⟨_,qf (qr (i:=2) Qx.nd rfl (Or.inr rfl) qy)
     (qf (qr (i:=3) Qx.nd rfl (Or.inl rfl) (jm PySem.F.plainAttrs_str PySem.F.slot_str_join PySem.F.type_str_join jG qy (qb
       (Qp (N':=["_law_k","_law_letters","_law_source_here"]) (ix:=[none,some 2,some 0]) rfl ⟨rfl,rfl,rfl,rfl,rfl⟩
         (jS (by rfl) B.rng (qb qi qe))
         (λC s2 H2 fp pins=>⟨qz (i:=0) (show (["_law_k","_law_letters","_law_source_here"]:List Str).Nodup by decide+kernel) rfl (Or.inl rfl),jt,
           qU zy (jv 1) (qQ hT GT hr (by rfl) (qb (jv 2) (qb qi qe))) (λ_ _=>rfl)⟩)) qe)))
     (qf (qr (i:=4) Qx.nd rfl (Or.inl rfl) (qM kx (jv 3) qT (qS (qE Jo (qQ hT GT hr (by rfl) (qb (jv 0) (qb qi qe))) (qQ hT GT hr (by rfl) (qb (jv 0) (qb qi qe)))))))
     (qf (qr (i:=5) Qx.nd rfl (Or.inl rfl) (qQ hT GT hr (by rfl) (qb (jv 0) (qb qi qe))))
     (qf (qr (i:=6) Qx.nd rfl (Or.inl rfl) (qU je (qW (qb qi (qb qi (qb qi (qb qi (qb qi (qb qi qe))))))) (qQ hT GT hr (by rfl) (qb (jv 0) (qb qi qe))) (λ_ _=>rfl)))
     (qf (qr (i:=7) Qx.nd rfl (Or.inl rfl) (qW qe))
     (qf (jw PassesOwn.never rfl (jS (by rfl) B.rng (qb (jv 1) qe)) (qz (i:=8) Qx.nd rfl (Or.inl rfl))
       (qf (qr (i:=9) Qx.nd rfl (Or.inl rfl) (qM kx (jv 3) qT (qS (qQ hT GT hr (by rfl) (qb (jv 0) (qb (qE u6 qi (qm jf (by rfl) B.len boot_len (qb (jv 4) qe))) qe))))))
       (qh (jk (jm PySem.F.plainAttrs_list PySem.F.slot_list_append PySem.F.type_list_append jR (jv 7) (qb
         (qE qV (qE qV (jv 4) (qU zy (jv 2) (qE QK (qE jD (jv 5) (qE Jo (jv 6) (jv 8))) qi) (λ_ _=>rfl))) (jv 9)) qe))))))
     (qh (qF (jv 7))))))))),?_⟩
   refine⟨rfl,7,rfl,by decide,by decide,λD hD=>?_⟩
   have nDd:D≠d:=λe=>by rw[e,hd]at hD;cases hD
   refine zA (λi σ' H'=>∃(v:Option V) (n' t':Int) (ws:List Nat),σ'=[v,some (.str VP),some (.ref d)]/\H' d=some (.dK (qP n' sd t'))/\H' D=some (.lst ((ws.map λk=>(⟨#[k]⟩:Str)).map V.str))/\ws.length=i/\ws.all qO=true/\Fr H d H')
     ⟨none,n,t,[],rfl,qk hd hD,qd,rfl,rfl,Fr.refl.new hD⟩ ?_ ?_
   . rintro i σ' H' hi ⟨v,n',t',ws,rfl,hd',hD',hl,ha,fr⟩
     refine⟨_,rfl,_,rfl,d,26,n',sd,t',rfl,hd',by decide,by decide,λr n3 t3 r0 r1=>?_⟩
     refine⟨VP,r,_,rfl,rfl,UN,xw r0 r1,_,(by rw[qg nDd];exact hD'),?_,?_⟩
     . rw[List.length_map,List.length_map,hl]
       exact ql (by omega)
     . refine⟨_,n3,t3,ws++[97+r.toNat],rfl,?_,?_,?_,?_,?_⟩
       . rw[qg (Ne.symm nDd)];exact qd
       . rw[List.map_append,List.map_append];exact qd
       . rw[List.length_append,hl];rfl
       . rw[List.all_append,ha]
         simp [Y9 r0 r1]
       . exact(fr.at_d).own hD
   rintro σ' H1 ⟨v,n1,t1,ws,rfl,hd1,hD1,hl1,ha1,fr1⟩
   have hl1:ws.length=7:=hl1
   refine⟨Str.ofString "",D,_,rfl,rfl,.of hD1,?_,?_⟩
   . have e1:((ws.map λk=>(⟨#[k]⟩:Str)).map (·.length))=(ws.map λk=>(⟨#[k]⟩:Str)).map λ_=>1:=by
       refine List.map_congr_left λz hz=>?_
       obtain⟨c,_,rfl⟩:=List.mem_map.mp hz
       rfl
     have e2:(Str.ofString "").length=0:=by decide+kernel
     rw[e1,e2,Wk,List.length_map,hl1]
     decide
   generalize hw:Txt.join (Str.ofString "") (ws.map λk=>(⟨#[k]⟩:Str))=wd
   have hW:wd.cps.toList=ws:=by rw[<-hw];exact Kp ws
   have hWl:wd.length=7:=by
     show wd.cps.size=7
     rw[<-Array.length_toList,hW,hl1]
   refine⟨_,rfl,_,rfl,d,2,n1,sd,t1,rfl,hd1,by decide,by decide,λr2 n2 t2 r20 r21=>?_⟩
   refine⟨_,rfl,d,5,n2,sd,t2,rfl,qd,by decide,by decide,λr3 n3 t3 r30 r31=>?_⟩
   rw[jx]
   have e4:∃j:Nat,r2*r3=(j:Int)/\j<=4:=by
     have h2:r2=0\/r2=1:=by omega
     rcases h2 with rfl | rfl
     . exact⟨0,by omega,by omega⟩
     . exact⟨r3.toNat,by omega,by omega⟩
   obtain⟨j,ej,hj⟩:=e4
   refine⟨_,_,rfl,rfl,.inl ⟨by omega,by omega⟩,_,rfl,wd,r2*r3,rfl,rfl,rfl,by omega,?_⟩
   rw[ej]
   generalize ha:Txt.slice wd none (some (j:Int))=ah
   have hA:ah.cps.toList=ws.take j:=by rw[<-ha,Jl,hW]
   have hAl:ah.length=j:=by
     show ah.cps.size=j
     rw[<-Array.length_toList,hA,List.length_take,hl1]
     omega
   refine⟨_,rfl,d,26,n3,sd,t3,rfl,qd,by decide,by decide,λf n4 t4 f0 f1=>?_⟩
   rw[jx]
   refine⟨by show 6<=sizeLine;decide,λp hp=>?_⟩
   have npd:p≠d:=λe=>by rw[e,qd]at hp;cases hp
   refine⟨_,rfl,d,6,n4,sd,t4,rfl,(by rw[qg (Ne.symm npd)];exact qd),by decide,by decide,λr5 n5 t5 r50 r51=>?_⟩
   obtain⟨st,hst,hsa⟩:=uL r50 r51
   refine⟨p,_,r5,.int st,rfl,rfl,.of (by rw[qg npd];exact qd),hsa,?_⟩
   have fr5:Fr H d (upd (upd (upd H1 d (.dK (qP n4 sd t4))) p (.lst [V.int 1,V.int 3,V.int 5,V.int 7,V.int 9,V.int 11])) d (.dK (qP n5 sd t5))):=(fr1.at_d.new hp).at_d
   generalize hH5:upd (upd (upd H1 d (.dK (qP n4 sd t4))) p (.lst [V.int 1,V.int 3,V.int 5,V.int 7,V.int 9,V.int 11])) d (.dK (qP n5 sd t5))=H5 at fr5
   have hd5:H5 d=some (.dK (qP n5 sd t5)):=by rw[<-hH5];exact qd
   refine⟨by show 0<=sizeLine;decide,λl hl=>⟨_,rfl,m,rfl,by omega,by omega,?_⟩⟩
   have hHl:H l=none:=fr5.fresh hd5 hl
   have nld:l≠d:=λe=>by rw[e,hd5]at hl;cases hl
   refine QE (lo:=0) (n:=m) (λi σ' H'=>∃(v1 v2:Option V) (n' t':Int) (zs:List Str),σ'=[some (.ref d),some (.int m),some (.str VP),some (.str wd),some (.str ah),some (.int f),some (.int st),some (.ref l),v1,v2]/\
     H' d=some (.dK (qP n' sd t'))/\H' l=some (.lst (zs.map V.str))/\zs.length=i/\Q3 (ws.take j) f st zs/\Fr H d H')
     ⟨none,none,n5,t5,[],rfl,qk hd5 hl,qd,rfl,λj z hz=>(nomatch hz),fr5.new hl⟩ ?_ ?_
   . rintro i σ' H' hi ⟨v1,v2,n',t',zs,rfl,hd',hl',hz,hN,fr⟩
     rw[Int.zero_add]
     refine⟨_,rfl,_,rfl,_,rfl,ah,rfl,(by rw[hAl];exact Nat.le_of_lt (ql (by omega))),_,_,rfl,rfl,d,8 - (ah.length:Int),n',sd,t',rfl,hd',by omega,by omega,λr n6 t6 r0 r1=>?_⟩
     have er:r=((r.toNat:Nat):Int):=by omega
     refine⟨_,rfl,wd,r,rfl,rfl,rfl,by omega,?_⟩
     generalize hb:Txt.slice wd none (some r)=bh
     have hB:bh.cps.toList=ws.take r.toNat:=by rw[<-hb,er,Jl,hW];rfl
     have hBl:bh.length<=r.toNat:=by
       show bh.cps.size<=r.toNat
       rw[<-Array.length_toList,hB,List.length_take]
       omega
     refine⟨_,rfl,.inl ⟨rfl,_,.of (by rw[qg nld];exact hl')⟩,_,rfl,_,rfl,_,rfl,_,rfl,_,rfl,_,_,rfl,rfl,.inl ⟨by omega,by omega⟩,_,_,rfl,rfl,_,_,rfl,rfl,(by show (0:Int) < 26;decide),?_⟩
     refine⟨VP,_,_,rfl,rfl,UN,xw (Int.emod_nonneg _ (by decide)) (Int.emod_lt_of_pos _ (by decide)),?_⟩
     have e26:97+((f+st*(i:Int)) % 26).toNat=Uq f st i:=rfl
     rw[e26]
     have l1:(ah++(⟨#[Uq f st i]⟩:Str)).length=j+1:=by
       show (ah++(⟨#[Uq f st i]⟩:Str)).cps.size=_
       rw[Str.cps_append,Array.size_append]
       show ah.length+1=_
       rw[hAl]
     refine⟨_,_,rfl,rfl,Nat.le_of_lt (ql (by show ah.length+1<=1000;omega)),_,rfl,_,_,rfl,rfl,Nat.le_of_lt (ql (by rw[l1];omega)),?_⟩
     refine⟨l,_,_,rfl,rfl,(by rw[qg nld];exact hl'),(by rw[List.length_map,hz];exact ql (by omega)),?_⟩
     refine⟨_,_,n6,t6,zs++[ah++(⟨#[Uq f st i]⟩:Str)++bh],rfl,?_,?_,?_,?_,?_⟩
     . rw[qg (Ne.symm nld)];exact qd
     . rw[List.map_append];exact qd
     . rw[List.length_append,hz];rfl
     . refine hN.snoc (B:=ws.take r.toNat) ?_ (WX ha1 _) ?_
       . rw[Str.cps_append,Str.cps_append,Array.toList_append,Array.toList_append,hA,hB,hz]
       . rw[List.length_take,List.length_take]
         omega
     . exact fr.at_d.own hHl
   . rintro σ' H' ⟨v1,v2,n',t',zs,rfl,hd',hl',hz,hN,fr⟩
     exact⟨_,rfl,q l zs n' t' H' hHl hl' hz (hN.names (WX ha1 _)) (hN.nodup hst (by omega)) hd' fr⟩
end
end Rh
set_option Elab.async false
set_option linter.all false
set_option maxRecDepth 100000
set_option maxHeartbeats 4000000
namespace Rh
open PySem L2 PyProof.Rows
def VR (t:TT) (σ:L2.St) (H:Hp):Prop:=∀Q:Bool->Hp->Prop,(∀b,Q b H)->t σ H Q
theorem VR.and {t u:TT} {σ:L2.St} {H:Hp} (h:VR t σ H) (k:VR u σ H):VR (KY t u) σ H:=λQ q=>h _ λb=>by
 cases b
 . exact jn (q false)
 . exact QM (k _ q)
theorem VR.or {t u:TT} {σ:L2.St} {H:Hp} (h:VR t σ H) (k:VR u σ H):VR (Ro t u) σ H:=λQ q=>h _ λb=>by
 cases b
 . exact jn (k _ q)
 . exact QM (q true)
theorem yW {tc:TT} {tp:TS} {D:QS} {σ:L2.St} {H0:Hp} (G:Hp->Prop) (h:G H0) (ht:VR tc σ H0) (hp:∀D:QS,(∀H',G H'->D.nx σ H')->tp D σ H0) (k:∀H',G H'->D.nx σ H'):YD tc tp JM D σ H0:=
 ht _ λb=>by
   cases b
   . exact jn (k _ h)
   . exact QM (hp D k)
theorem zX {tc:TT} {tp u:TS} {D:QS} {σ:L2.St} {H0:Hp} (G:Hp->Prop) (h:G H0) (ht:VR tc σ H0) (hp:∀D:QS,(∀H',G H'->D.nx σ H')->tp D σ H0) (k:∀H',G H'->u D σ H'):Xs (YD tc tp JM) u D σ H0:=yW G h ht hp k
theorem ZW {i:Nat} {v:V} {σ:L2.St} {H:Hp} {Q:L2.St->Hp->Prop} (h:Q (σ.set i (some v)) H):jH i v σ H Q:=h
abbrev up (k:Nat×Nat):Int×Int:=((k.1:Int),(k.2:Int))
def ut (a b:Nat×Nat):Prop:=a.1 < b.1\/(a.1=b.1/\a.2 < b.2)
abbrev zp (ks:List (Nat×Nat)):List (List ja):=ks.map λk=>zE (up k)
theorem vb {a b:Nat×Nat} (h:zE (up a)=zE (up b)):a=b:=by
 unfold zE at h
 simp only[List.cons.injEq,Sum.inl.injEq,and_true]at h
 exact Prod.ext (by have:=h.1;omega) (by have:=h.2;omega)
structure JD (m i j:Nat) (ks:List (Nat×Nat)):Prop where
 ord:ks.Pairwise ut
 lt:∀x∈ks,x.2 < m/\(x.1 < i\/(x.1=i/\x.2 < j))
 len:ks.length<=i*m+j
theorem JD.more {m i j:Nat} {ks:List (Nat×Nat)} (h:JD m i j ks):JD m i (j+1) ks:=⟨h.ord,λx hx=>by have:=h.lt x hx;omega,by have:=h.len;omega⟩
theorem JD.snoc {m i j:Nat} {ks:List (Nat×Nat)} (h:JD m i j ks) (hj:j < m):JD m i (j+1) (ks++[(i,j)]):=by
 refine⟨List.pairwise_append.mpr ⟨h.ord,List.pairwise_singleton _ _,λa ha b hb=>?_⟩,λx hx=>?_,?_⟩
 . rw[List.mem_singleton.mp hb]
   have:=h.lt a ha
   unfold ut
   omega
 . rcases List.mem_append.mp hx with hx | hx
   . have:=h.lt x hx
     omega
   . rw[List.mem_singleton.mp hx]
     exact⟨hj,.inr ⟨rfl,Nat.lt_succ_self _⟩⟩
 . rw[List.length_append]
   have:=h.len
   show ks.length+1<=_
   omega
theorem JD.row {m i:Nat} {ks:List (Nat×Nat)} (h:JD m i m ks):JD m (i+1) 0 ks:=⟨h.ord,λx hx=>by have:=h.lt x hx;omega,by have:=h.len;rw[Nat.succ_mul];omega⟩
def KM (m i j:Nat) (kvs:List (List ja×V)):Prop:=∃ks,JD m i j ks/\(kvs.map (·.1)=zp ks\/kvs.map (·.1)=zp (ks++[(i,j)]))
theorem UM (kvs:List (List ja×V)) (k:List ja):((kvs.any λkv=>decide (kv.1=k))=true)↔k∈kvs.map (·.1):=by
 rw[List.any_eq_true,List.mem_map]
 simp
theorem wH {kvs:List (List ja×V)} {k:List ja} (v:V) (h:k∈kvs.map (·.1)):(jW kvs k v).map (·.1)=kvs.map (·.1):=by
 unfold jW
 rw[if_pos ((UM kvs k).mpr h),List.map_map]
 refine List.map_congr_left λx _=>?_
 show (if x.1=k then (x.1,v) else x).1=x.1
 split<;>rfl
theorem yC {kvs:List (List ja×V)} {k:List ja} (v:V) (h:¬k∈kvs.map (·.1)):(jW kvs k v).map (·.1)=kvs.map (·.1)++[k]:=by
 unfold jW
 rw[if_neg (λz=>h ((UM kvs k).mp z)),List.map_append]
 rfl
theorem KM.put {m i j:Nat} {kvs:List (List ja×V)} (h:KM m i j kvs) (v:V):KM m i j (jW kvs (zE (up (i,j))) v):=by
 obtain⟨ks,ha,h⟩:=h
 refine⟨ks,ha,.inr ?_⟩
 rcases h with h | h
 . rw[yC,h,zp,zp,List.map_append]
   . rfl
   . rw[h]
     intro z
     obtain⟨x,hx,e⟩:=List.mem_map.mp z
     have e':=vb e
     have:=ha.lt x hx
     rw[e']at this
     omega
 . rw[wH,h]
   rw[h]
   exact List.mem_map.mpr ⟨(i,j),by simp,rfl⟩
theorem KM.len {m i j:Nat} {kvs:List (List ja×V)} (h:KM m i j kvs):kvs.length<=i*m+j+1:=by
 obtain⟨ks,ha,h⟩:=h
 have hl:=ha.len
 rcases h with h | h
 . have:=congrArg List.length h
   simp only[List.length_map]at this
   omega
 . have:=congrArg List.length h
   simp only[List.length_map,List.length_append,List.length_singleton]at this
   omega
theorem uh {i m:Nat} (hi:i<=m) (hm:m<=14):i*m<=196:=Nat.le_trans (Nat.mul_le_mul (Nat.le_trans hi hm) hm) (by decide)
theorem GY (xs:List V):Jv xs none (some 40)=xs.take 40:=by
 unfold Jv
 have e1:HT.sIx xs.length 0 none=0:=rfl
 have e2:HT.sIx xs.length xs.length (some 40)=min 40 xs.length:=by
   simp [HT.sIx]
 rw[e1,e2,List.drop_zero,Nat.sub_zero]
 by_cases h:40<=xs.length
 . rw[Nat.min_eq_left h]
 . rw[Nat.min_eq_right (by omega),List.take_of_length_le (Nat.le_refl _),List.take_of_length_le (by omega)]
def Zl (H:Hp) (ps:List Addr) (ks:List (Nat×Nat)):Prop:=ps.length=ks.length/\∀(i:Nat) (p:Addr) (k:Nat×Nat),ps[i]?=some p->ks[i]?=some k->H p=some (.tup [.int (k.1:Nat),.int (k.2:Nat)])
def V5:Sp:=λvs H Q _=>∃(d:Addr) (m:Nat) (n s t sh lo:Int),vs=[.ref d,.int m,.int sh,.int lo]/\H d=some (.dK (qP n s t))/\m<=14/\
 ∀(l:Addr) (ps:List Addr) (ks:List (Nat×Nat)) (n' t':Int) (H':Hp),H l=none->H' l=some (.lst (ps.map V.ref))->Zl H' ps ks->ks.Pairwise ut->(∀x∈ks,x.1 < m/\x.2 < m)->ks.length<=40->H' d=some (.dK (qP n' s t'))->Fr H d H'->Q (.ref l) H'
section
variable {P:Program} {w:World} {K:PySem.W.Frag} {mg:Str->Option Value} {base:Heap}
abbrev Ki:List Str:=["_law_source_here","_law_many","_law_shape","_law_low","_law_pairs","_law_k","_law_j","_law_way"]
abbrev Yg:List Str:=["_law_source_here","_law_many","_law_shape","_law_low"]
theorem ZM:qC Ki Yg (qo Yb):=⟨rfl,rfl,rfl,by decide+kernel,rfl,by decide+kernel,by decide+kernel⟩
theorem yp {f fT:Addr} {fd fdT:FuncData} (F:Qj K "_law_leads" "_law_leads" Yb f fd) (B:Zu mg) (hso:mg "sorted"=none) (hT:jC K mg "_law_take" JQ ["_law_source_here","_law_many"] fT fdT):qv P w K mg base jh 2 f fd Yg V5:=by
 have GT:qv P w K mg base jh 1 fT fdT ["_law_source_here","_law_many"] Jk:=QY hT.fn
 refine F.okJ ZM (λvs H Q E h=>?_) (λcdv A outer s H vs Q E hr h=>?_)
 . obtain⟨d,m,n,sd,t,sh,lo,rfl,_⟩:=h
   rfl
 . obtain⟨d,m,n,sd,t,sh,lo,rfl,hd,hm,q⟩:=h
   have hu:=ZV hr
   refine⟨_,qf (qr (i:=4) ZM.nd rfl (Or.inl rfl) yN)
     (qf (jw PassesOwn.never rfl (jS (by rfl) B.rng (qb (jv 1) qe)) (qz (i:=5) ZM.nd rfl (Or.inl rfl))
       (qh (jw PassesOwn.never rfl (jS (by rfl) B.rng (qb (jv 1) qe)) (qz (i:=6) ZM.nd rfl (Or.inl rfl))
         (qf (qr (i:=7) ZM.nd rfl (Or.inl rfl) (qQ hT GT hr (by rfl) (qb (jv 0) (qb qi qe))))
         (qf (qK (Qt (qp jz (jv 2) qi (qA _)) (j8 (QZ (Qt (qp Qd (jv 6) (jv 5) (qA _)) (j8 (qp Qd (jv 7) qi (qA _)))).pt (j7 (Qt (qp yf (jv 6) (jv 5) (qA _)) (j8 (qp Qd (jv 7) qi (qA _)))).pt)).pt)).pt
           (qh (jY hu (jv 4) (Q5 (qb (jv 5) (qb (jv 6) qe))) Qq rfl)) qu)
         (qf (qK (Qt (qp jz (jv 2) qi (qA _)) (j8 (qp Qd (jv 7) qi (qA _)))).pt
           (qh (jY hu (jv 4) (Q5 (qb (jv 5) (qb (jv 6) qe))) Qq rfl)) qu)
         (qf (qK (Qt (qp jz (jv 2) qi (qA _)) (j8 (QZ (Qt (qp jz (jv 6) (qE QK (qE jD (jv 5) qi) (jv 1)) (qA _)) (j8 (qp Qd (jv 7) qi (qA _)))).pt (j7 (qp Qd (jv 7) qi (qA _)))).pt)).pt
           (qh (jY hu (jv 4) (Q5 (qb (jv 5) (qb (jv 6) qe))) Qq rfl)) qu)
         (qf (qK (Qt (qp jz (jv 2) qi (qA _)) (Qt (qp Qd (jv 6) (jv 5) (qA _)) (j8 (QZ (qp Qd (jv 6) (jv 3) (qA _)) (j7 (qp Qd (jv 7) qi (qA _)))).pt))).pt
           (qh (jY hu (jv 4) (Q5 (qb (jv 5) (qb (jv 6) qe))) Qq rfl)) qu)
         (qh (qK (Qt (qp jz (jv 2) qi (qA _)) (j8 (QZ (Qt (qp Qd (jv 6) (jv 3) (qA _)) (j8 (qp Qd (jv 6) (jv 5) (qA _)))).pt (j7 (Qt (qp yf (jv 5) (jv 3) (qA _)) (j8 (qp Qd (jv 7) qi (qA _)))).pt)).pt)).pt
           (qh (jY hu (jv 4) (Q5 (qb (jv 5) (qb (jv 6) qe))) Qq rfl)) qu)))))))))
       )
     (qh (qF (qM jF (qm (VO rfl) (by rfl) hso boot_sorted (qb (jv 4) qe)) qT (qS qi))))),?_⟩
   intro D hD
   have nDd:D≠d:=λe=>by rw[e,hd]at hD;cases hD
   refine⟨_,rfl,m,rfl,by omega,by omega,?_⟩
   refine QE (lo:=0) (n:=m) (λi σ' H'=>∃(v1 v2 v3:Option V) (n' t':Int) (kvs:List (List ja×V)) (ks:List (Nat×Nat)),σ'=[some (.ref d),some (.int m),some (.int sh),some (.int lo),some (.ref D),v1,v2,v3]/\
     H' d=some (.dK (qP n' sd t'))/\H' D=some (.dT kvs)/\kvs.map (·.1)=zp ks/\JD m i 0 ks/\Fr H d H')
     ⟨none,none,none,n,t,[],[],rfl,qk hd hD,qd,rfl,⟨.nil,λx hx=>(nomatch hx),Nat.zero_le _⟩,Fr.refl.new hD⟩ ?_ ?_
   . rintro i σ' H' hi ⟨v1,v2,v3,n',t',kvs,ks,rfl,hd',hD',ek,ha,fr⟩
     rw[Int.zero_add]
     refine⟨_,rfl,m,rfl,by omega,by omega,?_⟩
     refine QE (lo:=0) (n:=m) (λj σ' H'=>∃(v2 v3:Option V) (n' t':Int) (kvs:List (List ja×V)) (ks:List (Nat×Nat)),σ'=[some (.ref d),some (.int m),some (.int sh),some (.int lo),some (.ref D),some (.int i),v2,v3]/\
       H' d=some (.dK (qP n' sd t'))/\H' D=some (.dT kvs)/\kvs.map (·.1)=zp ks/\JD m i j ks/\Fr H d H')
       ⟨_,_,n',t',kvs,ks,rfl,hd',hD',ek,ha,fr⟩ ?_ ?_
     . rintro j σ' H2 hj ⟨v2,v3,n2,t2,kvs,ks,rfl,hd2,hD2,ek,ha,fr⟩
       rw[Int.zero_add]
       refine⟨_,rfl,d,12,n2,sd,t2,rfl,hd2,by decide,by decide,λr n3 t3 r0 r1=>?_⟩
       have hsq:=uh (Nat.le_of_lt hi) hm
       let G:Hp->Prop:=λH'=>∃(kvs:List (List ja×V)),H' d=some (.dK (qP n3 sd t3))/\H' D=some (.dT kvs)/\KM m i j kvs/\Fr H d H'
       have g0:G (upd H2 d (.dK (qP n3 sd t3))):=⟨kvs,qd,(by rw[qg nDd];exact hD2),⟨ks,ha,.inl ek⟩,fr.at_d⟩
       have put:∀H',G H'->∀E:QS,(∀H',G H'->E.nx [some (.ref d),some (.int m),some (.int sh),some (.int lo),some (.ref D),some (.int i),some (.int j),some (.int r)] H')->
           Ue (jd 4) (uC (jc (jd 5) (jc (jd 6) jJ))) (tC (.bl true)) E [some (.ref d),some (.int m),some (.int sh),some (.int lo),some (.ref D),some (.int i),some (.int j),some (.int r)] H':=by
         rintro H' ⟨kvs,h1,h2,h3,h4⟩ E k
         refine⟨_,rfl,_,rfl,_,rfl,by show 2<=sizeLine;decide,λp hp=>?_⟩
         have npd:p≠d:=λe=>by rw[e,h1]at hp;cases hp
         have npD:p≠D:=λe=>by rw[e,h2]at hp;cases hp
         refine⟨D,_,rfl,JK.t (k:=zE (up (i,j))) (kvs:=kvs) (by rw[qg (Ne.symm npD)];exact h2) qd (ql (by have:=h3.len;omega)),?_⟩
         refine k _ ⟨_,?_,qd,h3.put _,?_⟩
         . rw[qg (Ne.symm nDd),qg (Ne.symm npd)]
           exact h1
         . exact(h4.new hp).own hD
       refine ZW ?_
       dsimp only[List.set]
       refine zX G g0 ?_ (put _ g0) λH3 g3=>?_
       . exact VR.and (λQ q=>⟨_,rfl,rfl,_,rfl,q _⟩) (.or (.and (λQ q=>⟨_,rfl,_,rfl,_,_,rfl,rfl,_,rfl,q _⟩) (λQ q=>⟨_,rfl,_,_,rfl,rfl,_,rfl,q _⟩)) (.and (λQ q=>⟨_,rfl,_,rfl,_,_,rfl,rfl,_,rfl,q _⟩) (λQ q=>⟨_,rfl,_,_,rfl,rfl,_,rfl,q _⟩)))
       refine zX G g3 ?_ (put _ g3) λH4 g4=>?_
       . exact VR.and (λQ q=>⟨_,rfl,rfl,_,rfl,q _⟩) (λQ q=>⟨_,rfl,_,_,rfl,rfl,_,rfl,q _⟩)
       refine zX G g4 ?_ (put _ g4) λH5 g5=>?_
       . exact VR.and (λQ q=>⟨_,rfl,rfl,_,rfl,q _⟩) (.or (.and (λQ q=>⟨_,rfl,_,rfl,_,_,rfl,rfl,_,rfl,_,_,rfl,rfl,(by show (0:Int) < m;omega),rfl,_,rfl,q _⟩) (λQ q=>⟨_,rfl,_,_,rfl,rfl,_,rfl,q _⟩)) (λQ q=>⟨_,rfl,_,_,rfl,rfl,_,rfl,q _⟩))
       refine zX G g5 ?_ (put _ g5) λH6 g6=>?_
       . exact VR.and (λQ q=>⟨_,rfl,rfl,_,rfl,q _⟩) (.and (λQ q=>⟨_,rfl,_,rfl,_,_,rfl,rfl,_,rfl,q _⟩) (.or (λQ q=>⟨_,rfl,_,rfl,_,_,rfl,rfl,_,rfl,q _⟩) (λQ q=>⟨_,rfl,_,_,rfl,rfl,_,rfl,q _⟩)))
       refine yW G g6 ?_ (put _ g6) λH7 g7=>?_
       . exact VR.and (λQ q=>⟨_,rfl,rfl,_,rfl,q _⟩) (.or (.and (λQ q=>⟨_,rfl,_,rfl,_,_,rfl,rfl,_,rfl,q _⟩) (λQ q=>⟨_,rfl,_,rfl,_,_,rfl,rfl,_,rfl,q _⟩)) (.and (λQ q=>⟨_,rfl,_,rfl,_,_,rfl,rfl,_,rfl,q _⟩) (λQ q=>⟨_,rfl,_,_,rfl,rfl,_,rfl,q _⟩)))
       obtain⟨kvs,h1,h2,⟨ks,ha,h3⟩,h4⟩:=g7
       rcases h3 with h3 | h3
       . exact⟨_,_,n3,t3,kvs,ks,rfl,h1,h2,h3,ha.more,h4⟩
       . exact⟨_,_,n3,t3,kvs,_,rfl,h1,h2,h3,ha.snoc hj,h4⟩
     . rintro σ' H2 ⟨v2,v3,n2,t2,kvs,ks,rfl,hd2,hD2,ek,ha,fr⟩
       exact⟨_,_,_,n2,t2,kvs,ks,rfl,hd2,hD2,ek,ha.row,fr⟩
   . rintro σ' H1 ⟨v1,v2,v3,n1,t1,kvs,ks,rfl,hd1,hD1,ek,ha,fr⟩
     have hl:kvs.length=ks.length:=by simpa using congrArg List.length ek
     have hsq:=uh (Nat.le_refl m) hm
     have hal:=ha.len
     refine⟨_,rfl,D,kvs,ks.map up,rfl,hD1,?_,?_,by omega,λl ps hfl lps tup=>?_⟩
     . rw[ek,List.map_map]
       rfl
     . intro i k k' e1 e2
       rw[List.getElem?_map]at e1 e2
       cases e3:ks[i]? with
       | none=>rw[e3]at e1;cases e1
       | some a=>
         cases e4:ks[i+1]? with
         | none=>rw[e4]at e2;cases e2
         | some b=>
           rw[e3]at e1
           rw[e4]at e2
           obtain rfl:=(Option.some.inj e1).symm
           obtain rfl:=(Option.some.inj e2).symm
           have h5:=List.pairwise_iff_getElem.mp ha.ord i (i+1) (List.getElem?_eq_some_iff.mp e3).1 (List.getElem?_eq_some_iff.mp e4).1 (Nat.lt_succ_self _)
           rw[(List.getElem?_eq_some_iff.mp e3).2,(List.getElem?_eq_some_iff.mp e4).2]at h5
           unfold ut at h5
           show Yo _ _
           unfold Yo
           show (a.1:Int) < b.1\/((a.1:Int)=b.1/\(a.2:Int) < b.2)
           omega
     . refine⟨40,rfl,l,_,rfl,.of qd,λl2 hl2=>?_⟩
       rw[GY,<-List.map_take]
       have n2d:l2≠d:=λe=>by
         rw[e,qk hd1 hfl]at hl2
         cases hl2
       have hl1:H1 l2=none:=by
         by_cases e:l2=l
         . rw[e];exact hfl
         . rw[qg e]at hl2;exact hl2
       have fr2:=(fr.new (o:=.lst (ps.map V.ref)) hfl).new (o:=.lst ((ps.take 40).map V.ref)) hl2
       refine q l2 (ps.take 40) (ks.take 40) n1 t1 _ (fr.fresh hd1 hl1) qd ⟨?_,λi p k e1 e2=>?_⟩ ?_ ?_ ?_ ?_ fr2
       . rw[List.length_take,List.length_take,lps,List.length_map]
       . have i40:i < 40:=by
           have:=(List.getElem?_eq_some_iff.mp e1).1
           rw[List.length_take]at this
           omega
         rw[List.getElem?_take_of_lt i40]at e1 e2
         have h1:=tup i p (up k) e1 (by rw[List.getElem?_map,e2];rfl)
         exact qk (qk h1 hfl) hl2
       . exact ha.ord.sublist (List.take_sublist _ _)
       . intro x hx
         have:=ha.lt x (List.mem_of_mem_take hx)
         omega
       . rw[List.length_take]
         omega
       . exact qk (qk hd1 hfl) hl2
end
end Rh
set_option Elab.async false
set_option linter.all false
set_option maxRecDepth 100000
set_option maxHeartbeats 4000000
namespace Rh
open PySem L2 PyProof.Rows
structure qG (rs:List (Str×List Str)):Prop where
 nm:∀r∈rs,qw r.1=true
 nd:(rs.map (·.1)).Nodup
 to:∀r∈rs,∀z∈r.2,z∈rs.map (·.1)
 rd:∀r∈rs,r.2.Nodup
 few:(rs.map λr=>r.2.length).sum<=40
def X9 (zs:List Str) (j:Nat):Str:=zs.getD j ⟨#[]⟩
theorem xL {zs:List Str} {j:Nat} (h:j < zs.length):X9 zs j∈zs:=by
 unfold X9
 rw[List.getD_eq_getElem?_getD,List.getElem?_eq_getElem h]
 exact List.getElem_mem h
theorem Xn {zs:List Str} {j:Nat} (h:j < zs.length):zs[j]?=some (X9 zs j):=by
 unfold X9
 rw[List.getD_eq_getElem?_getD,List.getElem?_eq_getElem h]
 rfl
theorem VW {zs:List Str} (hn:zs.Nodup) {i j:Nat} (hi:i < zs.length) (hj:j < zs.length) (h:X9 zs i=X9 zs j):i=j:=by
 have h1:=Xn hi
 have h2:=Xn hj
 rw[h,<-h2,List.getElem?_eq_getElem hi,List.getElem?_eq_getElem hj]at h1
 have e:zs[i]=zs[j]:=Option.some.inj h1
 rcases Nat.lt_trichotomy i j with l | l | l
 . exact absurd e (List.pairwise_iff_getElem.mp hn i j hi hj l)
 . exact l
 . exact absurd e.symm (List.pairwise_iff_getElem.mp hn j i hj hi l)
theorem zj {α β:Type} {f:α->β}:∀{l:List α},l.Nodup->(∀a∈l,∀b∈l,f a=f b->a=b)->(l.map f).Nodup
 | [],_,_=>List.nodup_nil
 | a::l,h,k=>by
   rw[List.map_cons,List.nodup_cons]
   rw[List.nodup_cons]at h
   refine⟨λz=>?_,zj h.2 λx hx y hy=>k x (List.mem_cons_of_mem _ hx) y (List.mem_cons_of_mem _ hy)⟩
   obtain⟨b,hb,e⟩:=List.mem_map.mp z
   have:=k b (List.mem_cons_of_mem _ hb) a (List.mem_cons_self) e
   subst this
   exact h.1 hb
def YQ (ks:List (Nat×Nat)) (k:Nat):List Nat:=(ks.filter λx=>decide (x.1=k)).map (·.2)
theorem UU {ks:List (Nat×Nat)} (h:ks.Pairwise ut) (k:Nat):(YQ ks k).Nodup:=by
 have h1:(ks.filter λx=>decide (x.1=k)).Pairwise ut:=h.sublist (List.filter_sublist)
 refine List.pairwise_map.mpr (List.Pairwise.imp_of_mem (λ{a b} ha hb r=>?_) h1)
 have e1:a.1=k:=of_decide_eq_true (List.mem_filter.mp ha).2
 have e2:b.1=k:=of_decide_eq_true (List.mem_filter.mp hb).2
 unfold ut at r
 omega
theorem Vd {ks:List (Nat×Nat)} {m:Nat} (h:∀x∈ks,x.1 < m/\x.2 < m) (k:Nat):∀j∈YQ ks k,j < m:=λj hj=>by
 obtain⟨x,hx,e⟩:=List.mem_map.mp hj
 have:=(h x (List.mem_filter.mp hx).1).2
 omega
theorem xT (os:List Nat) (f g:Nat->Nat):(os.map λk=>f k+g k).sum=(os.map f).sum+(os.map g).sum:=by
 induction os with
 | nil=>rfl
 | cons a os ih=>
   simp only[List.map_cons,List.sum_cons,ih]
   omega
theorem xS {os:List Nat} (h:os.Nodup) (a:Nat):(os.map λk=>if a=k then 1 else 0).sum<=1:=by
 induction os with
 | nil=>exact Nat.zero_le _
 | cons b os ih=>
   rw[List.nodup_cons]at h
   rw[List.map_cons,List.sum_cons]
   by_cases e:a=b
   . subst e
     have z:(os.map λk=>if a=k then 1 else 0)=os.map λ_=>0:=List.map_congr_left λk hk=>by
       rw[if_neg]
       intro e
       subst e
       exact h.1 hk
     rw[z,if_pos rfl]
     have:(os.map λ_=>0).sum=0:=by
       clear z ih h
       induction os with
       | nil=>rfl
       | cons c os ih=>rw[List.map_cons,List.sum_cons,ih]
     omega
   . rw[if_neg e]
     have:=ih h.2
     omega
theorem V0 {os:List Nat} (h:os.Nodup):∀ks:List (Nat×Nat),(os.map λk=>(YQ ks k).length).sum<=ks.length
 | []=>by
   have:(os.map λk=>(YQ [] k).length).sum=0:=by
     clear h
     induction os with
     | nil=>rfl
     | cons c os ih=>rw[List.map_cons,List.sum_cons,ih];rfl
   omega
 | x::ks=>by
   have e:(os.map λk=>(YQ (x::ks) k).length)=os.map λk=>(if x.1=k then 1 else 0)+(YQ ks k).length:=List.map_congr_left λk _=>by
     unfold YQ
     rw[List.filter_cons]
     by_cases z:x.1=k
     . rw[if_pos (decide_eq_true z),if_pos z]
       simp only[List.map_cons,List.length_cons]
       omega
     . rw[if_neg (by simpa using z),if_neg z,Nat.zero_add]
   rw[e,xT,List.length_cons]
   have:=xS h x.1
   have:=V0 h ks
   omega
def Jd (zs:List Str) (ks:List (Nat×Nat)) (ab:Bool) (k:Nat):Str×List Str:=
 (X9 zs k,if ab=true then ((YQ ks k).map (X9 zs)).reverse else (YQ ks k).map (X9 zs))
theorem U4 {zs:List Str} {ks:List (Nat×Nat)} {ab:Bool} {k:Nat} {z:Str}:z∈(Jd zs ks ab k).2↔z∈(YQ ks k).map (X9 zs):=by
 unfold Jd
 cases ab
 . rw[if_neg Bool.false_ne_true]
 . rw[if_pos rfl,List.mem_reverse]
theorem U5 {zs:List Str} {ks:List (Nat×Nat)} {ab:Bool} {k:Nat}:(Jd zs ks ab k).2.length=(YQ ks k).length:=by
 unfold Jd
 cases ab
 . rw[if_neg Bool.false_ne_true,List.length_map]
 . rw[if_pos rfl,List.length_reverse,List.length_map]
structure WZ (m:Nat) (os:List Nat):Prop where
 len:os.length=m
 nd:os.Nodup
 lt:∀k∈os,k < m
 all:∀j,j < m->j∈os
theorem vx {zs:List Str} {ks:List (Nat×Nat)} {os:List Nat} {m:Nat} (ab:Bool) (hz:zs.length=m) (hN:∀z∈zs,qw z=true) (hd:zs.Nodup) (hk:ks.Pairwise ut) (hl:∀x∈ks,x.1 < m/\x.2 < m) (h40:ks.length<=40) (ho:WZ m os):
   qG (os.map (Jd zs ks ab)):=by
 have e1:(os.map (Jd zs ks ab)).map (·.1)=os.map (X9 zs):=by rw[List.map_map];rfl
 have inj:∀a∈os,∀b∈os,X9 zs a=X9 zs b->a=b:=λa ha b hb e=>VW hd (by rw[hz];exact ho.lt a ha) (by rw[hz];exact ho.lt b hb) e
 refine⟨λr hr=>?_,?_,λr hr z hz'=>?_,λr hr=>?_,?_⟩
 . obtain⟨k,hk',rfl⟩:=List.mem_map.mp hr
   exact hN _ (xL (by rw[hz];exact ho.lt k hk'))
 . rw[e1]
   exact zj ho.nd inj
 . obtain⟨k,hk',rfl⟩:=List.mem_map.mp hr
   rw[U4]at hz'
   obtain⟨j,hj,rfl⟩:=List.mem_map.mp hz'
   rw[e1]
   exact List.mem_map.mpr ⟨j,ho.all j (Vd hl k j hj),rfl⟩
 . obtain⟨k,hk',rfl⟩:=List.mem_map.mp hr
   have h1:((YQ ks k).map (X9 zs)).Nodup:=zj (UU hk k) λa ha b hb e=>VW hd (by rw[hz];exact Vd hl k a ha) (by rw[hz];exact Vd hl k b hb) e
   show (if ab=true then _ else _:List Str).Nodup
   cases ab
   . rw[if_neg Bool.false_ne_true]
     exact h1
   . rw[if_pos rfl]
     exact List.pairwise_reverse.mpr (h1.imp λh=>Ne.symm h)
 . have e2:((os.map (Jd zs ks ab)).map λr=>r.2.length)=os.map λk=>(YQ ks k).length:=by
     rw[List.map_map]
     exact List.map_congr_left λk _=>U5
   rw[e2]
   exact Nat.le_trans (V0 ho.nd ks) h40
theorem ye (m:Nat):WZ m (List.range m):=⟨List.length_range,List.nodup_range,λk h=>List.mem_range.mp h,λj h=>List.mem_range.mpr h⟩
theorem Vx (m:Nat):WZ m (ZY m):=⟨by rw[ZY,List.length_reverse,List.length_range],List.pairwise_reverse.mpr (List.nodup_range.imp λh=>Ne.symm h),λk h=>List.mem_range.mp (List.mem_reverse.mp h),λj h=>List.mem_reverse.mpr (List.mem_range.mpr h)⟩
def zI (m:Nat):List Nat:=(List.range m).map λk=>k*5 % m
theorem vz:∀m,m < 15->(zI m).Nodup->∀j,j < m->j∈zI m:=by decide+kernel
theorem WB {m:Nat} (hm:m<=14) (h0:0 < m) (h:(zI m).Nodup):WZ m (zI m):=
 ⟨by rw[zI,List.length_map,List.length_range],h,λk hk=>by obtain⟨x,_,rfl⟩:=List.mem_map.mp hk;exact Nat.mod_lt _ h0,vz m (by omega) h⟩
theorem Y7 (val:Nat->Int):∀i,(firstMet val i).length=i->((List.range i).map val).Nodup
 | 0,_=>List.nodup_nil
 | i+1,h=>by
   have h1:=firstMet_any val i (val i)
   have h2:=firstMet_length_le val i
   rw[firstMet_succ]at h
   unfold step_dedup at h
   split at h
   . omega
   . rename_i z
     rw[List.length_append,List.length_singleton]at h
     rw[List.range_succ,List.map_append,List.nodup_append]
     refine⟨Y7 val i (by omega),by simp,λa ha b hb e=>?_⟩
     have eb:b=val i:=by simpa using hb
     subst eb
     subst e
     refine z ?_
     rw[h1,List.any_eq_true]
     exact⟨_,ha,by simp⟩
theorem Kj {os:List Nat} (h:¬(firstMet (λi=>(os.map λk=>((k:Nat):Int)).getD i 0) (os.map λk=>((k:Nat):Int)).length).length < os.length):os.Nodup:=by
 have h1:=firstMet_length_le (λi=>(os.map λk=>((k:Nat):Int)).getD i 0) (os.map λk=>((k:Nat):Int)).length
 have h2:=Y7 (λi=>(os.map λk=>((k:Nat):Int)).getD i 0) (os.map λk=>((k:Nat):Int)).length (by rw[List.length_map]at h1 h ⊢;omega)
 have e:(List.range (os.map λk=>((k:Nat):Int)).length).map (λi=>(os.map λk=>((k:Nat):Int)).getD i 0)=os.map λk=>((k:Nat):Int):=by
   refine List.ext_getElem? λi=>?_
   rw[List.getElem?_map]
   by_cases hi:i < (os.map λk=>((k:Nat):Int)).length
   . rw[List.getElem?_range hi,List.getElem?_eq_getElem hi]
     simp only[Option.map_some,List.getD_eq_getElem?_getD,List.getElem?_eq_getElem hi,Option.getD_some]
   . rw[List.getElem?_eq_none (by rw[List.length_range];omega),List.getElem?_eq_none (by omega)]
     rfl
 rw[e]at h2
 refine(List.pairwise_map.mp h2).imp λh e=>h (by rw[e])
end Rh
set_option Elab.async false
set_option linter.all false
set_option maxRecDepth 100000
set_option maxHeartbeats 4000000
namespace Rh
open PySem L2 PyProof.Rows
def qL (H:Hp) (ps:List Addr) (rs:List (Str×List Str)):Prop:=ps.length=rs.length/\∀(i:Nat) (p:Addr) (r:Str×List Str),ps[i]?=some p->rs[i]?=some r->∃q,H p=some (.tup [.str r.1,.ref q])/\H q=some (.tup (r.2.map V.str))
def kj:Sp:=λvs H Q _=>∃(d:Addr) (mo:Nat) (n s t:Int),vs=[.ref d,.int mo]/\H d=some (.dK (qP n s t))/\0 < mo/\mo<=14/\
 ∀(l:Addr) (ps:List Addr) (rs:List (Str×List Str)) (n' t':Int) (H':Hp),H l=none->H' l=some (.lst (ps.map V.ref))->qL H' ps rs->qG rs->0 < rs.length->rs.length<=mo->H' d=some (.dK (qP n' s t'))->Fr H d H'->Q (.ref l) H'
structure QB (mg:Str->Option Value):Prop where
 srt:mg "sorted"=none
 lst:mg "list"=none
 rev:mg "reversed"=none
 set:mg "set"=none
 tup:mg "tuple"=none
theorem qL.mono {H H':Hp} {ps:List Addr} {rs:List (Str×List Str)} (h:qL H ps rs) (s:Same H H'):qL H' ps rs:=⟨h.1,λi p r e1 e2=>let ⟨q,a,b⟩:=h.2 i p r e1 e2;⟨q,s _ _ a,s _ _ b⟩⟩
theorem Zl.mono {H H':Hp} {ps:List Addr} {ks:List (Nat×Nat)} (h:Zl H ps ks) (s:Same H H'):Zl H' ps ks:=⟨h.1,λi p k e1 e2=>s _ _ (h.2 i p k e1 e2)⟩
theorem Fr.same {H H' H'':Hp} {d:Addr} (h:Fr H d H') (s:Same H' H''):Fr H d H'':=λb u hb hn=>s _ _ (h b u hb hn)
theorem qL.snoc {H:Hp} {ps:List Addr} {rs:List (Str×List Str)} (h:qL H ps rs) {p q:Addr} {r:Str×List Str} (hp:H p=some (.tup [.str r.1,.ref q])) (hq:H q=some (.tup (r.2.map V.str))):qL H (ps++[p]) (rs++[r]):=by
 refine⟨by rw[List.length_append,List.length_append,h.1];rfl,λi p' r' e1 e2=>?_⟩
 by_cases hi:i < ps.length
 . rw[List.getElem?_append_left hi]at e1
   rw[List.getElem?_append_left (by rw[<-h.1];exact hi)]at e2
   exact h.2 i p' r' e1 e2
 . have hi':i=ps.length:=by
     have:=(List.getElem?_eq_some_iff.mp e1).1
     rw[List.length_append,List.length_singleton]at this
     omega
   subst hi'
   rw[List.getElem?_append_right (Nat.le_refl _),Nat.sub_self]at e1
   rw[h.1,List.getElem?_append_right (Nat.le_refl _),Nat.sub_self]at e2
   obtain rfl:=(Option.some.inj e1).symm
   obtain rfl:=(Option.some.inj e2).symm
   exact⟨q,hp,hq⟩
theorem qL.upd_lst {H:Hp} {ps:List Addr} {rs:List (Str×List Str)} {l:Addr} {xs:List V} {o:HO} (h:qL H ps rs) (hl:H l=some (.lst xs)):qL (upd H l o) ps rs:=by
 refine⟨h.1,λi p r e1 e2=>?_⟩
 obtain⟨q,a,b⟩:=h.2 i p r e1 e2
 refine⟨q,?_,?_⟩
 . rw[qg (λe=>by rw[e,hl]at a;cases a)]
   exact a
 . rw[qg (λe=>by rw[e,hl]at b;cases b)]
   exact b
theorem Yw {tc:TT} {tp u:TS} {D:QS} {σ:L2.St} {H0:Hp} (R:Bool->Hp->Prop) (G:L2.St->Hp->Prop) (ht:∀Q:Bool->Hp->Prop,(∀b H1,R b H1->Q b H1)->tc σ H0 Q)
   (hT:∀H1,R true H1->∀D':QS,(∀σ' H',G σ' H'->D'.nx σ' H')->tp D' σ H1) (hF:∀H1,R false H1->G σ H1) (k:∀σ' H',G σ' H'->u D σ' H'):Xs (YD tc tp JM) u D σ H0:=
 ht _ λb H1 r=>by
   cases b
   . exact jn (k _ _ (hF _ r))
   . exact QM (hT _ r _ k)
theorem ub {zs:List Str} {j:Nat} (h:j < zs.length):W7 (zs.map V.str) ((j:Nat):Int)=some (V.str (X9 zs j)):=Z1 (by rw[List.getElem?_map,Xn h];rfl)
theorem vS {ks:List (Nat×Nat)} {j:Nat} {x:Nat×Nat} (k:Nat) (h:ks[j]?=some x):YQ (ks.take (j+1)) k=YQ (ks.take j) k++if x.1=k then [x.2] else []:=by
 unfold YQ
 rw[List.take_add_one,h,List.filter_append,List.map_append]
 congr 1
 by_cases e:x.1=k
 . rw[if_pos e]
   simp [e]
 . rw[if_neg e]
   simp [e]
abbrev oL (os:List Nat):List V:=os.map λk=>V.int ((k:Nat):Int)
theorem wC (os:List Nat):oL os=(os.map λk=>((k:Nat):Int)).map V.int:=by rw[List.map_map];rfl
section
variable {P:Program} {w:World} {K:PySem.W.Frag} {mg:Str->Option Value} {base:Heap}
abbrev Gv:List Str:=["_law_source_here","_law_most","_law_many","_law_names_here","_law_shape","_law_pairs","_law_about","_law_order","_law_rows_here","_law_k","_law_leads_here"]
theorem Qs:qC Gv ["_law_source_here","_law_most"] (qo Ub):=⟨rfl,rfl,rfl,by decide+kernel,rfl,by decide+kernel,by decide+kernel⟩
abbrev G0:List Str:=["_law_one","_law_j","_law_k","_law_names_here"]
theorem UJ:G0.Nodup:=by decide+kernel
theorem wf {f fT fN fL:Addr} {fd fdT fdN fdL:FuncData} (F:Qj K "_law_rows" "_law_rows" Ub f fd) (B:Zu mg) (G:QB mg) (hT:jC K mg "_law_take" JQ ["_law_source_here","_law_many"] fT fdT)
   (hN:jC K mg "_law_names" Ya ["_law_source_here","_law_many"] fN fdN) (hL:jC K mg "_law_leads" Yb Yg fL fdL):qv P w K mg base jh 3 f fd ["_law_source_here","_law_most"] kj:=by
 have GT:qv P w K mg base jh 1 fT fdT ["_law_source_here","_law_many"] Jk:=QY hT.fn
 have GN:qv P w K mg base jh 2 fN fdN ["_law_source_here","_law_many"] V3:=yk hN.fn B hT
 have GL:qv P w K mg base jh 2 fL fdL Yg V5:=yp hL.fn B G.srt hT
 refine F.okJ Qs (λvs H Q E h=>?_) (λcdv A outer s H vs Q E hr h=>?_)
 . obtain⟨d,m,n,sd,t,rfl,_⟩:=h
   rfl
 . obtain⟨d,mo,n,sd,t,rfl,hd,hmo,hm14,q⟩:=h
   have r1:qZ 1 _:=hr.mono (by decide)
   refine⟨_,qf (qr (i:=2) Qs.nd rfl (Or.inr rfl) (qE jD qi (qQ hT GT r1 (by rfl) (qb (jv 0) (qb (jv 1) qe)))))
     (qf (qr (i:=3) Qs.nd rfl (Or.inr rfl) (qQ hN GN hr (by rfl) (qb (jv 0) (qb (jv 2) qe))))
     (qf (qr (i:=4) Qs.nd rfl (Or.inl rfl) (qQ hT GT r1 (by rfl) (qb (jv 0) (qb qi qe))))
     (qf (qr (i:=5) Qs.nd rfl (Or.inl rfl) (qQ hL GL hr (by rfl) (qb (jv 0) (qb (jv 2) (qb (jv 4) (qb (qE jD qi (qQ hT GT r1 (by rfl) (qb (jv 0) (qb qi qe)))) qe))))))
     (qf (qr (i:=6) Qs.nd rfl (Or.inl rfl) (Zg jz (qQ hT GT r1 (by rfl) (qb (jv 0) (qb qi qe))) qi (qA _)))
     (qf (qr (i:=7) Qs.nd rfl (Or.inl rfl) (GD rfl (by rfl) G.lst (by rfl) B.rng (jv 2)))
     (qf (qK (jL (jv 6)) (qh (J4 (i:=7) (N':=["_law_k","_law_many"]) (ix:=[none,some 2]) Qs.nd rfl (Or.inl rfl) rfl ⟨rfl,rfl,rfl,rfl,rfl⟩ (jS (by rfl) B.rng (qb (jv 2) qe))
         (λC s2 H2 fp pins=>⟨qz (i:=0) (show (["_law_k","_law_many"]:List Str).Nodup by decide+kernel) rfl (Or.inl rfl),jt,qE QK (qE Jo (jv 0) qi) (jv 1)⟩))) qu)
     (qf (qK (qp Qd (qm WV (by rfl) B.len boot_len (qb (jT (vG rfl) (by rfl) G.set boot_set (qb (jv 7) qe)) qe)) (jv 2) (qA _))
         (qh (qr (i:=7) Qs.nd rfl (Or.inl rfl) (Kq rfl (by rfl) G.lst (by rfl) G.rev (by rfl) B.rng (jv 2)))) qu)
     (qf (qr (i:=8) Qs.nd rfl (Or.inl rfl) (qW qe))
     (qf (jw PassesOwn.never rfl (qY (jv 7)) (qz (i:=9) Qs.nd rfl (Or.inr rfl))
       (qf (J4 (i:=10) (N':=G0) (ix:=[none,none,some 9,some 3]) (g:=xc K 2 (ZX (jH 0) (ZX (jH 1) xf))) (te:=Vg (Gc K) (jd 3) (jd 1)) Qs.nd rfl (Or.inl rfl) rfl ⟨rfl,rfl,rfl,rfl,rfl⟩ (qY (jv 5))
           (λC s2 H2 fp pins=>⟨J5 rfl (ji (qz (i:=0) UJ rfl (Or.inl rfl)) (ji (qz (i:=1) UJ rfl (Or.inl rfl)) Q1)),
             ZS (qp jz (jv 0) (jv 2) (qA _)),qU je (jv 3) (jv 1) (λ_ _=>rfl)⟩))
       (qf (qK (jL (jv 6)) (qh (jk (yP PySem.F.plainAttrs_list PySem.F.slot_list_reverse PySem.F.type_list_reverse Vz (jv 10)))) qu)
       (qh (jk (jm PySem.F.plainAttrs_list PySem.F.slot_list_append PySem.F.type_list_append jR (jv 8) (qb
         (Q5 (qb (qU je (jv 3) (jv 9) (λ_ _=>rfl)) (qb (jT Qm (by rfl) G.tup boot_tuple (qb (jv 10) qe)) qe))) qe)))))))
     (qh (qF (jv 8)))))))))))),?_⟩
   refine⟨_,rfl,_,rfl,d,mo,n,sd,t,rfl,hd,by omega,by omega,λr n1 t1 r0 r1=>⟨_,_,rfl,rfl,?_⟩⟩
   obtain⟨m,em,m0,m1⟩:∃m:Nat,1+r=(m:Int)/\0 < m/\m<=mo:=⟨(1+r).toNat,by omega,by omega,by omega⟩
   have em':(λi j:Int=>V.int (i+j)) 1 r=V.int (m:Int):=congrArg V.int em
   rw[em']
   refine⟨_,rfl,_,rfl,d,m,n1,sd,t1,rfl,qd,by omega,λlz zs n2 t2 H2 hlz hlz' zl zn znd hd2 fr2=>?_⟩
   have fr2:Fr H d H2:=Fr.refl.at_d.trans fr2
   refine⟨_,rfl,d,5,n2,sd,t2,rfl,hd2,by decide,by decide,λsh n3 t3 _ _=>?_⟩
   refine⟨_,rfl,_,rfl,_,rfl,_,rfl,d,5,n3,sd,t3,rfl,qd,by decide,by decide,λlw n4 t4 _ _=>⟨_,_,rfl,rfl,d,m,n4,sd,t4,sh,1+lw,rfl,qd,by omega,λlp ps ks n5 t5 H5 hlp hlp' pat kord klt k40 hd5 fr5=>?_⟩⟩
   have nzd:lz≠d:=λe=>by rw[e,qd]at hlz;cases hlz
   have hz5:H5 lz=some (.lst (zs.map V.str)):=fr5 _ _ (by rw[qg nzd,qg nzd];exact hlz') nzd
   have fr5:Fr H d H5:=fr2.at_d.at_d.trans fr5
   refine⟨_,rfl,d,2,n5,sd,t5,rfl,hd5,by decide,by decide,λab n6 t6 _ _=>⟨rfl,?_⟩⟩
   generalize decide (V.int ab=V.int 1)=b
   have npd:lp≠d:=λe=>by rw[e,qd]at hlp;cases hlp
   have fr6:Fr H d (upd H5 d (.dK (qP n6 sd t6))):=fr5.at_d
   have hd6:upd H5 d (.dK (qP n6 sd t6)) d=some (.dK (qP n6 sd t6)):=qd
   have hz6:upd H5 d (.dK (qP n6 sd t6)) lz=some (.lst (zs.map V.str)):=by rw[qg nzd];exact hz5
   have hp6:upd H5 d (.dK (qP n6 sd t6)) lp=some (.lst (ps.map V.ref)):=by rw[qg npd];exact hlp'
   have pat6:Zl (upd H5 d (.dK (qP n6 sd t6))) ps ks:=⟨pat.1,λi p k e1 e2=>by
     have h1:=pat.2 i p k e1 e2
     have:p≠d:=λe=>by rw[e,hd5]at h1;cases h1
     rw[qg this]
     exact h1⟩
   generalize upd H5 d (.dK (qP n6 sd t6))=H6 at fr6 hd6 hz6 hp6 pat6
   refine⟨_,rfl,m,rfl,by omega,λlo hlo=>?_⟩
   refine ZW ?_
   dsimp only[List.set]
   refine Yw (λc H'=>c=b/\H'=upd H6 lo (.lst (uc m))) (λσ' H'=>∃lo os,σ'=[some (.ref d),some (.int mo),some (.int m),some (.ref lz),some (.int sh),some (.ref lp),some (.bl b),some (.ref lo),none,none,none]/\Same H6 H'/\H6 lo=none/\H' lo=some (.lst (oL os))/\(os=List.range m\/os=zI m))
     (λQ k=>⟨_,rfl,b,rfl,k _ _ ⟨rfl,rfl⟩⟩) ?_ ?_ ?_
   . rintro H1 ⟨rfl,rfl⟩ D' k
     refine⟨_,rfl,m,rfl,by omega,by omega,λD hD=>?_⟩
     refine zA (λi σ' H'=>∃v:Option V,σ'=[v,some (.int m)]/\H'=upd (upd H6 lo (.lst (uc m))) D (.lst (oL ((List.range i).map λk=>k*5 % m)))) ⟨none,rfl,rfl⟩ ?_ ?_
     . rintro i σ' H' hi ⟨v,rfl,rfl⟩
       rw[Int.zero_add]
       have hi:i < m:=by simpa using hi
       refine⟨_,rfl,_,_,rfl,rfl,.inl ⟨by omega,by omega⟩,_,rfl,_,_,rfl,rfl,(by show (0:Int) < m;omega),_,qd,?_,_,rfl,?_⟩
       . rw[List.length_map,List.length_map,List.length_range]
         exact ql (by omega)
       . rw[jx,List.range_succ,List.map_append,oL,oL,List.map_append]
         rfl
     . rintro σ' H' ⟨v,rfl,rfl⟩
       have hD6:H6 D=none:=by
         by_cases e:D=lo
         . rw[e];exact hlo
         . rw[qg e]at hD;exact hD
       exact k _ _ ⟨D,zI m,rfl,λa u h=>qk (qk h hlo) hD,hD6,qd,.inr rfl⟩
   . rintro H1 ⟨rfl,rfl⟩
     exact⟨lo,List.range m,rfl,qj hlo,hlo,qd,.inl rfl⟩
   rintro σ' H7 ⟨lo,os,rfl,s7,hlo6,hlo7,hos⟩
   have los:os.length=m:=by
     rcases hos with rfl | rfl
     . exact List.length_range
     . rw[zI,List.length_map,List.length_range]
   refine Yw (λc H'=>Same H7 H'/\(c=true\/os.Nodup)) (λσ' H'=>∃lo os,σ'=[some (.ref d),some (.int mo),some (.int m),some (.ref lz),some (.int sh),some (.ref lp),some (.bl b),some (.ref lo),none,none,none]/\Same H6 H'/\H' lo=some (.lst (oL os))/\WZ m os)
     ?_ ?_ ?_ ?_
   . intro Q k
     refine⟨_,rfl,lo,os.map (λk=>((k:Nat):Int)),rfl,.of (by rw[<-wC];exact hlo7),by rw[List.length_map,los];omega,λl S hl=>?_⟩
     refine⟨l,S,_,rfl,qd,_,rfl,_,_,rfl,rfl,_,rfl,k _ _ ⟨qj hl,?_⟩⟩
     by_cases h:(((firstMet (λi=>(os.map λk=>((k:Nat):Int)).getD i 0) (os.map λk=>((k:Nat):Int)).length).length:Nat):Int) < (m:Int)
     . exact .inl (decide_eq_true h)
     . exact .inr (Kj (by rw[los];omega))
   . rintro H1 ⟨s1,_⟩ D' k
     refine⟨_,rfl,m,rfl,by omega,λl hl=>?_⟩
     exact k _ _ ⟨l,ZY m,rfl,λa u h=>qk (s1 _ _ (s7 _ _ h)) hl,qd,Vx m⟩
   . rintro H1 ⟨s1,h⟩
     have h:os.Nodup:=h.resolve_left (by decide)
     refine⟨lo,os,rfl,λa u h=>s1 _ _ (s7 _ _ h),s1 _ _ hlo7,?_⟩
     rcases hos with rfl | rfl
     . exact ye m
     . exact WB (by omega) m0 h
   rintro σ' H8 ⟨lo,os,rfl,s8,hlo8,ho⟩
   refine⟨by show 0<=sizeLine;decide,λlr hlr=>⟨_,rfl,lo,rfl,⟨_,.of (qk hlo8 hlr)⟩,?_⟩⟩
   refine jM (K:=K) (a:=lo) (xs:=oL os) (λi σ' H'=>∃(v9 v10:Option V) (qs:List Addr),σ'=[some (.ref d),some (.int mo),some (.int m),some (.ref lz),some (.int sh),some (.ref lp),some (.bl b),some (.ref lo),some (.ref lr),v9,v10]/\
     Same H8 H'/\H' lr=some (.lst (qs.map V.ref))/\qL H' qs ((os.take i).map (Jd zs ks b)))
     ⟨none,none,[],rfl,qj hlr,qd,rfl,λi p r e=>(nomatch e)⟩ (λi σ' H' _ ⟨_,_,_,_,s,_⟩=>.of (s _ _ hlo8)) ?_ ?_
   . rintro i x σ' H' hx ⟨v9,v10,qs,rfl,s9,hlr9,rat⟩
     have hix:i < os.length:=by
       have:=(List.getElem?_eq_some_iff.mp hx).1
       rwa [List.length_map]at this
     obtain⟨k,hk⟩:∃k,os[i]?=some k:=⟨_,List.getElem?_eq_getElem hix⟩
     have ex:x=V.int ((k:Nat):Int):=by
       rw[List.getElem?_map,hk]at hx
       exact(Option.some.inj hx).symm
     subst ex
     have hkm:k < m:=ho.lt k (List.mem_of_getElem? hk)
     refine⟨_,rfl,lp,rfl,⟨_,.of (s9 _ _ (s8 _ _ hp6))⟩,λD hD=>?_⟩
     have nDr:D≠lr:=λe=>by rw[e,hlr9]at hD;cases hD
     have hz9:H' lz=some (.lst (zs.map V.str)):=s9 _ _ (s8 _ _ hz6)
     have pat9:Zl H' ps ks:=pat6.mono λa u h=>s9 _ _ (s8 _ _ h)
     refine jN (K:=K) (a:=lp) (xs:=ps.map V.ref) (λj σ'' H''=>∃v0 v1:Option V,σ''=[v0,v1,some (.int k),some (.ref lz)]/\H''=upd H' D (.lst (((YQ (ks.take j) k).map (X9 zs)).map V.str))) ⟨none,none,rfl,rfl⟩
       (λj σ'' G _ ⟨_,_,_,e⟩=>e▸.of (qk (s9 _ _ (s8 _ _ hp6)) hD)) ?_ ?_
     . rintro j y σ'' G hy ⟨v0,v1,rfl,rfl⟩
       have hj:j < ps.length:=by
         have:=(List.getElem?_eq_some_iff.mp hy).1
         rwa [List.length_map]at this
       obtain⟨p,hp⟩:∃p,ps[j]?=some p:=⟨_,List.getElem?_eq_getElem hj⟩
       obtain⟨kk,hkk⟩:∃p,ks[j]?=some p:=⟨_,List.getElem?_eq_getElem (by rw[<-pat9.1];exact hj)⟩
       have ey:y=V.ref p:=by
         rw[List.getElem?_map,hp]at hy
         exact(Option.some.inj hy).symm
       subst ey
       have hpt:=pat9.2 j p kk hp hkk
       have hk2:kk.2 < zs.length:=by rw[zl];exact(klt kk (List.mem_of_getElem? hkk)).2
       refine⟨p,_,rfl,.of (qk hpt hD),rfl,_,_,rfl,_,_,rfl,rfl,_,rfl,_,rfl,rfl,_,rfl,?_⟩
       rw[vS k hkk]
       by_cases e:kk.1=k
       . have e1:decide (V.int ((kk.1:Nat):Int)=V.int ((k:Nat):Int))=true:=decide_eq_true (by rw[e])
         rw[e1,if_pos e]
         refine QM ⟨_,rfl,_,rfl,lz,_,_,_,rfl,rfl,.of (qk hz9 hD),ub hk2,_,qd,?_,_,_,rfl,?_⟩
         . rw[List.length_map,List.length_map]
           refine ql ?_
           have h1:(YQ (ks.take j) k).length<=(ks.take j).length:=by
             unfold YQ
             rw[List.length_map]
             exact List.length_filter_le _ _
           rw[List.length_take]at h1
           omega
         . rw[jx,List.map_append,List.map_append]
           rfl
       . have e1:decide (V.int ((kk.1:Nat):Int)=V.int ((k:Nat):Int))=false:=decide_eq_false (by
           intro z
           have:=V.int.inj z
           omega)
         rw[e1,if_neg e,List.append_nil]
         exact jn ⟨_,_,rfl,rfl⟩
     . rintro σ'' G ⟨v0,v1,rfl,rfl⟩
       rw[List.length_map,pat9.1,List.take_of_length_le (Nat.le_refl _)]
       refine ZW ?_
       dsimp only[List.set]
       refine Yw (λc G=>c=b/\G=upd H' D (.lst (((YQ ks k).map (X9 zs)).map V.str)))
         (λσ' G=>σ'=[some (.ref d),some (.int mo),some (.int m),some (.ref lz),some (.int sh),some (.ref lp),some (.bl b),some (.ref lo),some (.ref lr),some (.int k),some (.ref D)]/\G=upd H' D (.lst ((Jd zs ks b k).2.map V.str)))
         (λQ k=>⟨_,rfl,b,rfl,k _ _ ⟨rfl,rfl⟩⟩) ?_ ?_ ?_
       . rintro H1 ⟨rfl,rfl⟩ D' kk
         refine⟨_,rfl,.inl ⟨rfl,_,.of qd⟩,D,_,rfl,rfl,qd,?_⟩
         refine kk _ _ ⟨rfl,?_⟩
         rw[jx,Jd,if_pos rfl,List.map_reverse]
       . rintro H1 ⟨rfl,rfl⟩
         exact⟨rfl,rfl⟩
       rintro σ' G ⟨rfl,rfl⟩
       have hlrG:upd H' D (.lst ((Jd zs ks b k).2.map V.str)) lr=some (.lst (qs.map V.ref)):=by rw[qg (Ne.symm nDr)];exact hlr9
       have sG:Same H' (upd H' D (.lst ((Jd zs ks b k).2.map V.str))):=qj hD
       refine⟨_,rfl,.inl ⟨rfl,_,.of hlrG⟩,_,rfl,_,rfl,lz,_,_,_,rfl,rfl,.of (sG _ _ hz9),ub (by rw[zl];exact hkm),_,rfl,D,_,rfl,.inl ⟨.of qd,λlq hq=>⟨by show 2<=sizeLine;decide,λlt hlt=>?_⟩⟩⟩
       have hqlr:=qk (o':=HO.tup ((Jd zs ks b k).2.map V.str)) hlrG hq
       have htlr:=qk (o':=HO.tup [V.str (X9 zs k),V.ref lq]) hqlr hlt
       refine⟨lr,_,_,rfl,rfl,htlr,?_,_,_,qs++[lt],rfl,?_,?_,?_⟩
       . rw[List.length_map,rat.1,List.length_map,List.length_take]
         refine ql ?_
         have:=ho.len
         omega
       . exact Same.upd (λa u h=>qk (qk (sG _ _ (s9 _ _ h)) hq) hlt) hlr
       . rw[List.map_append]
         exact qd
       . have e:os.take (i+1)=os.take i++[k]:=by rw[List.take_add_one,hk];rfl
         rw[e,List.map_append]
         refine qL.upd_lst ?_ htlr
         exact qL.snoc (q:=lq) (rat.mono λa u h=>qk (qk (sG _ _ h) hq) hlt) qd (qk qd hlt)
   . rintro σ' H' ⟨v9,v10,qs,rfl,s9,hlr9,rat⟩
     have e:(oL os).length=os.length:=List.length_map ..
     rw[e,List.take_of_length_le (Nat.le_refl _)]at rat
     have h8:H6 lr=none:=by
       cases z:H6 lr with
       | none=>rfl
       | some u=>rw[s8 _ _ z]at hlr;cases hlr
     refine⟨_,rfl,q lr qs _ n6 t6 H' (fr6.fresh hd6 h8) hlr9 rat (vx b zl zn znd kord klt k40 ho) ?_ ?_ (s9 _ _ (s8 _ _ hd6)) (fr6.same λa u h=>s9 _ _ (s8 _ _ h))⟩
     . rw[List.length_map,ho.len];exact m0
     . rw[List.length_map,ho.len];exact m1
end
end Rh
set_option Elab.async false
set_option linter.all false
set_option maxRecDepth 100000
set_option maxHeartbeats 4000000
namespace Rh
open PySem L2 PyProof.Rows
abbrev ZN:Stmt:=top 15
abbrev Zw:Stmt:=top 16
abbrev Wr:Stmt:=top 17
abbrev kI:Stmt:=top 18
abbrev Ws:Stmt:=top 19
abbrev kJ:Stmt:=top 20
abbrev Zp:Stmt:=top 21
theorem W6 (x:Str):[x].Nodup:=by simp
structure Q6 (K:PySem.W.Frag) (mg:Str->Option Value):Prop where
 isi:mg "isinstance"=none
 str:mg "str"=none
 all:mg "all"=none
 enu:mg "enumerate"=none
 sum:mg "sum"=none
 lets:∃t,mg "LETTERS"=some (.str VP t)
 lgst:∃t,mg "LONGEST_NAME"=some (.int 8 t)
 mp:∃t,mg "MOST_PLACES"=some (.int 14 t)
 mr:∃t,mg "MOST_ROADS"=some (.int 40 t)
 kss:PySem.W.kitOne K (.type "str") (.type "str")=some true
 ktt:PySem.W.kitOne K (.type "tuple") (.type "tuple")=some true
 kll:PySem.W.kitOne K (.type "list") (.type "list")=some true
theorem yV (c:Nat):(!(Builtin.Str.occurrences VP ⟨#[c]⟩ 0 VP.length 1).isEmpty)=qO c:=by
 rw[StrLaws.found_one,xv]
 unfold qO
 rw[Bool.eq_iff_iff]
 simp only[decide_eq_true_eq,Bool.and_eq_true,List.mem_map,List.mem_range]
 constructor
 . rintro⟨k,hk,rfl⟩
   omega
 . intro h
   exact⟨c - 97,by omega,by omega⟩
theorem WY (f:Nat->Bool) (l:List Nat) (i c:Nat) (h:l[i]?=some c):(l.take i).map f++[f c]=(l.take (i+1)).map f:=by
 rw[List.take_add_one,h]
 simp
def uH:Sp:=λvs H Q _=>∃z,vs=[.str z]/\qw z=true/\∀H',Same H H'->Q (.bl true) H'
def K1:Sp:=λvs H Q _=>∃(q:Addr) (zs:List Str),vs=[.ref q]/\H q=some (.tup (zs.map V.str))/\(∀z∈zs,qw z=true)/\zs.length<=1000/\∀H',Same H H'->Q (.bl true) H'
def uj:Sp:=λvs H Q _=>∃(p q:Addr) (r:Str×List Str),vs=[.ref p]/\H p=some (.tup [.str r.1,.ref q])/\H q=some (.tup (r.2.map V.str))/\qw r.1=true/\(∀z∈r.2,qw z=true)/\r.2.length<=1000/\∀H',Same H H'->Q (.bl true) H'
structure jO (H:Hp) (l:Addr) (ps:List Addr) (rs:List (Str×List Str)):Prop where
 at_:H l=some (.lst (ps.map V.ref))
 rows:qL H ps rs
 good:qG rs
 pos:0 < rs.length
 le:rs.length<=14
theorem jO.mono {H H':Hp} {l:Addr} {ps:List Addr} {rs:List (Str×List Str)} (h:jO H l ps rs) (s:Same H H'):jO H' l ps rs:=⟨s _ _ h.at_,h.rows.mono s,h.good,h.pos,h.le⟩
theorem qG.names {rs:List (Str×List Str)} (h:qG rs):∀r∈rs,∀z∈r.2,qw z=true:=λr hr z hz=>by
 obtain⟨r',hr',rfl⟩:=List.mem_map.mp (h.to r hr z hz)
 exact h.nm r' hr'
theorem qG.len {rs:List (Str×List Str)} (h:qG rs):∀r∈rs,r.2.length<=40:=λr hr=>by
 refine Nat.le_trans ?_ h.few
 have:∀(rs:List (Str×List Str)),r∈rs->r.2.length<=(rs.map λr=>r.2.length).sum:=by
   intro rs
   induction rs with
   | nil=>intro h;cases h
   | cons a rs ih=>
     intro h
     rw[List.map_cons,List.sum_cons]
     rcases List.mem_cons.mp h with rfl | h
     . omega
     . have:=ih h
       omega
 exact this rs hr
theorem qL.item {H:Hp} {ps:List Addr} {rs:List (Str×List Str)} (h:qL H ps rs) {i:Nat} {x:V} (hx:(ps.map V.ref)[i]?=some x):∃p q r,x=.ref p/\rs[i]?=some r/\r∈rs/\H p=some (.tup [.str r.1,.ref q])/\H q=some (.tup (r.2.map V.str)):=by
 rw[List.getElem?_map]at hx
 cases e:ps[i]? with
 | none=>rw[e]at hx;cases hx
 | some p=>
   rw[e]at hx
   have hi:i < rs.length:=by
     have:=(List.getElem?_eq_some_iff.mp e).1
     rw[h.1]at this
     exact this
   obtain⟨q,a,b⟩:=h.2 i p _ e (List.getElem?_eq_getElem hi)
   exact⟨p,q,_,(Option.some.inj hx).symm,List.getElem?_eq_getElem hi,List.getElem_mem hi,a,b⟩
def Z5:Sp:=λvs H Q _=>∃(l:Addr) (ps:List Addr) (rs:List (Str×List Str)),vs=[.ref l]/\jO H l ps rs/\∀H',Same H H'->Q .non H'
def uk:Sp:=λvs H Q _=>∃(l:Addr) (zs:List Str),vs=[.ref l]/\H l=some (.lst (zs.map V.str))/\zs.Nodup/\zs.length<=1000/\∀H',Same H H'->Q .non H'
def kq:Sp:=λvs H Q _=>∃(q l:Addr) (es zs:List Str),vs=[.ref q,.ref l]/\H q=some (.tup (es.map V.str))/\H l=some (.lst (zs.map V.str))/\es.Nodup/\(∀z∈es,z∈zs)/\es.length<=900/\∀H',Same H H'->Q .non H'
theorem ZG {kvs:List (ja×V)} {k:ja} (h:¬k∈kvs.map (·.1)):jI kvs k=none:=by
 cases e:jI kvs k with
 | none=>rfl
 | some v=>exact absurd (xN e) h
theorem Jg (zs:List Str):(zs.map V.str).all J9=true:=by
 rw[List.all_map,List.all_eq_true]
 intro z _
 rfl
theorem ZU {z:Str} {zs:List Str} (h:z∈zs):YJ (.str z) (zs.map V.str)=true:=by
 unfold YJ
 rw[List.any_eq_true]
 exact⟨.str z,List.mem_map.mpr ⟨z,h,rfl⟩,by show (z==z)=true;simp⟩
section
variable {P:Program} {w:World} {K:PySem.W.Frag} {mg:Str->Option Value} {base:Heap}
theorem kD:qC ["thing"] ["thing"] (qo QW):=⟨rfl,rfl,rfl,by decide+kernel,rfl,by decide+kernel,by decide+kernel⟩
theorem Up {f:Addr} {fd:FuncData} (F:Qj K "is_name" "is_name" QW f fd) (B:Zu mg) (T:Q6 K mg):qv P w K mg base jh 1 f fd ["thing"] uH:=by
 refine F.okJ kD (λvs H Q E h=>?_) (λcdv A outer s H vs Q E hr h=>?_)
 . obtain⟨x,rfl,_⟩:=h
   rfl
 . obtain⟨z,rfl,hz,q⟩:=h
   obtain⟨tl,hlets⟩:=T.lets
   obtain⟨tg,hlg⟩:=T.lgst
   refine⟨_,qf (qK (j9 (jL (qm ju (by rfl) T.isi boot_isinstance (qb (jv 0) (qb (Qy (v:=.ty "str") (by rfl) T.str boot_str rfl) qe))))) (qh (qF Qq)) qu)
     (qf (qK (QZ (qp Qd (qm jf (by rfl) B.len boot_len (qb (jv 0) qe)) qi (qA _))
         (j7 (qp Yi (qm jf (by rfl) B.len boot_len (qb (jv 0) qe)) (Qk (v:=.int 8) (by rfl) hlg ⟨_,rfl⟩) (qA _)))).pt (qh (qF Qq)) qu)
     (qh (qF (qm (Jh rfl) (by rfl) T.all boot_all (qb (Qp (N':=["sign"]) (ix:=[none]) rfl ⟨rfl,rfl,rfl,rfl,rfl⟩ (VE (jv 0)) (λC s2 H2 fp pins=>
       ⟨qz (i:=0) (W6 _) rfl (Or.inl rfl),jt,Zg Y4 (jv 0) (Qk (v:=.str VP) (by rfl) hlets ⟨_,rfl⟩) (by with_unfolding_all rfl)⟩)) qe))))),?_⟩
   have hn:=hz
   unfold qw at hn
   simp only[Bool.and_eq_true,decide_eq_true_eq]at hn
   obtain⟨⟨n1,n8⟩,na⟩:=hn
   have hz':z.length<=sizeLine:=Nat.le_of_lt (ql (by omega))
   refine⟨_,rfl,_,_,_,_,rfl,rfl,.str z,T.kss,_,rfl,jn ?_⟩
   refine⟨_,rfl,z,rfl,hz',_,_,rfl,rfl,_,rfl,?_⟩
   refine J6 (λh=>?_) (λh=>?_)
   . exact absurd (of_decide_eq_true h) (by omega)
   . refine⟨_,rfl,z,rfl,hz',_,_,rfl,rfl,_,rfl,?_⟩
     refine J6 (λh2=>?_) (λh2=>?_)
     . exact absurd (of_decide_eq_true h2) (by show ¬(8:Int) < (z.length:Int);omega)
     . refine⟨_,rfl,z,rfl,λD hD=>?_⟩
       refine XR (λi σ' H'=>∃v,σ'=[v]/\H'=upd H D (.lst (((z.cps.toList.take i).map qO).map V.bl))) ⟨none,rfl,rfl⟩ ?_ ?_
       . rintro i c σ' H' hc ⟨v,rfl,rfl⟩
         refine⟨_,rfl,_,_,rfl,rfl,_,qd,?_,?_⟩
         . rw[List.length_map,List.length_map,List.length_take]
           exact Nat.lt_of_le_of_lt (Nat.min_le_right _ _) (ql (show z.cps.toList.length<=1000 by rw[Array.length_toList];exact Nat.le_trans n8 (by decide)))
         . refine⟨_,rfl,?_⟩
           rw[jx,yV]
           have hc':z.cps.toList[i]?=some c:=by simpa using hc
           rw[<-WY qO z.cps.toList i c hc',List.map_append]
           rfl
       . rintro σ' H' ⟨v,rfl,rfl⟩
         refine⟨D,_,rfl,.of qd,?_⟩
         have e0:z.cps.toList.take z.cps.size=z.cps.toList:=List.take_of_length_le (by simp)
         have e1:(z.cps.toList.map qO).all id=true:=by rw[List.all_map];exact na
         rw[e0,e1]
         exact q _ (qj hD)
theorem kB:qC ["thing"] ["thing"] (qo ZN):=⟨rfl,rfl,rfl,by decide+kernel,rfl,by decide+kernel,by decide+kernel⟩
theorem wc {f fN:Addr} {fd fdN:FuncData} (F:Qj K "is_tuple_of_names" "is_tuple_of_names" ZN f fd) (B:Zu mg) (G:QB mg) (T:Q6 K mg) (hN:jC K mg "is_name" QW ["thing"] fN fdN):qv P w K mg base jh 2 f fd ["thing"] K1:=by
 have GN:qv P w K mg base jh 1 fN fdN ["thing"] uH:=Up hN.fn B T
 refine F.okJ kB (λvs H Q E h=>?_) (λcdv A outer s H vs Q E hr h=>?_)
 . obtain⟨x,zs,rfl,_⟩:=h
   rfl
 . obtain⟨x,zs,rfl,hx,hz,hl,q⟩:=h
   refine⟨_,qh (qF (zx (qm ju (by rfl) T.isi boot_isinstance (qb (jv 0) (qb (Qy (v:=.ty "tuple") (by rfl) G.tup boot_tuple rfl) qe)))
     (zw (qm (Jh rfl) (by rfl) T.all boot_all (qb (Qp (N':=["part"]) (ix:=[none]) rfl ⟨rfl,rfl,rfl,rfl,rfl⟩ (XG (jv 0)) (λC s2 H2 fp pins=>
       ⟨qz (i:=0) (W6 _) rfl (Or.inl rfl),jt,qQ hN GN hr (by rfl) (qb (jv 0) qe)⟩)) qe))))),?_⟩
   refine⟨_,rfl,_,_,_,_,rfl,rfl,.tup hx,T.ktt,_,rfl,QM ⟨_,rfl,x,rfl,⟨_,.of hx⟩,λD hD=>?_⟩⟩
   refine UK (K:=K) (a:=x) (xs:=zs.map V.str) (λi σ' H'=>∃v,σ'=[v]/\Same H H'/\H' D=some (.lst ((List.replicate i true).map V.bl))) ⟨none,rfl,qj hD,qd⟩ (λi σ' H' _ ⟨_,_,s,_⟩=>.of (s _ _ hx)) ?_ ?_
   . rintro i y σ' H' hy ⟨v,rfl,s1,hD1⟩
     rw[List.getElem?_map]at hy
     cases e:zs[i]? with
     | none=>rw[e]at hy;cases hy
     | some z=>
       rw[e]at hy
       obtain rfl:=(Option.some.inj hy).symm
       have hi:=(List.getElem?_eq_some_iff.mp e).1
       refine⟨_,rfl,z,rfl,hz z (List.mem_of_getElem? e),λH2 s2=>⟨_,s2 _ _ hD1,?_,_,rfl,?_,?_⟩⟩
       . rw[List.length_map,List.length_replicate]
         exact ql (by omega)
       . exact Same.upd (s1.trans s2) hD
       . rw[qd,List.replicate_succ',List.map_append]
         rfl
   . rintro σ' H' ⟨v,rfl,s1,hD1⟩
     refine⟨D,_,rfl,.of hD1,?_⟩
     have e:(List.replicate (zs.map V.str).length true).all id=true:=by simp
     rw[e]
     exact q _ s1
theorem V9:qC ["thing"] ["thing"] (qo Zw):=⟨rfl,rfl,rfl,by decide+kernel,rfl,by decide+kernel,by decide+kernel⟩
theorem yq {f fN fP:Addr} {fd fdN fdP:FuncData} (F:Qj K "is_row" "is_row" Zw f fd) (B:Zu mg) (G:QB mg) (T:Q6 K mg) (hN:jC K mg "is_name" QW ["thing"] fN fdN) (hP:jC K mg "is_tuple_of_names" ZN ["thing"] fP fdP):qv P w K mg base jh 3 f fd ["thing"] uj:=by
 have GN:qv P w K mg base jh 1 fN fdN ["thing"] uH:=Up hN.fn B T
 have GP:qv P w K mg base jh 2 fP fdP ["thing"] K1:=wc hP.fn B G T hN
 refine F.okJ V9 (λvs H Q E h=>?_) (λcdv A outer s H vs Q E hr h=>?_)
 . obtain⟨p,x,r,rfl,_⟩:=h
   rfl
 . obtain⟨p,x,r,rfl,hp,hx,hn,hz,hl,q⟩:=h
   refine⟨_,qf (qK (QZ (j9 (jL (qm ju (by rfl) T.isi boot_isinstance (qb (jv 0) (qb (Qy (v:=.ty "tuple") (by rfl) G.tup boot_tuple rfl) qe)))))
       (j7 (qp Yh (qm qH (by rfl) B.len boot_len (qb (jv 0) qe)) qi (qA _)))).pt jl qu)
     (qh (qF (zx (qQ hN GN (hr.mono (by decide)) (by rfl) (qb (qU j3 (jv 0) qi (λ_ _=>rfl)) qe)) (zw (qQ hP GP hr (by rfl) (qb (qU j3 (jv 0) qi (λ_ _=>rfl)) qe)))))),?_⟩
   refine⟨_,rfl,_,_,_,_,rfl,rfl,.tup hp,T.ktt,_,rfl,jn ⟨_,rfl,p,_,rfl,.inr (.of hp),rfl,_,rfl,jn ?_⟩⟩
   refine⟨_,rfl,p,_,0,_,rfl,rfl,.of hp,rfl,r.1,rfl,hn,λH1 s1=>⟨_,rfl,QM ?_⟩⟩
   exact⟨_,rfl,p,_,1,_,rfl,rfl,.of (s1 _ _ hp),rfl,x,r.2,rfl,s1 _ _ hx,hz,hl,λH2 s2=>q H2 (s1.trans s2)⟩
end
end Rh
set_option Elab.async false
set_option linter.all false
set_option maxRecDepth 100000
set_option maxHeartbeats 4000000
namespace Rh
open PySem L2 PyProof.Rows
section
variable {P:Program} {w:World} {K:PySem.W.Frag} {mg:Str->Option Value} {base:Heap}
abbrev Gy:List Str:=["rows","number","row"]
theorem Z9:qC Gy ["rows"] (qo Wr):=⟨rfl,rfl,rfl,by decide+kernel,rfl,by decide+kernel,by decide+kernel⟩
theorem ww {f fN fP fR:Addr} {fd fdN fdP fdR:FuncData} (F:Qj K "need_form" "need_form" Wr f fd) (B:Zu mg) (G:QB mg) (T:Q6 K mg) (hN:jC K mg "is_name" QW ["thing"] fN fdN) (hP:jC K mg "is_tuple_of_names" ZN ["thing"] fP fdP)
   (hR:jC K mg "is_row" Zw ["thing"] fR fdR):qv P w K mg base jh 4 f fd ["rows"] Z5:=by
 have GR:qv P w K mg base jh 3 fR fdR ["thing"] uj:=yq hR.fn B G T hN hP
 obtain⟨tm,hmp⟩:=T.mp
 refine F.okJ Z9 (λvs H Q E h=>?_) (λcdv A outer s H vs Q E hr h=>?_)
 . obtain⟨l,ps,rs,rfl,_⟩:=h
   rfl
 . obtain⟨l,ps,rs,rfl,g,q⟩:=h
   refine⟨_,qf (qK (QZ (j9 (jL (qm ju (by rfl) T.isi boot_isinstance (qb (jv 0) (qb (Qy (v:=.ty "list") (by rfl) G.lst boot_list rfl) qe)))))
       (j7 (qp jz (qm qH (by rfl) B.len boot_len (qb (jv 0) qe)) qi (qA _)))).pt jl qu)
     (qf (qK (qp Yi (qm qH (by rfl) B.len boot_len (qb (jv 0) qe)) (Qk (v:=.int 14) (by rfl) hmp ⟨_,rfl⟩) (qA _)) jl qu)
     (qh (jw PassesOwn.never rfl (zU (by rfl) T.enu (qb (jv 0) qe)) (J5 rfl (ji (qz (i:=1) Z9.nd rfl (Or.inl rfl)) (ji (qz (i:=2) Z9.nd rfl (Or.inl rfl)) Q1)))
       (qh (qK (j9 (jL (qQ hR GR hr (by rfl) (qb (jv 2) qe)))) jl qu))))),?_⟩
   have lp:(ps.map V.ref).length=rs.length:=by rw[List.length_map,g.rows.1]
   refine⟨_,rfl,_,_,_,_,rfl,rfl,.lst g.at_,T.kll,_,rfl,jn ⟨_,rfl,l,_,rfl,.inl (.of g.at_),rfl,_,rfl,?_⟩⟩
   have e0:decide (V.int (((ps.map V.ref).length:Nat):Int)=V.int 0)=false:=decide_eq_false (by
     intro z
     have:=V.int.inj z
     have:=g.pos
     omega)
   rw[e0]
   refine jn ⟨_,rfl,l,_,rfl,.inl (.of g.at_),_,_,rfl,rfl,_,rfl,?_⟩
   have e1:decide ((14:Int) < (((ps.map V.ref).length:Nat):Int))=false:=decide_eq_false (by
     have:=g.le
     omega)
   refine J6 (λz=>absurd z (by rw[e1];decide)) (λ_=>?_)
   refine⟨_,rfl,l,rfl,⟨_,.of g.at_⟩,?_⟩
   refine QN (K:=K) (a:=l) (xs:=ps.map V.ref) (λi σ' H'=>∃v1 v2,σ'=[some (.ref l),v1,v2]/\Same H H') ⟨none,none,rfl,Same.refl H⟩ (λi σ' H' _ ⟨_,_,_,s⟩=>.of (s _ _ g.at_)) ?_ ?_
   . rintro i x σ' H' p hx hp ⟨v1,v2,rfl,s1⟩
     have g1:=g.mono (s1.trans (qj (o:=.tup [.int (i:Nat),x]) hp))
     obtain⟨p',q',r,rfl,_,hr',a,b⟩:=g1.rows.item hx
     refine⟨p,_,rfl,.of qd,rfl,_,_,rfl,_,_,rfl,rfl,_,rfl,p',q',r,rfl,a,b,g.good.nm r hr',g.good.names r hr',Nat.le_trans (g.good.len r hr') (by decide),λH2 s2=>⟨_,rfl,jn ⟨_,_,rfl,?_⟩⟩⟩
     exact(s1.trans (qj hp)).trans s2
   . rintro σ' H' ⟨v1,v2,rfl,s1⟩
     exact q H' s1
abbrev RS:List Str:=["order","ahead","name"]
theorem YT:qC RS ["order"] (qo kI):=⟨rfl,rfl,rfl,by decide+kernel,rfl,by decide+kernel,by decide+kernel⟩
theorem zi {zs:List Str} (hn:zs.Nodup) {i:Nat} {z:Str} (e:zs[i]?=some z):¬(Sum.inr z:ja)∈(zs.take i).map Sum.inr:=λh=>by
 obtain⟨y,hy,ey⟩:=List.mem_map.mp h
 have ey':y=z:=Sum.inr.inj ey
 subst ey'
 obtain⟨j,hj⟩:=List.getElem?_of_mem hy
 have hj1:=(List.getElem?_eq_some_iff.mp hj).1
 rw[List.length_take]at hj1
 have hji:j < i:=by omega
 rw[List.getElem?_take_of_lt hji]at hj
 have h1:=(List.getElem?_eq_some_iff.mp hj)
 have h2:=(List.getElem?_eq_some_iff.mp e)
 exact absurd (h1.2.trans h2.2.symm) (List.pairwise_iff_getElem.mp hn j i h1.1 h2.1 hji)
theorem Jm {kvs:List (ja×V)} {k:ja} (v:V) (h:jI kvs k=none):(jW kvs k v).map (·.1)=kvs.map (·.1)++[k]:=by
 rw[k4 v h,List.map_append]
 rfl
theorem Kc {f:Addr} {fd:FuncData} (F:Qj K "need_own_names" "need_own_names" kI f fd):qv P w K mg base jh 1 f fd ["order"] uk:=by
 refine F.okJ YT (λvs H Q E h=>?_) (λcdv A outer s H vs Q E hr h=>?_)
 . obtain⟨l,zs,rfl,_⟩:=h
   rfl
 . obtain⟨l,zs,rfl,hl,hn,hz,q⟩:=h
   have hu:=ZV hr
   refine⟨_,qf (qr (i:=1) YT.nd rfl (Or.inl rfl) Jf)
     (qh (jw PassesOwn.never rfl (qY (jv 0)) (qz (i:=2) YT.nd rfl (Or.inl rfl))
       (qf (qK (zq (XI hu (jv 2) (jv 1))) jl qu) (qh (jY hu (jv 1) (jv 2) Qq rfl))))),?_⟩
   intro D hD
   refine⟨_,rfl,l,rfl,⟨_,.of (qk hl hD)⟩,?_⟩
   refine jM (K:=K) (a:=l) (xs:=zs.map V.str) (λi σ' H'=>∃v kvs,σ'=[some (.ref l),some (.ref D),v]/\Same H H'/\H' D=some (.dK kvs)/\kvs.map (·.1)=(zs.take i).map Sum.inr) ⟨none,[],rfl,qj hD,qd,rfl⟩ (λi σ' H' _ ⟨_,_,_,s,_⟩=>.of (s _ _ hl)) ?_ ?_
   . rintro i x σ' H' hx ⟨v,kvs,rfl,s1,hD1,ek⟩
     rw[List.getElem?_map]at hx
     cases e:zs[i]? with
     | none=>rw[e]at hx;cases hx
     | some z=>
       rw[e]at hx
       obtain rfl:=(Option.some.inj hx).symm
       have hi:=(List.getElem?_eq_some_iff.mp e).1
       have ez:jI kvs (Sum.inr z:ja)=none:=ZG (by rw[ek];exact zi hn e)
       have gz:Q7 H' D (.str z) none:=by
         have:=Q7.k (k:=(Sum.inr z:ja)) hD1
         rw[ez]at this
         exact this
       have lk:kvs.length < sizeLine:=by
         have:=congrArg List.length ek
         rw[List.length_map,List.length_map,List.length_take]at this
         exact ql (by omega)
       refine⟨_,rfl,_,rfl,D,none,rfl,gz,_,rfl,jn ?_⟩
       refine⟨_,rfl,_,rfl,D,_,rfl,JK.k (k:=(Sum.inr z:ja)) hD1 lk,_,_,rfl,Same.upd s1 hD,qd,?_⟩
       rw[Jm _ ez,ek,List.take_add_one,e,List.map_append]
       rfl
   . rintro σ' H' ⟨v,kvs,rfl,s1,_⟩
     exact q H' s1
abbrev Gz:List Str:=["ends","order","ahead","name"]
theorem za:qC Gz ["ends","order"] (qo Ws):=⟨rfl,rfl,rfl,by decide+kernel,rfl,by decide+kernel,by decide+kernel⟩
theorem wy {f:Addr} {fd:FuncData} (F:Qj K "need_ends" "need_ends" Ws f fd):qv P w K mg base jh 1 f fd ["ends","order"] kq:=by
 refine F.okJ za (λvs H Q E h=>?_) (λcdv A outer s H vs Q E hr h=>?_)
 . obtain⟨x,l,es,zs,rfl,_⟩:=h
   rfl
 . obtain⟨x,l,es,zs,rfl,hx,hl,hn,hin,hz,q⟩:=h
   have hu:=ZV hr
   refine⟨_,qf (qr (i:=2) za.nd rfl (Or.inl rfl) Jf)
     (qh (jw PassesOwn.never rfl (XG (jv 0)) (qz (i:=3) za.nd rfl (Or.inl rfl))
       (qf (qK (qp ZQ (jv 3) (jv 1) (by with_unfolding_all rfl)) jl qu)
       (qf (qK (zq (XI hu (jv 3) (jv 2))) jl qu) (qh (jY hu (jv 2) (jv 3) Qq rfl)))))),?_⟩
   intro D hD
   refine⟨_,rfl,x,rfl,⟨_,.of (qk hx hD)⟩,?_⟩
   refine XL (K:=K) (a:=x) (xs:=es.map V.str) (λi σ' H'=>∃v kvs,σ'=[some (.ref x),some (.ref l),some (.ref D),v]/\Same H H'/\H' D=some (.dK kvs)/\kvs.map (·.1)=(es.take i).map Sum.inr) ⟨none,[],rfl,qj hD,qd,rfl⟩ (λi σ' H' _ ⟨_,_,_,s,_⟩=>.of (s _ _ hx)) ?_ ?_
   . rintro i y σ' H' hy ⟨v,kvs,rfl,s1,hD1,ek⟩
     rw[List.getElem?_map]at hy
     cases e:es[i]? with
     | none=>rw[e]at hy;cases hy
     | some z=>
       rw[e]at hy
       obtain rfl:=(Option.some.inj hy).symm
       have hi:=(List.getElem?_eq_some_iff.mp e).1
       have ez:jI kvs (Sum.inr z:ja)=none:=ZG (by rw[ek];exact zi hn e)
       have gz:Q7 H' D (.str z) none:=by
         have:=Q7.k (k:=(Sum.inr z:ja)) hD1
         rw[ez]at this
         exact this
       have lk:kvs.length < sizeLine:=by
         have:=congrArg List.length ek
         rw[List.length_map,List.length_map,List.length_take]at this
         exact ql (by omega)
       refine⟨_,rfl,_,rfl,l,_,rfl,.inl (.of (s1 _ _ hl)),rfl,Jg zs,_,rfl,?_⟩
       rw[ZU (hin z (List.mem_of_getElem? e))]
       refine jn ⟨_,rfl,_,rfl,D,none,rfl,gz,_,rfl,jn ?_⟩
       refine⟨_,rfl,_,rfl,D,_,rfl,JK.k (k:=(Sum.inr z:ja)) hD1 lk,_,_,rfl,Same.upd s1 hD,qd,?_⟩
       rw[Jm _ ez,ek,List.take_add_one,e,List.map_append]
       rfl
   . rintro σ' H' ⟨v,kvs,rfl,s1,_⟩
     exact q H' s1
abbrev RU:List Str:=["rows","many"]
theorem Ua:qC RU ["rows"] (qo kJ):=⟨rfl,rfl,rfl,by decide+kernel,rfl,by decide+kernel,by decide+kernel⟩
theorem Kf {f:Addr} {fd:FuncData} (F:Qj K "need_few_roads" "need_few_roads" kJ f fd) (B:Zu mg) (T:Q6 K mg):qv P w K mg base jh 1 f fd ["rows"] Z5:=by
 obtain⟨tm,hmr⟩:=T.mr
 refine F.okJ Ua (λvs H Q E h=>?_) (λcdv A outer s H vs Q E hr h=>?_)
 . obtain⟨l,ps,rs,rfl,_⟩:=h
   rfl
 . obtain⟨l,ps,rs,rfl,g,q⟩:=h
   refine⟨_,qf (qr (i:=1) Ua.nd rfl (Or.inl rfl) (qm (Xe rfl) (by rfl) T.sum boot_sum (qb (Qp (N':=["row"]) (ix:=[none]) (te:=KF (λxs H Q=>∃p ys,xs=[.ref p]/\(SqL K H p ys\/SqT K H p ys)/\Q (.int ys.length) H) (jc (Vg (Wy K) (jd 0) (tC (.int 1))) jJ)) rfl ⟨rfl,rfl,rfl,rfl,rfl⟩ (qY (jv 0)) (λC s2 H2 fp pins=>
       ⟨qz (i:=0) (W6 _) rfl (Or.inl rfl),jt,qm qH (by rfl) B.len boot_len (qb (qU j3 (jv 0) qi (λ_ _=>rfl)) qe)⟩)) qe)))
     (qh (qK (qp Yi (jv 1) (Qk (v:=.int 40) (by rfl) hmr ⟨_,rfl⟩) (qA _)) jl qu)),?_⟩
   refine⟨_,rfl,l,rfl,⟨_,.of g.at_⟩,λD hD=>?_⟩
   refine jN (K:=K) (a:=l) (xs:=ps.map V.ref) (λi σ' H'=>∃v,σ'=[v]/\H'=upd H D (.lst (((rs.take i).map λr=>r.2.length).map λn=>V.int ((n:Nat):Int)))) ⟨none,rfl,rfl⟩ (λi σ' H' _ ⟨_,_,e⟩=>e▸.of (qk g.at_ hD)) ?_ ?_
   . rintro i x σ' H' hx ⟨v,rfl,rfl⟩
     obtain⟨p',q',r,rfl,er,hr',a,b⟩:=g.rows.item hx
     have hi:=(List.getElem?_eq_some_iff.mp er).1
     refine⟨_,rfl,p',_,1,_,rfl,rfl,.of (qk a hD),rfl,q',_,rfl,.inr (.of (qk b hD)),_,qd,?_,_,rfl,?_⟩
     . rw[List.length_map,List.length_map,List.length_take]
       have:=g.le
       exact ql (by omega)
     . rw[jx,List.take_add_one,er,List.map_append,List.map_append,List.length_map]
       rfl
   . rintro σ' H' ⟨v,rfl,rfl⟩
     have e:rs.take (ps.map V.ref).length=rs:=List.take_of_length_le (by rw[List.length_map,g.rows.1];exact Nat.le_refl _)
     rw[e]
     refine⟨D,_,rfl,.of qd,Nat.lt_of_le_of_lt g.good.few (by decide),?_⟩
     refine⟨_,rfl,_,_,rfl,rfl,_,rfl,?_⟩
     have:=g.good.few
     refine J6 (λz=>absurd (of_decide_eq_true z) ?_) (λ_=>q _ (qj hD))
     show ¬(40:Int) < _
     omega
abbrev Gw:List Str:=["rows","order","row"]
theorem Z7:qC Gw ["rows"] (qo Zp):=⟨rfl,rfl,rfl,by decide+kernel,rfl,by decide+kernel,by decide+kernel⟩
structure XZ (K:PySem.W.Frag) (mg:Str->Option Value):Prop where
 nm:∃f fd,jC K mg "is_name" QW ["thing"] f fd
 tn:∃f fd,jC K mg "is_tuple_of_names" ZN ["thing"] f fd
 rw:∃f fd,jC K mg "is_row" Zw ["thing"] f fd
 fo:∃f fd,jC K mg "need_form" Wr ["rows"] f fd
 ow:∃f fd,jC K mg "need_own_names" kI ["order"] f fd
 en:∃f fd,jC K mg "need_ends" Ws ["ends","order"] f fd
 fw:∃f fd,jC K mg "need_few_roads" kJ ["rows"] f fd
theorem wq {f:Addr} {fd:FuncData} (F:Qj K "need_rows" "need_rows" Zp f fd) (B:Zu mg) (G:QB mg) (T:Q6 K mg) (N:XZ K mg):qv P w K mg base jh 5 f fd ["rows"] Z5:=by
 obtain⟨fN,fdN,hN⟩:=N.nm
 obtain⟨fP,fdP,hP⟩:=N.tn
 obtain⟨fR,fdR,hR⟩:=N.rw
 obtain⟨fF,fdF,hF⟩:=N.fo
 obtain⟨fO,fdO,hO⟩:=N.ow
 obtain⟨fE,fdE,hE⟩:=N.en
 obtain⟨fW,fdW,hW⟩:=N.fw
 have GF:qv P w K mg base jh 4 fF fdF ["rows"] Z5:=ww hF.fn B G T hN hP hR
 have GO:qv P w K mg base jh 1 fO fdO ["order"] uk:=Kc hO.fn
 have GE:qv P w K mg base jh 1 fE fdE ["ends","order"] kq:=wy hE.fn
 have GW:qv P w K mg base jh 1 fW fdW ["rows"] Z5:=Kf hW.fn B T
 refine F.okJ Z7 (λvs H Q E h=>?_) (λcdv A outer s H vs Q E hr h=>?_)
 . obtain⟨l,ps,rs,rfl,_⟩:=h
   rfl
 . obtain⟨l,ps,rs,rfl,g,q⟩:=h
   refine⟨_,qf (jk (qQ hF GF hr (by rfl) (qb (jv 0) qe)))
     (qf (J4 (i:=1) (N':=["row"]) (ix:=[none]) (te:=Vg (Wy K) (jd 0) (tC (.int 0))) Z7.nd rfl (Or.inl rfl) rfl ⟨rfl,rfl,rfl,rfl,rfl⟩ (qY (jv 0)) (λC s2 H2 fp pins=>
       ⟨qz (i:=0) (W6 _) rfl (Or.inl rfl),jt,qU j3 (jv 0) qi (λ_ _=>rfl)⟩))
     (qf (jk (qQ hO GO (hr.mono (by decide)) (by rfl) (qb (jv 1) qe)))
     (qf (jw PassesOwn.never rfl (qY (jv 0)) (qz (i:=2) Z7.nd rfl (Or.inl rfl))
       (qh (jk (qQ hE GE (hr.mono (by decide)) (by rfl) (qb (qU j3 (jv 2) qi (λ_ _=>rfl)) (qb (jv 1) qe))))))
     (qh (jk (qQ hW GW (hr.mono (by decide)) (by rfl) (qb (jv 0) qe))))))),?_⟩
   refine⟨_,rfl,l,ps,rs,rfl,g,λH1 s1=>?_⟩
   have g1:=g.mono s1
   refine⟨_,rfl,l,rfl,⟨_,.of g1.at_⟩,λD hD=>?_⟩
   refine jN (K:=K) (a:=l) (xs:=ps.map V.ref) (λi σ' H'=>∃v,σ'=[v]/\H'=upd H1 D (.lst (((rs.take i).map (·.1)).map V.str))) ⟨none,rfl,rfl⟩ (λi σ' H' _ ⟨_,_,e⟩=>e▸.of (qk g1.at_ hD)) ?_ ?_
   . rintro i x σ' H' hx ⟨v,rfl,rfl⟩
     obtain⟨p',q',r,rfl,er,hr',a,b⟩:=g1.rows.item hx
     have hi:=(List.getElem?_eq_some_iff.mp er).1
     refine⟨_,rfl,p',_,0,_,rfl,rfl,.of (qk a hD),rfl,_,qd,?_,_,rfl,?_⟩
     . rw[List.length_map,List.length_map,List.length_take]
       have:=g.le
       exact ql (by omega)
     . rw[jx,List.take_add_one,er,List.map_append,List.map_append]
       rfl
   . rintro σ' H' ⟨v,rfl,rfl⟩
     have e:rs.take (ps.map V.ref).length=rs:=List.take_of_length_le (by rw[List.length_map,g.rows.1];exact Nat.le_refl _)
     rw[e]
     refine⟨_,rfl,D,rs.map (·.1),rfl,qd,g.good.nd,by rw[List.length_map];have:=g.le;omega,λH2 s2=>?_⟩
     have sD:Same H1 H2:=(qj hD).trans s2
     have hD2:H2 D=some (.lst ((rs.map (·.1)).map V.str)):=s2 _ _ qd
     have g2:=g1.mono sD
     refine⟨_,rfl,l,rfl,⟨_,.of g2.at_⟩,?_⟩
     refine jM (K:=K) (a:=l) (xs:=ps.map V.ref) (λi σ' H'=>∃v,σ'=[some (.ref l),some (.ref D),v]/\Same H2 H') ⟨none,rfl,Same.refl H2⟩ (λi σ' H' _ ⟨_,_,s⟩=>.of (s _ _ g2.at_)) ?_ ?_
     . rintro i x σ' H' hx ⟨v,rfl,s3⟩
       obtain⟨p',q',r,rfl,er,hr',a,b⟩:=(g2.mono s3).rows.item hx
       refine⟨_,rfl,p',_,1,_,rfl,rfl,.of a,rfl,_,rfl,q',D,r.2,rs.map (·.1),rfl,b,s3 _ _ hD2,g.good.rd r hr',g.good.to r hr',Nat.le_trans (g.good.len r hr') (by decide),λH4 s4=>⟨_,rfl,s3.trans s4⟩⟩
     . rintro σ' H' ⟨v,rfl,s3⟩
       exact⟨_,rfl,l,ps,rs,rfl,g2.mono s3,λH4 s4=>q H4 (((s1.trans sD).trans s3).trans s4)⟩
end
end Rh
set_option Elab.async false
set_option linter.all false
set_option maxRecDepth 100000
set_option maxHeartbeats 4000000
namespace Rh
open PySem L2 PyProof.Rows
abbrev Vs:Stmt:=Jt (top 22) 0
def jQ (rs:List (Str×List Str)) (r:Str×List Str):List Str:=(rs.map (·.1)).filter λz=>YJ (.str z) (r.2.map V.str)
def W1 (CG:Addr) (H:Hp) (a:Addr) (rs:List (Str×List Str)):Prop:=∃(dx lo rd:Addr) (kvs:List (ja×V)),H a=some (.ins CG dx [("order",.ref lo),("roads",.ref rd)])/\H lo=some (.lst ((rs.map (·.1)).map V.str))/\H rd=some (.dK kvs)/\
 ∀r∈rs,∃q,jI kvs (Sum.inr r.1)=some (.ref q)/\H q=some (.lst ((jQ rs r).map V.str))
theorem W1.mono {CG:Addr} {H H':Hp} {a:Addr} {rs:List (Str×List Str)} (h:W1 CG H a rs) (s:Same H H'):W1 CG H' a rs:=by
 obtain⟨dx,lo,rd,kvs,h1,h2,h3,h4⟩:=h
 exact⟨dx,lo,rd,kvs,s _ _ h1,s _ _ h2,s _ _ h3,λr hr=>let ⟨q,a,b⟩:=h4 r hr;⟨q,a,s _ _ b⟩⟩
theorem jO.fr {H H':Hp} {l x C dx:Addr} {fs:List (Str×V)} {ps:List Addr} {rs:List (Str×List Str)} (h:jO H l ps rs) (hx:H x=some (.ins C dx fs)) (s:Fr H x H'):jO H' l ps rs:=by
 refine⟨s _ _ h.at_ (λe=>?_),⟨h.rows.1,λi p r e1 e2=>?_⟩,h.good,h.pos,h.le⟩
 . have:=h.at_
   rw[e,hx]at this
   cases this
 . obtain⟨q,a,b⟩:=h.rows.2 i p r e1 e2
   exact⟨q,s _ _ a (λe=>by rw[e,hx]at a;cases a),s _ _ b (λe=>by rw[e,hx]at b;cases b)⟩
structure ua (K:PySem.W.Frag) (mg:Str->Option Value) (CG f:Addr) (fd:FuncData):Prop where
 cl:vN K CG
 mkr:Mk K CG f
 ns:mg "Ground"=some (.ref CG)
 no:Qi K CG "order"
 nr:Qi K CG "roads"
 fn:Qj K "__init__" "Ground.__init__" Vs f fd
 bi:jX K fd ["self","rows"] []
theorem nor:¬(Str.ofString "order")=Str.ofString "roads":=by decide+kernel
theorem RK (v:V):Jn (Str.ofString "order") v []=[(Str.ofString "order",v)]:=rfl
theorem RJ (v u:V):Jn (Str.ofString "roads") u [(Str.ofString "order",v)]=[(Str.ofString "order",v),(Str.ofString "roads",u)]:=by
 unfold Jn
 rw[if_neg nor]
 rfl
theorem lkO (v u:V):([(Str.ofString "order",v),(Str.ofString "roads",u)]:List (Str×V)).lookup (Str.ofString "order")=some v:=by simp [List.lookup]
theorem lkR (v u:V):([(Str.ofString "order",v),(Str.ofString "roads",u)]:List (Str×V)).lookup (Str.ofString "roads")=some u:=by
 have e:((Str.ofString "roads")==(Str.ofString "order"))=false:=by decide+kernel
 simp [List.lookup,e]
def ZI (CG:Addr):Sp:=λvs H Q _=>∃(x dx l:Addr) (ps:List Addr) (rs:List (Str×List Str)),vs=[.ref x,.ref l]/\jO H l ps rs/\H x=some (.ins CG dx [])/\∀H',W1 CG H' x rs->Fr H x H'->Q .non H'
section
variable {P:Program} {w:World} {K:PySem.W.Frag} {mg:Str->Option Value} {base:Heap}
abbrev nGI:List Str:=["self","rows","row"]
theorem uM:qC nGI ["self","rows"] (qo Vs):=⟨rfl,rfl,rfl,by decide+kernel,rfl,by decide+kernel,by decide+kernel⟩
theorem WC {f fW CG:Addr} {fd fdW:FuncData} (C:ua K mg CG f fd) (B:Zu mg) (G:QB mg) (T:Q6 K mg) (N:XZ K mg) (hW:jC K mg "need_rows" Zp ["rows"] fW fdW):qv P w K mg base jh 6 f fd ["self","rows"] (ZI CG):=by
 have GW:qv P w K mg base jh 5 fW fdW ["rows"] Z5:=wq hW.fn B G T N
 refine C.fn.okJ uM (λvs H Q E h=>?_) (λcdv A outer s H vs Q E hr h=>?_)
 . obtain⟨x,dx,l,ps,rs,rfl,_⟩:=h
   rfl
 . obtain⟨x,dx,l,ps,rs,rfl,g,hx,q⟩:=h
   have hu:=ZV hr
   refine⟨_,qf (jk (qQ hW GW hr (by rfl) (qb (jv 1) qe)))
     (qf (yH (jv 0) (Qp (N':=["row"]) (ix:=[none]) (te:=Vg (Wy K) (jd 0) (tC (.int 0))) rfl ⟨rfl,rfl,rfl,rfl,rfl⟩ (qY (jv 1)) (λC s2 H2 fp pins=>
       ⟨qz (i:=0) (W6 _) rfl (Or.inl rfl),jt,qU j3 (jv 0) qi (λ_ _=>rfl)⟩)) rfl)
     (qf (yH (jv 0) Jf rfl)
     (qh (jw PassesOwn.never rfl (qY (jv 1)) (qz (i:=2) uM.nd rfl (Or.inr rfl))
       (qh (jY hu (XH (jv 0) rfl) (qU j3 (jv 2) qi (λ_ _=>rfl))
         (Qp (N':=["name","row"]) (ix:=[none,some 2]) (tt:=Wh (Vg (Ge K false) (jd 0) (Vg (Wy K) (jd 1) (tC (.int 1))))) rfl ⟨rfl,rfl,rfl,rfl,rfl⟩ (qY (XH (jv 0) rfl)) (λC s2 H2 fp pins=>
           ⟨qz (i:=0) (show (["name","row"]:List Str).Nodup by decide+kernel) rfl (Or.inl rfl),ZS (qp Y5 (jv 0) (qU j3 (jv 1) qi (λ_ _=>rfl)) (by with_unfolding_all rfl)),jv 0⟩)) rfl)))))),?_⟩
   refine⟨_,rfl,l,ps,rs,rfl,g,λH1 s1=>?_⟩
   have g1:=g.mono s1
   have fr1:Fr H x H1:=λb u h _=>s1 _ _ h
   have hx1:=s1 _ _ hx
   refine⟨_,rfl,l,rfl,⟨_,.of g1.at_⟩,λlo hlo=>?_⟩
   have nlx:lo≠x:=λe=>by rw[e,hx1]at hlo;cases hlo
   refine jN (K:=K) (a:=l) (xs:=ps.map V.ref) (λi σ' H'=>∃v,σ'=[v]/\H'=upd H1 lo (.lst (((rs.take i).map (·.1)).map V.str))) ⟨none,rfl,rfl⟩ (λi σ' H' _ ⟨_,_,e⟩=>e▸.of (qk g1.at_ hlo)) ?_ ?_
   . rintro i y σ' H' hy ⟨v,rfl,rfl⟩
     obtain⟨p',q',r,rfl,er,hr',a,b⟩:=g1.rows.item hy
     have hi:=(List.getElem?_eq_some_iff.mp er).1
     refine⟨_,rfl,p',_,0,_,rfl,rfl,.of (qk a hlo),rfl,_,qd,?_,_,rfl,?_⟩
     . rw[List.length_map,List.length_map,List.length_take]
       have:=g.le
       exact ql (by omega)
     . rw[jx,List.take_add_one,er,List.map_append,List.map_append]
       rfl
   rintro σ' H' ⟨v,rfl,rfl⟩
   have e:rs.take (ps.map V.ref).length=rs:=List.take_of_length_le (by rw[List.length_map,g.rows.1];exact Nat.le_refl _)
   rw[e]
   have fr2:Fr H x (upd H1 lo (.lst ((rs.map (·.1)).map V.str))):=fr1.new hlo
   have hlo2:upd H1 lo (.lst ((rs.map (·.1)).map V.str)) lo=some (.lst ((rs.map (·.1)).map V.str)):=qd
   have hx2:upd H1 lo (.lst ((rs.map (·.1)).map V.str)) x=some (.ins CG dx []):=qk hx1 hlo
   generalize upd H1 lo (.lst ((rs.map (·.1)).map V.str))=H2 at fr2 hlo2 hx2
   refine⟨_,rfl,x,CG,dx,[],rfl,hx2,C.cl,C.no,by decide,?_⟩
   rw[RK]
   intro rd hrd
   have nrx:rd≠x:=λe=>by rw[e,qd]at hrd;cases hrd
   have hrd2:H2 rd=none:=by rw[qg nrx]at hrd;exact hrd
   have nrl:rd≠lo:=λe=>by rw[e,hlo2]at hrd2;cases hrd2
   have hHr:H rd=none:=fr2.fresh hx2 hrd2
   refine⟨_,rfl,x,CG,dx,_,rfl,qk qd hrd,C.cl,C.nr,by show 1 < 1000;decide,?_⟩
   rw[RJ]
   have fr5:Fr H x (upd (upd (upd H2 x (.ins CG dx [("order",.ref lo)])) rd (.dK [])) x (.ins CG dx [("order",.ref lo),("roads",.ref rd)])):=((fr2.at_d).own hHr).at_d
   have g5:=g.fr hx fr5
   refine⟨_,rfl,l,rfl,⟨_,.of g5.at_⟩,?_⟩
   refine jM (K:=K) (a:=l) (xs:=ps.map V.ref) (λi σ' H'=>∃v kvs,σ'=[some (.ref x),some (.ref l),v]/\H' x=some (.ins CG dx [("order",.ref lo),("roads",.ref rd)])/\H' lo=some (.lst ((rs.map (·.1)).map V.str))/\H' rd=some (.dK kvs)/\
     kvs.map (·.1)=((rs.map (·.1)).take i).map Sum.inr/\(∀r∈rs.take i,∃q,jI kvs (Sum.inr r.1)=some (.ref q)/\H' q=some (.lst ((jQ rs r).map V.str)))/\Fr H x H')
     ⟨none,[],rfl,qd,?_,?_,rfl,λr h=>(nomatch h),fr5⟩ (λi σ' H' _ ⟨_,_,_,_,_,_,_,_,fr⟩=>.of (g.fr hx fr).at_) ?_ ?_
   . rw[qg nlx,qg (Ne.symm nrl),qg nlx]
     exact hlo2
   . rw[qg nrx]
     exact qd
   . rintro i y σ' H' hy ⟨v,kvs,rfl,hx',hlo',hrd',ek,hv,fr⟩
     have g':=g.fr hx fr
     obtain⟨p,qq,r,rfl,er,hr',a,b⟩:=g'.rows.item hy
     have hi:=(List.getElem?_eq_some_iff.mp er).1
     have hle:=g.le
     refine⟨_,rfl,x,CG,dx,_,_,rfl,hx',C.cl,C.no,lkO _ _,lo,rfl,⟨_,.of hlo'⟩,λD hD=>?_⟩
     refine jN (K:=K) (a:=lo) (xs:=(rs.map (·.1)).map V.str) (λj σ'' H''=>∃v0,σ''=[v0,some (.ref p)]/\H''=upd H' D (.lst ((((rs.map (·.1)).take j).filter λz=>YJ (.str z) (r.2.map V.str)).map V.str))) ⟨none,rfl,rfl⟩
       (λj σ'' H'' _ ⟨_,_,e⟩=>e▸.of (qk hlo' hD)) ?_ ?_
     . rintro j y σ'' H'' hy ⟨v0,rfl,rfl⟩
       rw[List.getElem?_map]at hy
       cases e:(rs.map (·.1))[j]? with
       | none=>rw[e]at hy;cases hy
       | some z=>
         rw[e]at hy
         obtain rfl:=(Option.some.inj hy).symm
         refine⟨_,rfl,_,rfl,p,_,1,_,rfl,rfl,.of (qk a hD),rfl,qq,_,rfl,.inr (.of (qk b hD)),rfl,Jg _,_,rfl,?_⟩
         have et:((rs.map (·.1)).take (j+1)).filter (λz=>YJ (.str z) (r.2.map V.str))=((rs.map (·.1)).take j).filter (λz=>YJ (.str z) (r.2.map V.str))++if YJ (.str z) (r.2.map V.str)=true then [z] else []:=by
           rw[List.take_add_one,e,List.filter_append]
           congr 1
           cases ei:YJ (.str z) (r.2.map V.str)
           . simp [ei]
           . simp [ei]
         rw[et]
         show if YJ (.str z) (r.2.map V.str)=true then _ else _
         cases ei:YJ (.str z) (r.2.map V.str) with
         | true=>
           refine QM ⟨_,rfl,_,qd,?_,_,rfl,?_⟩
           . rw[List.length_map]
             refine ql (Nat.le_trans (List.length_filter_le _ _) ?_)
             rw[List.length_take,List.length_map]
             omega
           . rw[jx,if_pos rfl,List.map_append]
             rfl
         | false=>
           refine jn ⟨_,rfl,?_⟩
           rw[if_neg Bool.false_ne_true,List.append_nil]
     . rintro σ'' H'' ⟨v0,rfl,rfl⟩
       have ed:((rs.map (·.1)).take ((rs.map (·.1)).map V.str).length).filter (λz=>YJ (.str z) (r.2.map V.str))=jQ rs r:=by
         rw[List.length_map,List.take_of_length_le (Nat.le_refl _)]
         rfl
       rw[ed]
       have nD:∀{c:Addr} {o:HO},H' c=some o->c≠D:=λh e=>by rw[e,hD]at h;cases h
       have en:(rs.map (·.1))[i]?=some r.1:=by rw[List.getElem?_map,er];rfl
       have ez:jI kvs (Sum.inr r.1:ja)=none:=ZG (by rw[ek];exact zi g.good.nd en)
       have lk:kvs.length < sizeLine:=by
         have:=congrArg List.length ek
         rw[List.length_map,List.length_map,List.length_take,List.length_map]at this
         exact ql (by omega)
       refine⟨_,rfl,x,CG,dx,_,_,rfl,qk hx' hD,C.cl,C.nr,lkR _ _,_,rfl,p,_,0,_,rfl,rfl,.of (qk a hD),rfl,rd,_,rfl,JK.k (k:=(Sum.inr r.1:ja)) (qk hrd' hD) lk,?_⟩
       refine⟨_,jW kvs (Sum.inr r.1) (.ref D),rfl,?_,?_,qd,?_,λr' hr2=>?_,?_⟩
       . rw[qg (Ne.symm nrx)];exact qk hx' hD
       . rw[qg (Ne.symm nrl)];exact qk hlo' hD
       . rw[Jm _ ez,ek,List.take_add_one,en,List.map_append]
         rfl
       . rw[List.take_add_one,er]at hr2
         rcases List.mem_append.mp hr2 with h | h
         . obtain⟨q1,a1,b1⟩:=hv r' h
           refine⟨q1,?_,?_⟩
           . rw[Wc,if_neg]
             . exact a1
             . intro z
               rw[z,ez]at a1
               cases a1
           . have n1:q1≠rd:=λe=>by rw[e,hrd']at b1;cases b1
             rw[qg n1]
             exact qk b1 hD
         . have er':r'=r:=by simpa using h
           subst er'
           refine⟨D,?_,?_⟩
           . rw[Wc,if_pos rfl]
           . rw[qg (Ne.symm (nD hrd'))]
             exact qd
       . exact(fr.new hD).own hHr
   . rintro σ' H' ⟨v,kvs,rfl,hx',hlo',hrd',ek,hv,fr⟩
     have e:rs.take (ps.map V.ref).length=rs:=List.take_of_length_le (by rw[List.length_map,g.rows.1];exact Nat.le_refl _)
     rw[e]at hv
     exact q H' ⟨dx,lo,rd,kvs,hx',hlo',hrd',hv⟩ fr
end
end Rh
set_option Elab.async false
set_option linter.all false
set_option maxRecDepth 100000
set_option maxHeartbeats 4000000
namespace Rh
open PySem L2 PyProof.Rows
abbrev QI:Stmt:=top 24
abbrev YV:Stmt:=top 25
abbrev Zd:Stmt:=top 26
abbrev zb:Stmt:=top 27
abbrev Wp:Stmt:=top 28
abbrev YW:Stmt:=top 36
abbrev Wq:Stmt:=top 37
abbrev Yc:Stmt:=top 38
abbrev XC:Stmt:=top 39
abbrev Ud:Stmt:=top 40
abbrev XD:Stmt:=top 41
abbrev zQ:Stmt:=top 42
abbrev Uc:Stmt:=top 43
abbrev xZ:Stmt:=top 44
abbrev zR:Stmt:=top 45
abbrev Jb:Stmt:=Jt (top 3) 0
abbrev JR:Stmt:=Jt (top 4) 0
abbrev z9:Stmt:=Jt (top 5) 0
abbrev JP:Stmt:=Jt (top 6) 0
abbrev ZO:Stmt:=Jt (top 7) 0
abbrev jK:=List (Str×List Str)
theorem Zh {z:Str} {zs:List Str}:YJ (.str z) (zs.map V.str)=true↔z∈zs:=by
 refine⟨λh=>?_,ZU⟩
 unfold YJ at h
 obtain⟨y,hy,e⟩:=List.any_eq_true.mp h
 obtain⟨x,hx,rfl⟩:=List.mem_map.mp hy
 have e':(x==z)=true:=e
 rw[beq_iff_eq]at e'
 exact e'▸hx
structure KJ (K:PySem.W.Frag) (C:Addr) (m qual:Str) (st:Stmt) (ps:List Str) (f:Addr) (fd:FuncData):Prop where
 fn:Qj K m qual st f fd
 me:w4 K C m f
 bi:jX K fd ps []
theorem yM {X:Cx} {C f:Addr} {fd:FuncData} {m qual:Str} {st:Stmt} {ps:List Str} {k:Nat} {sp:Sp} {o:Expr} {ta:TE} {apos pos:Pos} {pl:Sem Bool} (h:KJ X.K C m qual st ps f fd) (c:vN X.K C) (G:qv X.prog X.w X.K X.mg X.base jh k f fd ps sp) (hr:qZ k X.A) (he:JE X o ta)
   (ht:eval (.Call (.Attribute o m apos) [] [] pos) X.env=(do
     let ov <-eval o X.env
     standAt apos.atName
     let (f,first) <-holding [ov] (getMethod ov m pl)
     callWith pos f first (backTo pos (starEach [] X.env)) (backToKw pos (keywordEach [] X.env))):=by rfl):
   JE X (.Call (.Attribute o m apos) [] [] pos) (Wi C m sp [] E0 ta jJ):=yK he c h.me G hr h.bi .nil JX ht
theorem Qu {zs:List Str} {i:Nat} {y:V} (h:(zs.map V.str)[i]?=some y):∃z,zs[i]?=some z/\z∈zs/\y=.str z:=by
 rw[List.getElem?_map]at h
 cases e:zs[i]? with
 | none=>rw[e]at h;cases h
 | some z=>rw[e]at h;exact⟨z,rfl,List.mem_of_getElem? e,(Option.some.inj h).symm⟩
theorem qJ {c:Bool} {A B:Prop} (hc:c=false) (h:B):if c=true then A else B:=by
 rw[hc]
 exact jn h
theorem jo {c:Bool} {A B:Prop} (hc:c=true) (h:A):if c=true then A else B:=by
 rw[if_pos hc]
 exact h
theorem Vy {σ:L2.St} {H:Hp} {Q:List V->Hp->Prop} (h:Q [] H):jJ σ H Q:=h
theorem YU {H H':Hp} {a:Addr} (s:Same H H') (h:H' a=none):H a=none:=by
 cases z:H a with
 | none=>rfl
 | some u=>rw[s _ _ z]at h;cases h
theorem QL {z:Str} (h:qw z=true):(∀c∈z.cps.toList,c<=122)/\z.length<=8/\1<=z.length:=by
 unfold qw at h
 simp only[Bool.and_eq_true,decide_eq_true_eq]at h
 refine⟨λc hc=>?_,h.1.2,h.1.1⟩
 have:=List.all_eq_true.mp h.2 c hc
 unfold qO at this
 simp only[Bool.and_eq_true,decide_eq_true_eq]at this
 exact this.2
theorem W3 {K:PySem.W.Frag} {H:Hp}:∀zs:List Str,DVs K H (zs.map V.str) (zs.map PyData.str)
 | []=>.nil
 | z::zs=>.cons (.str z) (W3 zs)
structure X6 (K:PySem.W.Frag) (mg:Str->Option Value) (D:Addr) (x qual:Str) (st:Stmt) (fld:Str) (C f:Addr) (fd:FuncData):Prop where
 cls:zO K C (.ref D::qR)
 mkr:G6 K C f (.ref D::qR)
 ns:mg x=some (.ref C)
 na:Qi K C fld
 fn:Qj K "__init__" qual st f fd
 bi:jX K fd ["self",fld] []
theorem yd (D:Addr):Vw (.ref D::qR):=rfl
theorem vj (D:Addr):(Value.ref D::qR).contains (.type "BaseException")=true:=rfl
theorem X6.rcls {K:PySem.W.Frag} {mg:Str->Option Value} {D C f:Addr} {x qual fld:Str} {st:Stmt} {fd:FuncData} (h:X6 K mg D x qual st fld C f fd):XX K C:=⟨f,_,h.mkr,vj D⟩
def YS (C:Addr) (fld:Str):Sp:=λvs H Q _=>∃e y,vs=[.ref e,y]/\H e=some (Za e C)/\∀dx,H dx=none->Q .non (upd (upd H e (QO e C dx)) dx (.xd [(fld,y)]))
theorem Uv {H:Hp} {e dx C:Addr} {fs:List (Str×V)} (h1:H e=none) (h2:upd H e (Za e C) dx=none):
   Same H (upd (upd (upd H e (Za e C)) e (QO e C dx)) dx (.xd fs))/\upd (upd (upd H e (Za e C)) e (QO e C dx)) dx (.xd fs) e=some (QO e C dx)/\upd (upd (upd H e (Za e C)) e (QO e C dx)) dx (.xd fs) dx=some (.xd fs):=by
 have ne:e≠dx:=λz=>by rw[<-z,qd]at h2;cases h2
 refine⟨λb o hb=>?_,?_,qd⟩
 . have b1:b≠e:=qt hb h1
   have b2:b≠dx:=λz=>by rw[<-z,qg b1,hb]at h2;cases h2
   rw[qg b2,qg b1,qg b1];exact hb
 . rw[qg ne];exact qd
def QC (H H':Hp):Prop:=∀b o,H b=some o->(∀φ,o≠.ext φ)->H' b=some o
theorem _root_.L2.Same.keep {H H':Hp} (s:Same H H'):QC H H':=λb o h _=>s b o h
theorem QC.trans {H H' H'':Hp} (a:QC H H') (b:QC H' H''):QC H H'':=λc o h n=>b c o (a c o h n) n
theorem _root_.L2.SqT.keep {K:PySem.W.Frag} {H H':Hp} {p:Addr} {xs:List V} (h:SqT K H p xs) (s:QC H H'):SqT K H' p xs:=by
 rcases h with (h | ⟨o,h⟩) | h
 . exact .inl (.inl (s _ _ h (λ_ z=>nomatch z)))
 . exact .inl (.inr ⟨o,s _ _ h (λ_ z=>nomatch z)⟩)
 . exact .inr h
theorem _root_.L2.SqL.keep {K:PySem.W.Frag} {H H':Hp} {p:Addr} {xs:List V} (h:SqL K H p xs) (s:QC H H'):SqL K H' p xs:=by
 rcases h with (h | ⟨o,h⟩) | h
 . exact .inl (.inl (s _ _ h (λ_ z=>nomatch z)))
 . exact .inl (.inr ⟨o,s _ _ h (λ_ z=>nomatch z)⟩)
 . exact .inr h
theorem qL.tail {H:Hp} {p:Addr} {ps:List Addr} {r:Str×List Str} {rs:jK} (h:qL H (p::ps) (r::rs)):qL H ps rs:=⟨Nat.succ.inj h.1,λi a b e1 e2=>h.2 (i+1) a b (by simpa using e1) (by simpa using e2)⟩
theorem Yn {X:Hp} {l2:Addr} {ps:List Addr} {rs:jK} {CG:Addr} {R:Hp->Prop} (hl:X l2=some (.lst (ps.map V.ref))) (rat:qL X ps rs) (good:qG rs) (pos:0 < rs.length) (le14:rs.length<=14)
   {x dx:Addr} (hx:X x=none) (hdx:X dx=none) (ndx:dx≠x) {E:XK} (k:∀H4,Same X H4->W1 CG H4 x rs->R H4):
   ZI CG [.ref x,.ref l2] (upd (upd X dx (.own x)) x (.ins CG dx [])) (λv H'=>v=.non/\R H') E:=by
 have s3:Same X (upd (upd X dx (.own x)) x (.ins CG dx [])):=λb u hb=>by
   rw[qg (qt hb hx),qg (qt hb hdx)]
   exact hb
 refine⟨x,dx,l2,ps,rs,rfl,⟨s3 _ _ hl,rat.mono s3,good,pos,le14⟩,qd,λH4 gr fr4=>⟨rfl,k H4 (λb u hb=>fr4 b u (s3 _ _ hb) (qt hb hx)) gr⟩⟩
end Rh
set_option Elab.async false
set_option linter.all false
set_option maxRecDepth 100000
set_option maxHeartbeats 4000000
namespace Rh
open PySem L2 PyProof.Rows
mutual
inductive DH (K:PySem.W.Frag) (H:Hp):V->PyData->Prop
 | non:DH K H .non .none
 | bl (b:Bool):DH K H (.bl b) (.bool b)
 | int (i:Int):DH K H (.int i) (.int i)
 | str (x:Str):x.length<=1000->DH K H (.str x) (.str x)
 | lst {a:Addr} {xs:List V} {ds:List PyData}:H a=some (.lst xs)->DVs K H xs ds->DH K H (.ref a) (.list ds)
 | tup {a:Addr} {xs:List V} {ds:List PyData}:H a=some (.tup xs)->xs.length<=900->DHs K H xs ds->DH K H (.ref a) (.tuple ds)
 | dct {a:Addr}:H a=some (.dK [])->DH K H (.ref a) (.dict [])
inductive DHs (K:PySem.W.Frag) (H:Hp):List V->List PyData->Prop
 | nil:DHs K H [] []
 | cons {x:V} {xs:List V} {d:PyData} {ds:List PyData}:DH K H x d->DHs K H xs ds->DHs K H (x::xs) (d::ds)
end
mutual
theorem xl {K:PySem.W.Frag} {H H':Hp} (s:QC H H'):∀{x:V} {d:PyData},DV K H x d->DV K H' x d
 | _,_,.non=>.non
 | _,_,.bl b=>.bl b
 | _,_,.int i=>.int i
 | _,_,.str x=>.str x
 | _,_,.lst q hs=>.lst (q.keep s) (dvs_keepS s hs)
 | _,_,.tup q hs=>.tup (q.keep s) (dvs_keepS s hs)
theorem dvs_keepS {K:PySem.W.Frag} {H H':Hp} (s:QC H H'):∀{xs:List V} {ds:List PyData},DVs K H xs ds->DVs K H' xs ds
 | _,_,.nil=>.nil
 | _,_,.cons h hs=>.cons (xl s h) (dvs_keepS s hs)
end
mutual
theorem DH.keep {K:PySem.W.Frag} {H H':Hp} (s:QC H H'):∀{x:V} {d:PyData},DH K H x d->DH K H' x d
 | _,_,.non=>.non
 | _,_,.bl b=>.bl b
 | _,_,.int i=>.int i
 | _,_,.str x l=>.str x l
 | _,_,.lst q hs=>.lst (s _ _ q (λ_ z=>nomatch z)) (dvs_keepS s hs)
 | _,_,.tup q l hs=>.tup (s _ _ q (λ_ z=>nomatch z)) l (DHs.keep s hs)
 | _,_,.dct q=>.dct (s _ _ q (λ_ z=>nomatch z))
theorem DHs.keep {K:PySem.W.Frag} {H H':Hp} (s:QC H H'):∀{xs:List V} {ds:List PyData},DHs K H xs ds->DHs K H' xs ds
 | _,_,.nil=>.nil
 | _,_,.cons h hs=>.cons (DH.keep s h) (DHs.keep s hs)
end
theorem DHs.len {K:PySem.W.Frag} {H:Hp}:∀{xs:List V} {ds:List PyData},DHs K H xs ds->xs.length=ds.length
 | _,_,.nil=>rfl
 | _,_,.cons _ hs=>congrArg Nat.succ hs.len
theorem DHs.get {K:PySem.W.Frag} {H:Hp}:∀{xs:List V} {ds:List PyData},DHs K H xs ds->∀{i:Nat} {x:V},xs[i]?=some x->∃d,ds[i]?=some d/\DH K H x d
 | _,_,.nil,i,x,e=>by simp at e
 | _,_,.cons h hs,0,x,e=>by
   obtain rfl:_=x:=by simpa using e
   exact⟨_,rfl,h⟩
 | _,_,.cons h hs,i+1,x,e=>by
   obtain⟨d,e2,h2⟩:=hs.get (i:=i) (x:=x) (by simpa using e)
   exact⟨d,by simpa using e2,h2⟩
def uA:PyData->String
 | .none=>"NoneType"
 | .bool _=>"bool"
 | .int _=>"int"
 | .str _=>"str"
 | .list _=>"list"
 | .tuple _=>"tuple"
 | .dict _=>"dict"
theorem DH.ty {K:PySem.W.Frag} {H:Hp} {x:V} {d:PyData} (h:DH K H x d):ZD K H x (.type (uA d)):=by
 cases h with
 | non=>exact .non
 | bl b=>exact .bl b
 | int i=>exact .int i
 | str z _=>exact .str z
 | lst q _=>exact .lst q
 | tup q _ _=>exact .tup q
 | dct q=>exact .dK q
def GJ:PyData->Bool
 | .str _=>true
 | _=>false
def Rf:PyData->Bool
 | .tuple _=>true
 | _=>false
def Rg:PyData->Bool
 | .list _=>true
 | _=>false
theorem uv {K:PySem.W.Frag} (d:PyData):PySem.W.kitOne K (.type (uA d)) (.type "str")=some (GJ d):=by cases d<;>(unfold uA GJ;dsimp only;kernel_rfl)
theorem uu {K:PySem.W.Frag} (d:PyData):PySem.W.kitOne K (.type (uA d)) (.type "tuple")=some (Rf d):=by cases d<;>(unfold uA Rf;dsimp only;kernel_rfl)
theorem GB {K:PySem.W.Frag} (d:PyData):PySem.W.kitOne K (.type (uA d)) (.type "list")=some (Rg d):=by cases d<;>(unfold uA Rg;dsimp only;kernel_rfl)
def J8:PyData->Bool
 | .str z=>qw z
 | _=>false
def xP:PyData->Bool
 | .tuple xs=>xs.all J8
 | _=>false
def Vt:PyData->Bool
 | .tuple [a,b]=>J8 a&&xP b
 | _=>false
def Wn (K:PySem.W.Frag):Sp:=λvs H Q _=>∃v d,vs=[v]/\DH K H v d/\∀H',Same H H'->Q (.bl (J8 d)) H'
def kh (K:PySem.W.Frag):Sp:=λvs H Q _=>∃v d,vs=[v]/\DH K H v d/\∀H',Same H H'->Q (.bl (xP d)) H'
def Vl (K:PySem.W.Frag):Sp:=λvs H Q _=>∃v d,vs=[v]/\DH K H v d/\∀H',Same H H'->Q (.bl (Vt d)) H'
section
variable {P:Program} {w:World} {K:PySem.W.Frag} {mg:Str->Option Value} {base:Heap}
theorem Yj {f:Addr} {fd:FuncData} (F:Qj K "is_name" "is_name" QW f fd) (B:Zu mg) (T:Q6 K mg):qv P w K mg base jh 1 f fd ["thing"] (Wn K):=by
 refine F.okJ kD (λvs H Q E h=>?_) (λcdv A outer s H vs Q E hr h=>?_)
 . obtain⟨v,d,rfl,_⟩:=h
   rfl
 . obtain⟨v,d,rfl,hd,q⟩:=h
   obtain⟨tl,hlets⟩:=T.lets
   obtain⟨tg,hlg⟩:=T.lgst
   refine⟨_,qf (qK (j9 (jL (qm ju (by rfl) T.isi boot_isinstance (qb (jv 0) (qb (Qy (v:=.ty "str") (by rfl) T.str boot_str rfl) qe))))) (qh (qF Qq)) qu)
     (qf (qK (QZ (qp Qd (qm jf (by rfl) B.len boot_len (qb (jv 0) qe)) qi (qA _))
         (j7 (qp Yi (qm jf (by rfl) B.len boot_len (qb (jv 0) qe)) (Qk (v:=.int 8) (by rfl) hlg ⟨_,rfl⟩) (qA _)))).pt (qh (qF Qq)) qu)
     (qh (qF (qm (Jh rfl) (by rfl) T.all boot_all (qb (Qp (N':=["sign"]) (ix:=[none]) rfl ⟨rfl,rfl,rfl,rfl,rfl⟩ (VE (jv 0)) (λC s2 H2 fp pins=>
       ⟨qz (i:=0) (W6 _) rfl (Or.inl rfl),jt,Zg Y4 (jv 0) (Qk (v:=.str VP) (by rfl) hlets ⟨_,rfl⟩) (by with_unfolding_all rfl)⟩)) qe))))),?_⟩
   refine⟨_,rfl,_,_,_,_,rfl,rfl,hd.ty,uv d,_,rfl,?_⟩
   cases c:GJ d with
   | false=>
     refine QM ?_
     have e:J8 d=false:=by cases d<;>first | rfl | cases c
     rw[e]at q
     exact q H (Same.refl _)
   | true=>
     refine jn ?_
     cases hd with
     | str z hz=>
       have hz':z.length<=sizeLine:=Nat.le_of_lt (ql hz)
       have q:∀H',Same H H'->Q (.bl (qw z)) H':=q
       refine⟨_,rfl,z,rfl,hz',_,_,rfl,rfl,_,rfl,?_⟩
       refine J6 (λh=>?_) (λh=>?_)
       . have:z.length < 1:=by have:=of_decide_eq_true h;omega
         have e:qw z=false:=by
           unfold qw
           rw[decide_eq_false (by omega:¬1<=z.length)]
           rfl
         rw[e]at q
         exact q H (Same.refl _)
       . have n1:1<=z.length:=by
           have:¬(z.length:Int) < 1:=λy=>h (decide_eq_true y)
           omega
         refine⟨_,rfl,z,rfl,hz',_,_,rfl,rfl,_,rfl,?_⟩
         refine J6 (λh2=>?_) (λh2=>?_)
         . have:8 < z.length:=by have:(8:Int) < (z.length:Int):=of_decide_eq_true h2;omega
           have e:qw z=false:=by
             unfold qw
             rw[decide_eq_false (by omega:¬z.length<=8),Bool.and_false]
             rfl
           rw[e]at q
           exact q H (Same.refl _)
         . have n8:z.length<=8:=by
             have:¬(8:Int) < (z.length:Int):=λy=>h2 (decide_eq_true y)
             omega
           refine⟨_,rfl,z,rfl,λD hD=>?_⟩
           refine XR (λi σ' H'=>∃v,σ'=[v]/\H'=upd H D (.lst (((z.cps.toList.take i).map qO).map V.bl))) ⟨none,rfl,rfl⟩ ?_ ?_
           . rintro i c σ' H' hc ⟨v,rfl,rfl⟩
             refine⟨_,rfl,_,_,rfl,rfl,_,qd,?_,?_⟩
             . rw[List.length_map,List.length_map,List.length_take]
               exact Nat.lt_of_le_of_lt (Nat.min_le_right _ _) (ql (show z.cps.toList.length<=1000 by rw[Array.length_toList];exact Nat.le_trans n8 (by decide)))
             . refine⟨_,rfl,?_⟩
               rw[jx,yV]
               have hc':z.cps.toList[i]?=some c:=by simpa using hc
               rw[<-WY qO z.cps.toList i c hc',List.map_append]
               rfl
           . rintro σ' H' ⟨v,rfl,rfl⟩
             refine⟨D,_,rfl,.of qd,?_⟩
             have e0:z.cps.toList.take z.cps.size=z.cps.toList:=List.take_of_length_le (by simp)
             have e1:(z.cps.toList.map qO).all id=qw z:=by
               unfold qw
               rw[List.all_map,decide_eq_true n1,decide_eq_true n8]
               simp [Function.comp_def]
             rw[e0,e1]
             exact q _ (qj hD)
     | _=>cases c
theorem we {f fN:Addr} {fd fdN:FuncData} (F:Qj K "is_tuple_of_names" "is_tuple_of_names" ZN f fd) (B:Zu mg) (G:QB mg) (T:Q6 K mg) (hN:jC K mg "is_name" QW ["thing"] fN fdN):qv P w K mg base jh 2 f fd ["thing"] (kh K):=by
 have GN:qv P w K mg base jh 1 fN fdN ["thing"] (Wn K):=Yj hN.fn B T
 refine F.okJ kB (λvs H Q E h=>?_) (λcdv A outer s H vs Q E hr h=>?_)
 . obtain⟨v,d,rfl,_⟩:=h
   rfl
 . obtain⟨v,d,rfl,hd,q⟩:=h
   refine⟨_,qh (qF (zx (qm ju (by rfl) T.isi boot_isinstance (qb (jv 0) (qb (Qy (v:=.ty "tuple") (by rfl) G.tup boot_tuple rfl) qe)))
     (zw (qm (Jh rfl) (by rfl) T.all boot_all (qb (Qp (N':=["part"]) (ix:=[none]) rfl ⟨rfl,rfl,rfl,rfl,rfl⟩ (XG (jv 0)) (λC s2 H2 fp pins=>
       ⟨qz (i:=0) (W6 _) rfl (Or.inl rfl),jt,qQ hN GN hr (by rfl) (qb (jv 0) qe)⟩)) qe))))),?_⟩
   refine⟨_,rfl,_,_,_,_,rfl,rfl,hd.ty,uu d,_,rfl,?_⟩
   cases c:Rf d with
   | false=>
     refine jn ?_
     have e:xP d=false:=by cases d<;>first | rfl | cases c
     rw[e]at q
     exact q H (Same.refl _)
   | true=>
     refine QM ?_
     cases hd with
     | @tup x xs ds hx hl hs=>
       have q:∀H',Same H H'->Q (.bl (ds.all J8)) H':=q
       have ll:=hs.len
       refine⟨_,rfl,x,rfl,⟨_,.of hx⟩,λD hD=>?_⟩
       refine UK (K:=K) (a:=x) (xs:=xs) (λi σ' H'=>∃v,σ'=[v]/\Same H H'/\H' D=some (.lst (((ds.take i).map J8).map V.bl))) ⟨none,rfl,qj hD,qd⟩ (λi σ' H' _ ⟨_,_,s,_⟩=>.of (s _ _ hx)) ?_ ?_
       . rintro i y σ' H' hy ⟨v,rfl,s1,hD1⟩
         obtain⟨d,ed,hd⟩:=hs.get hy
         have hi:=(List.getElem?_eq_some_iff.mp ed).1
         refine⟨_,rfl,y,d,rfl,hd.keep s1.keep,λH2 s2=>⟨_,s2 _ _ hD1,?_,_,rfl,Same.upd (s1.trans s2) hD,?_⟩⟩
         . rw[List.length_map,List.length_map,List.length_take]
           exact ql (by omega)
         . rw[qd,List.take_add_one,ed,List.map_append,List.map_append]
           rfl
       . rintro σ' H' ⟨v,rfl,s1,hD1⟩
         rw[ll,List.take_of_length_le (Nat.le_refl _)]at hD1
         refine⟨D,_,rfl,.of hD1,?_⟩
         rw[List.all_map]
         exact q _ s1
     | _=>cases c
theorem wg {f fN fP:Addr} {fd fdN fdP:FuncData} (F:Qj K "is_row" "is_row" Zw f fd) (B:Zu mg) (G:QB mg) (T:Q6 K mg) (hN:jC K mg "is_name" QW ["thing"] fN fdN) (hP:jC K mg "is_tuple_of_names" ZN ["thing"] fP fdP):qv P w K mg base jh 3 f fd ["thing"] (Vl K):=by
 have GN:qv P w K mg base jh 1 fN fdN ["thing"] (Wn K):=Yj hN.fn B T
 have GP:qv P w K mg base jh 2 fP fdP ["thing"] (kh K):=we hP.fn B G T hN
 refine F.okJ V9 (λvs H Q E h=>?_) (λcdv A outer s H vs Q E hr h=>?_)
 . obtain⟨v,d,rfl,_⟩:=h
   rfl
 . obtain⟨v,d,rfl,hd,q⟩:=h
   refine⟨_,qf (qK (QZ (j9 (jL (qm ju (by rfl) T.isi boot_isinstance (qb (jv 0) (qb (Qy (v:=.ty "tuple") (by rfl) G.tup boot_tuple rfl) qe)))))
       (j7 (qp Yh (qm qH (by rfl) B.len boot_len (qb (jv 0) qe)) qi (qA _)))).pt (qh (qF Qq)) qu)
     (qh (qF (zx (qQ hN GN (hr.mono (by decide)) (by rfl) (qb (qU j3 (jv 0) qi (λ_ _=>rfl)) qe)) (zw (qQ hP GP hr (by rfl) (qb (qU j3 (jv 0) qi (λ_ _=>rfl)) qe)))))),?_⟩
   refine⟨_,rfl,_,_,_,_,rfl,rfl,hd.ty,uu d,_,rfl,?_⟩
   cases c:Rf d with
   | false=>
     refine QM ?_
     have e:Vt d=false:=by cases d<;>first | rfl | cases c
     rw[e]at q
     exact q H (Same.refl _)
   | true=>
     refine jn ?_
     cases hd with
     | @tup p xs ds hp hl hs=>
       have ll:=hs.len
       refine⟨_,rfl,p,_,rfl,.inr (.of hp),rfl,_,rfl,?_⟩
       by_cases c2:xs.length=2
       . refine qJ (by rw[c2];rfl) ?_
         match xs,ds,hs,c2 with
         | [x0,x1],[d0,d1],.cons h0 (.cons h1 .nil),_=>
           refine⟨_,rfl,p,_,0,_,rfl,rfl,.of hp,rfl,x0,d0,rfl,h0,λH1 s1=>⟨_,rfl,?_⟩⟩
           have q:∀H',Same H H'->Q (.bl (J8 d0&&xP d1)) H':=q
           cases c0:J8 d0 with
           | false=>
             rw[c0]at q
             exact jn (q H1 s1)
           | true=>
             rw[c0]at q
             exact QM ⟨_,rfl,p,_,1,_,rfl,rfl,.of (s1 _ _ hp),rfl,x1,d1,rfl,h1.keep s1.keep,λH2 s2=>q H2 (s1.trans s2)⟩
       . refine jo (by simp only[Bool.not_eq_true',decide_eq_false_iff_not];intro z;have:=V.int.inj z;omega) ?_
         have e:Vt (.tuple ds)=false:=by
           match ds,ll with
           | [],_=>rfl
           | [_],_=>rfl
           | [_,_],l=>exact absurd l c2
           | _::_::_::_,_=>rfl
         rw[e]at q
         exact q H (Same.refl _)
     | _=>cases c
end
end Rh
set_option Elab.async false
set_option linter.all false
set_option maxRecDepth 100000
set_option maxHeartbeats 4000000
namespace Rh
open PySem L2 PyProof.Rows
abbrev vW (C:Addr) (sp:Sp) (E:XK) (t:TA):TE:=λσ H Q=>t σ H λvs H1=>vs.length<=sizeLine/\∀x,H1 x=none->sp (.ref x::vs) (upd H1 x (Za x C)) (λv H2=>v=.non/\Q (.ref x) H2) E
inductive Zk where
 | ground (n:Nat) | many (n:Nat) | twice (z:Str) | place (z:Str) | text (n:Nat)
structure C4 where
 g:Addr
 m:Addr
 t:Addr
 p:Addr
 x:Addr
def Zk.cls (c:C4):Zk->Addr
 | .ground _=>c.g
 | .many _=>c.m
 | .twice _=>c.t
 | .place _=>c.p
 | .text _=>c.x
def Zk.fld:Zk->Str
 | .ground _=>Str.ofString "row"
 | .text _=>Str.ofString "row"
 | _=>Str.ofString "found"
def Zk.val:Zk->V
 | .ground n=>.int (n:Nat)
 | .text n=>.int (n:Nat)
 | .many n=>.int (n:Nat)
 | .twice z=>.str z
 | .place z=>.str z
def zB (c:C4) (E:XK) (H:Hp) (r:Zk):Prop:=∀Hx dx,Same H Hx->Hx dx=some (.xd [(r.fld,r.val)])->E (.ref (r.cls c)) (some dx) Hx
theorem zB.mono {c:C4} {E:XK} {H H':Hp} {r:Zk} (h:zB c E H r) (s:Same H H'):zB c E H' r:=λHx dx s2 hd=>h Hx dx (s.trans s2) hd
structure xD (K:PySem.W.Frag) (mg:Str->Option Value) (D:Addr) (c:C4):Prop where
 g:∃f fd,X6 K mg D "NoGround" "NoGround.__init__" Jb "row" c.g f fd
 m:∃f fd,X6 K mg D "TooMany" "TooMany.__init__" JP "found" c.m f fd
 t:∃f fd,X6 K mg D "Twice" "Twice.__init__" z9 "found" c.t f fd
 p:∃f fd,X6 K mg D "NoPlace" "NoPlace.__init__" JR "found" c.p f fd
 x:∃f fd,X6 K mg D "NoText" "NoText.__init__" ZO "row" c.x f fd
def X0 (K:PySem.W.Frag) (H:Hp) (y:V):Prop:=∃d,DH K H y d/\Vt d=true
def Xw (K:PySem.W.Frag) (c:C4):Sp:=λvs H Q E=>∃v,vs=[v]/\
 ((∃d,DH K H v d/\Rg d=false/\zB c E H (.ground 0))\/(∃l,v=.ref l/\H l=some (.lst [])/\zB c E H (.ground 0))\/
  (∃l xs,v=.ref l/\H l=some (.lst xs)/\14 < xs.length/\xs.length<=1000/\zB c E H (.many xs.length))\/
  (∃(l:Addr) (xs:List V) (i:Nat) (x:V) (d:PyData),v=.ref l/\H l=some (.lst xs)/\xs.length<=14/\xs[i]?=some x/\DH K H x d/\Vt d=false/\(∀(j:Nat) (y:V),j < i->xs[j]?=some y->X0 K H y)/\zB c E H (.ground i))\/
  (∃l xs,v=.ref l/\H l=some (.lst xs)/\0 < xs.length/\xs.length<=14/\(∀(j:Nat) (y:V),xs[j]?=some y->X0 K H y)/\∀H',Same H H'->Q .non H'))
def kl (c:C4):Sp:=λvs H Q E=>∃(l:Addr) (zs:List Str),vs=[.ref l]/\H l=some (.lst (zs.map V.str))/\zs.length<=1000/\
 ((zs.Nodup/\∀H',Same H H'->Q .non H')\/∃i z,zs[i]?=some z/\z∈zs.take i/\(zs.take i).Nodup/\zB c E H (.twice z))
def Xx (c:C4):Sp:=λvs H Q E=>∃(q l:Addr) (es zs:List Str),vs=[.ref q,.ref l]/\H q=some (.tup (es.map V.str))/\H l=some (.lst (zs.map V.str))/\es.length<=900/\
 ((es.Nodup/\(∀z∈es,z∈zs)/\∀H',Same H H'->Q .non H')\/∃i z,es[i]?=some z/\(es.take i).Nodup/\(∀y∈es.take i,y∈zs)/\((z∉zs/\zB c E H (.place z))\/(z∈zs/\z∈es.take i/\zB c E H (.twice z))))
theorem Ur {zs:List Str} {i:Nat} {z:Str} (h:(zs.take (i+1)).Nodup) (e:zs[i]?=some z):z∉zs.take i:=by
 rw[List.take_add_one,e]at h
 exact λm=>(List.nodup_append.mp h).2.2 z m z (by simp) rfl
theorem Us {zs:List Str} {i j:Nat} (h:(zs.take j).Nodup) (l:i<=j):(zs.take i).Nodup:=by
 have:zs.take i=(zs.take j).take i:=by rw[List.take_take,Nat.min_eq_left l]
 rw[this]
 exact h.sublist (List.take_sublist _ _)
theorem Ux {zs:List Str} {i:Nat} {z:Str} {H':Hp} {D:Addr} {kvs:List (ja×V)} (hz:zs.length<=1000) (e:zs[i]?=some z) (hD1:H' D=some (.dK kvs)) (ek:kvs.map (·.1)=(zs.take i).map Sum.inr):
   Q7 H' D (.str z) (jI kvs (Sum.inr z:ja))/\kvs.length < sizeLine/\(z∉zs.take i->jI kvs (Sum.inr z:ja)=none)/\(z∈zs.take i->(jI kvs (Sum.inr z:ja)).isSome=true):=by
 refine⟨Q7.k (k:=(Sum.inr z:ja)) hD1,?_,λn=>ZG (by rw[ek];exact λm=>by obtain⟨y,hy,ey⟩:=List.mem_map.mp m;exact n (by rw[<-Sum.inr.inj ey];exact hy)),λm=>?_⟩
 . have:=congrArg List.length ek
   have hi:=(List.getElem?_eq_some_iff.mp e).1
   rw[List.length_map,List.length_map,List.length_take]at this
   exact ql (by omega)
 . rw[<-QG,List.any_eq_true]
   have:(Sum.inr z:ja)∈kvs.map (·.1):=by rw[ek];exact List.mem_map.mpr ⟨z,m,rfl⟩
   obtain⟨kv,hkv,e2⟩:=List.mem_map.mp this
   exact⟨kv,hkv,decide_eq_true e2⟩
section
variable {P:Program} {w:World} {K:PySem.W.Frag} {mg:Str->Option Value} {base:Heap}
theorem RA:qC ["self","row"] ["self","row"] (qo Jb):=⟨rfl,rfl,rfl,by decide+kernel,rfl,by decide+kernel,by decide+kernel⟩
theorem Rw:qC ["self","row"] ["self","row"] (qo ZO):=⟨rfl,rfl,rfl,by decide+kernel,rfl,by decide+kernel,by decide+kernel⟩
theorem Rz:qC ["self","found"] ["self","found"] (qo JP):=⟨rfl,rfl,rfl,by decide+kernel,rfl,by decide+kernel,by decide+kernel⟩
theorem Rx:qC ["self","found"] ["self","found"] (qo z9):=⟨rfl,rfl,rfl,by decide+kernel,rfl,by decide+kernel,by decide+kernel⟩
theorem Ry:qC ["self","found"] ["self","found"] (qo JR):=⟨rfl,rfl,rfl,by decide+kernel,rfl,by decide+kernel,by decide+kernel⟩
theorem RN {D C f:Addr} {fd:FuncData} (x:X6 K mg D "NoGround" "NoGround.__init__" Jb "row" C f fd):qv P w K mg base jh 1 f fd ["self","row"] (YS C "row"):=by
 refine x.fn.okJ RA (λvs H Q E h=>?_) (λcdv A outer s H vs Q E hr h=>?_)
 . obtain⟨e,y,rfl,_⟩:=h
   rfl
 . obtain⟨e,y,rfl,hH,k⟩:=h
   exact⟨_,qh (Yr (bm:=.ref D::qR) (jv 0) (jv 1) rfl),_,rfl,_,rfl,e,C,rfl,hH,x.cls,yd D,x.na,λdx hdx=>k dx hdx⟩
theorem RL {D C f:Addr} {fd:FuncData} (x:X6 K mg D "NoText" "NoText.__init__" ZO "row" C f fd):qv P w K mg base jh 1 f fd ["self","row"] (YS C "row"):=by
 refine x.fn.okJ Rw (λvs H Q E h=>?_) (λcdv A outer s H vs Q E hr h=>?_)
 . obtain⟨e,y,rfl,_⟩:=h
   rfl
 . obtain⟨e,y,rfl,hH,k⟩:=h
   exact⟨_,qh (Yr (bm:=.ref D::qR) (jv 0) (jv 1) rfl),_,rfl,_,rfl,e,C,rfl,hH,x.cls,yd D,x.na,λdx hdx=>k dx hdx⟩
theorem Gr {D C f:Addr} {fd:FuncData} (x:X6 K mg D "TooMany" "TooMany.__init__" JP "found" C f fd):qv P w K mg base jh 1 f fd ["self","found"] (YS C "found"):=by
 refine x.fn.okJ Rz (λvs H Q E h=>?_) (λcdv A outer s H vs Q E hr h=>?_)
 . obtain⟨e,y,rfl,_⟩:=h
   rfl
 . obtain⟨e,y,rfl,hH,k⟩:=h
   exact⟨_,qh (Yr (bm:=.ref D::qR) (jv 0) (jv 1) rfl),_,rfl,_,rfl,e,C,rfl,hH,x.cls,yd D,x.na,λdx hdx=>k dx hdx⟩
theorem Gq {D C f:Addr} {fd:FuncData} (x:X6 K mg D "Twice" "Twice.__init__" z9 "found" C f fd):qv P w K mg base jh 1 f fd ["self","found"] (YS C "found"):=by
 refine x.fn.okJ Rx (λvs H Q E h=>?_) (λcdv A outer s H vs Q E hr h=>?_)
 . obtain⟨e,y,rfl,_⟩:=h
   rfl
 . obtain⟨e,y,rfl,hH,k⟩:=h
   exact⟨_,qh (Yr (bm:=.ref D::qR) (jv 0) (jv 1) rfl),_,rfl,_,rfl,e,C,rfl,hH,x.cls,yd D,x.na,λdx hdx=>k dx hdx⟩
theorem RM {D C f:Addr} {fd:FuncData} (x:X6 K mg D "NoPlace" "NoPlace.__init__" JR "found" C f fd):qv P w K mg base jh 1 f fd ["self","found"] (YS C "found"):=by
 refine x.fn.okJ Ry (λvs H Q E h=>?_) (λcdv A outer s H vs Q E hr h=>?_)
 . obtain⟨e,y,rfl,_⟩:=h
   rfl
 . obtain⟨e,y,rfl,hH,k⟩:=h
   exact⟨_,qh (Yr (bm:=.ref D::qR) (jv 0) (jv 1) rfl),_,rfl,_,rfl,e,C,rfl,hH,x.cls,yd D,x.na,λdx hdx=>k dx hdx⟩
theorem j5 {c:C4} {E:XK} {H:Hp} (r:Zk) {C D f:Addr} {fd:FuncData} {nm qn:Str} {st:Stmt} (x:X6 K mg D nm qn st r.fld (r.cls c) f fd) (o:zB c E H r):
   ∀e,H e=none->YS (r.cls c) r.fld [.ref e,r.val] (upd H e (Za e (r.cls c))) (λv H2=>v=.non/\∃a C dx,V.ref e=.ref a/\H2 a=some (QO a C dx)/\XX K C/\E (.ref C) (some dx) H2) E0:=λe he=>by
 refine⟨e,_,rfl,qd,λdx hdx=>⟨rfl,e,r.cls c,dx,rfl,(Uv he hdx).2.1,x.rcls,?_⟩⟩
 obtain⟨m1,m2,m3⟩:=Uv (fs:=[(r.fld,r.val)]) he hdx
 exact o _ dx m1 m3
theorem yr {f D fN fP fR:Addr} {c:C4} {fd fdN fdP fdR:FuncData} (F:Qj K "need_form" "need_form" Wr f fd) (B:Zu mg) (G:QB mg) (T:Q6 K mg) (hN:jC K mg "is_name" QW ["thing"] fN fdN) (hP:jC K mg "is_tuple_of_names" ZN ["thing"] fP fdP)
   (hR:jC K mg "is_row" Zw ["thing"] fR fdR) (X4:xD K mg D c):qv P w K mg base (QT P w) 4 f fd ["rows"] (Xw K c):=by
 have GR:qv P w K mg base jh 3 fR fdR ["thing"] (Vl K):=wg hR.fn B G T hN hP
 obtain⟨tm,hmp⟩:=T.mp
 obtain⟨fg,fdg,xg⟩:=X4.g
 obtain⟨fm,fdm,xm⟩:=X4.m
 have Gg:qv P w K mg base jh 1 fg fdg ["self","row"] (YS c.g "row"):=RN xg
 have Gm:qv P w K mg base jh 1 fm fdm ["self","found"] (YS c.m "found"):=Gr xm
 refine F.okX Z9 (λvs H Q E h=>?_) (λcdv A outer s H vs Q E hr h=>?_)
 . obtain⟨v,rfl,_⟩:=h
   rfl
 . obtain⟨v,rfl,h⟩:=h
   have r2:qZ 2 _:=hr.mono (by decide)
   refine⟨_,qf (qK (QZ (j9 (jL (qm ju (by rfl) T.isi boot_isinstance (qb (jv 0) (qb (Qy (v:=.ty "list") (by rfl) G.lst boot_list rfl) qe)))))
       (j7 (qp jz (qm qH (by rfl) B.len boot_len (qb (jv 0) qe)) qi (qA _)))).pt (qh (Qa rfl Je (Qb xg.mkr Gg r2 (by rfl) xg.ns xg.bi JX (qb qi qe)))) qu)
     (qf (qK (qp Yi (qm qH (by rfl) B.len boot_len (qb (jv 0) qe)) (Qk (v:=.int 14) (by rfl) hmp ⟨_,rfl⟩) (qA _)) (qh (Qa rfl Je (Qb xm.mkr Gm r2 (by rfl) xm.ns xm.bi JX (qb (qm qH (by rfl) B.len boot_len (qb (jv 0) qe)) qe)))) qu)
     (qh (ZT (t:=UV (yY K (jc (jd 0) jJ)) (xc K 2 (ZX (jH 1) (ZX (jH 2) xf))) (YD (vV (tB (Jz (Vl K) [] E0 (jc (jd 2) jJ)))) (ze K E (vW c.g (YS c.g "row") E0 (jc (jd 1) jJ))) JM)) λpn W hO hP hR'=>
       jw hO rfl (zU (by rfl) T.enu (qb (jv 0) qe)) (J5 rfl (ji (qz (i:=1) Z9.nd rfl (Or.inl rfl)) (ji (qz (i:=2) Z9.nd rfl (Or.inl rfl)) Q1)))
       (qh (qK (j9 (jL (qQ hR GR hr (by rfl) (qb (jv 2) qe)))) (qh (Qa rfl hR' (Qb xg.mkr Gg r2 (by rfl) xg.ns xg.bi JX (qb (jv 1) qe)))) qu))))),?_⟩
   have g0:∀{H':Hp},zB c E H' (.ground 0)->∀e,H' e=none->YS c.g "row" [.ref e,.int 0] (upd H' e (Za e c.g)) (λv H2=>v=.non/\∃a C dx,V.ref e=.ref a/\H2 a=some (QO a C dx)/\XX K C/\E (.ref C) (some dx) H2) E0:=λo=>j5 (C:=c.g) (.ground 0) xg o
   rcases h with ⟨d,hd,nl,o⟩ | ⟨l,rfl,hl,o⟩ | ⟨l,xs,rfl,hl,big,sm,o⟩ | ⟨l,xs,i0,x0,d0,rfl,hl,le,e0,hd0,bad,pre,o⟩ | ⟨l,xs,rfl,hl,pos,le,all,q⟩
   . refine⟨_,rfl,_,_,_,_,rfl,rfl,hd.ty,GB d,_,rfl,?_⟩
     rw[nl]
     exact QM ⟨by show 1<=sizeLine;decide,g0 o⟩
   . refine⟨_,rfl,_,_,_,_,rfl,rfl,.lst hl,T.kll,_,rfl,jn ⟨_,rfl,l,_,rfl,.inl (.of hl),rfl,_,rfl,?_⟩⟩
     exact jo (decide_eq_true rfl) ⟨by show 1<=sizeLine;decide,g0 o⟩
   . refine⟨_,rfl,_,_,_,_,rfl,rfl,.lst hl,T.kll,_,rfl,jn ⟨_,rfl,l,_,rfl,.inl (.of hl),rfl,_,rfl,?_⟩⟩
     refine qJ (decide_eq_false λz=>by have:=V.int.inj z;omega) ⟨_,rfl,l,_,rfl,.inl (.of hl),_,_,rfl,rfl,_,rfl,jo (decide_eq_true (by show (14:Int) < _;omega)) ?_⟩
     exact⟨_,rfl,l,_,rfl,.inl (.of hl),by show 1<=sizeLine;decide,j5 (C:=c.m) (.many xs.length) xm o⟩
   all_goals
     refine⟨_,rfl,_,_,_,_,rfl,rfl,.lst hl,T.kll,_,rfl,jn ⟨_,rfl,l,_,rfl,.inl (.of hl),rfl,_,rfl,?_⟩⟩
     refine qJ (decide_eq_false λz=>by have:=V.int.inj z;first | omega | (have:=(List.getElem?_eq_some_iff.mp e0).1;omega)) ⟨_,rfl,l,_,rfl,.inl (.of hl),_,_,rfl,rfl,_,rfl,qJ (decide_eq_false (by show ¬(14:Int) < _;omega)) ⟨_,rfl,l,rfl,⟨_,.of hl⟩,?_⟩⟩
   . refine QN (K:=K) (a:=l) (xs:=xs) (λi σ' H'=>(∃v1 v2,σ'=[some (.ref l),v1,v2])/\Same H H'/\i<=i0) ⟨⟨none,none,rfl⟩,Same.refl H,Nat.zero_le _⟩ (λi σ' H' _ ⟨_,s,_⟩=>.of (s _ _ hl)) ?_ ?_
     . rintro i x σ' H' p hx hp ⟨⟨v1,v2,rfl⟩,s1,hi⟩
       have s2:=s1.trans (qj (o:=.tup [.int (i:Nat),x]) hp)
       refine⟨p,_,rfl,.of qd,rfl,_,_,rfl,_,_,rfl,rfl,_,rfl,?_⟩
       rcases Nat.lt_or_ge i i0 with c0 | c0
       . obtain⟨d,hd,gd⟩:=pre i x c0 hx
         refine⟨x,d,rfl,hd.keep s2.keep,λH2 s3=>⟨_,rfl,?_⟩⟩
         rw[gd]
         exact jn ⟨⟨_,_,rfl⟩,s2.trans s3,c0⟩
       . have ei:i=i0:=by omega
         subst ei
         rw[hx]at e0
         obtain rfl:=Option.some.inj e0
         refine⟨x,d0,rfl,hd0.keep s2.keep,λH2 s3=>⟨_,rfl,?_⟩⟩
         rw[bad]
         exact QM ⟨_,rfl,by show 1<=sizeLine;decide,j5 (C:=c.g) (.ground i) xg (o.mono (s2.trans s3))⟩
     . rintro σ' H' ⟨_,_,hi⟩
       have:=(List.getElem?_eq_some_iff.mp e0).1
       omega
   . refine QN (K:=K) (a:=l) (xs:=xs) (λi σ' H'=>(∃v1 v2,σ'=[some (.ref l),v1,v2])/\Same H H') ⟨⟨none,none,rfl⟩,Same.refl H⟩ (λi σ' H' _ ⟨_,s⟩=>.of (s _ _ hl)) ?_ ?_
     . rintro i x σ' H' p hx hp ⟨⟨v1,v2,rfl⟩,s1⟩
       have s2:=s1.trans (qj (o:=.tup [.int (i:Nat),x]) hp)
       refine⟨p,_,rfl,.of qd,rfl,_,_,rfl,_,_,rfl,rfl,_,rfl,?_⟩
       obtain⟨d,hd,gd⟩:=all i x hx
       refine⟨x,d,rfl,hd.keep s2.keep,λH2 s3=>⟨_,rfl,?_⟩⟩
       rw[gd]
       exact jn ⟨⟨_,_,rfl⟩,s2.trans s3⟩
     . rintro σ' H' ⟨_,s1⟩
       exact q H' s1
theorem wp {f D:Addr} {c:C4} {fd:FuncData} (F:Qj K "need_own_names" "need_own_names" kI f fd) (X4:xD K mg D c):qv P w K mg base (QT P w) 3 f fd ["order"] (kl c):=by
 obtain⟨ft,fdt,xt⟩:=X4.t
 have Gt:qv P w K mg base jh 1 ft fdt ["self","found"] (YS c.t "found"):=Gq xt
 refine F.okX YT (λvs H Q E h=>?_) (λcdv A outer s H vs Q E hr h=>?_)
 . obtain⟨l,zs,rfl,_⟩:=h
   rfl
 . obtain⟨l,zs,rfl,hl,hz,h⟩:=h
   have hu:=ZV hr
   refine⟨_,qf (qr (i:=1) YT.nd rfl (Or.inl rfl) Jf)
     (qh (ZT (t:=UV (yX K (jd 0)) (jH 2) (Xs (YD (tB (uE (jd 2) (jd 1))) (ze K E (vW c.t (YS c.t "found") E0 (jc (jd 2) jJ))) JM) (Ue (jd 1) (jd 2) (tC (.bl true))))) λpn W hO hP hR'=>
       jw hO rfl (qY (jv 0)) (qz (i:=2) YT.nd rfl (Or.inl rfl))
       (qf (qK (zq (XI hu (jv 2) (jv 1))) (qh (Qa rfl hR' (Qb xt.mkr Gt hr (by rfl) xt.ns xt.bi JX (qb (jv 2) qe)))) qu) (qh (jY hu (jv 1) (jv 2) Qq rfl))))),?_⟩
   intro D hD
   refine⟨_,rfl,l,rfl,⟨_,.of (qk hl hD)⟩,?_⟩
   rcases h with ⟨hn,q⟩ | ⟨i0,z0,e0,m0,nd0,o⟩
   . refine jM (K:=K) (a:=l) (xs:=zs.map V.str) (λi σ' H'=>∃v kvs,σ'=[some (.ref l),some (.ref D),v]/\Same H H'/\H' D=some (.dK kvs)/\kvs.map (·.1)=(zs.take i).map Sum.inr) ⟨none,[],rfl,qj hD,qd,rfl⟩ (λi σ' H' _ ⟨_,_,_,s,_⟩=>.of (s _ _ hl)) ?_ ?_
     . rintro i x σ' H' hx ⟨v,kvs,rfl,s1,hD1,ek⟩
       obtain⟨z,e,hz',rfl⟩:=Qu hx
       obtain⟨dg,lk,n1,_⟩:=Ux (by omega) e hD1 ek
       have ez:=n1 (Ur (hn.sublist (List.take_sublist _ _)) e)
       rw[ez]at dg
       refine⟨_,rfl,_,rfl,D,none,rfl,dg,_,rfl,jn ?_⟩
       refine⟨_,rfl,_,rfl,D,_,rfl,JK.k (k:=(Sum.inr z:ja)) hD1 lk,_,_,rfl,Same.upd s1 hD,qd,?_⟩
       rw[Jm _ ez,ek,List.take_add_one,e,List.map_append]
       rfl
     . rintro σ' H' ⟨v,kvs,rfl,s1,_⟩
       exact q H' s1
   . refine jM (K:=K) (a:=l) (xs:=zs.map V.str) (λi σ' H'=>(∃v kvs,σ'=[some (.ref l),some (.ref D),v]/\Same H H'/\H' D=some (.dK kvs)/\kvs.map (·.1)=(zs.take i).map Sum.inr)/\i<=i0) ⟨⟨none,[],rfl,qj hD,qd,rfl⟩,Nat.zero_le _⟩ (λi σ' H' _ ⟨⟨_,_,_,s,_⟩,_⟩=>.of (s _ _ hl)) ?_ ?_
     . rintro i x σ' H' hx ⟨⟨v,kvs,rfl,s1,hD1,ek⟩,hi⟩
       obtain⟨z,e,hz',rfl⟩:=Qu hx
       obtain⟨dg,lk,n1,n2⟩:=Ux (by omega) e hD1 ek
       rcases Nat.lt_or_ge i i0 with c0 | c0
       . have ez:=n1 (Ur (Us nd0 c0) e)
         rw[ez]at dg
         refine⟨_,rfl,_,rfl,D,none,rfl,dg,_,rfl,jn ?_⟩
         refine⟨_,rfl,_,rfl,D,_,rfl,JK.k (k:=(Sum.inr z:ja)) hD1 lk,⟨_,_,rfl,Same.upd s1 hD,qd,?_⟩,c0⟩
         rw[Jm _ ez,ek,List.take_add_one,e,List.map_append]
         rfl
       . have ei:i=i0:=by omega
         subst ei
         rw[e]at e0
         obtain rfl:=Option.some.inj e0
         refine⟨_,rfl,_,rfl,D,_,rfl,dg,_,rfl,jo (n2 m0) ?_⟩
         exact⟨_,rfl,by show 1<=sizeLine;decide,j5 (C:=c.t) (.twice z) xt (o.mono s1)⟩
     . rintro σ' H' ⟨_,hi⟩
       have:=(List.getElem?_eq_some_iff.mp e0).1
       rw[List.length_map]at hi
       omega
theorem yt {f D:Addr} {c:C4} {fd:FuncData} (F:Qj K "need_ends" "need_ends" Ws f fd) (X4:xD K mg D c):qv P w K mg base (QT P w) 3 f fd ["ends","order"] (Xx c):=by
 obtain⟨ft,fdt,xt⟩:=X4.t
 obtain⟨fp,fdp,xp⟩:=X4.p
 have Gt:qv P w K mg base jh 1 ft fdt ["self","found"] (YS c.t "found"):=Gq xt
 have Gp:qv P w K mg base jh 1 fp fdp ["self","found"] (YS c.p "found"):=RM xp
 refine F.okX za (λvs H Q E h=>?_) (λcdv A outer s H vs Q E hr h=>?_)
 . obtain⟨x,l,es,zs,rfl,_⟩:=h
   rfl
 . obtain⟨x,l,es,zs,rfl,hx,hl,hz,h⟩:=h
   have hu:=ZV hr
   refine⟨_,qf (qr (i:=2) za.nd rfl (Or.inl rfl) Jf)
     (qh (ZT (t:=UV (GK K (jd 0)) (jH 3) (Xs (YD (Wh (Vg (Ge K true) (jd 3) (jd 1))) (ze K E (vW c.p (YS c.p "found") E0 (jc (jd 3) jJ))) JM) (Xs (YD (tB (uE (jd 3) (jd 2))) (ze K E (vW c.t (YS c.t "found") E0 (jc (jd 3) jJ))) JM) (Ue (jd 2) (jd 3) (tC (.bl true)))))) λpn W hO hP hR'=>
       jw hO rfl (XG (jv 0)) (qz (i:=3) za.nd rfl (Or.inl rfl))
       (qf (qK (qp ZQ (jv 3) (jv 1) (by with_unfolding_all rfl)) (qh (Qa rfl hR' (Qb xp.mkr Gp hr (by rfl) xp.ns xp.bi JX (qb (jv 3) qe)))) qu)
       (qf (qK (zq (XI hu (jv 3) (jv 2))) (qh (Qa rfl hR' (Qb xt.mkr Gt hr (by rfl) xt.ns xt.bi JX (qb (jv 3) qe)))) qu) (qh (jY hu (jv 2) (jv 3) Qq rfl)))))),?_⟩
   intro D hD
   refine⟨_,rfl,x,rfl,⟨_,.of (qk hx hD)⟩,?_⟩
   have noin:∀{z:Str},z∉zs->YJ (.str z) (zs.map V.str)=false:=λ{z} n=>by
     cases e:YJ (.str z) (zs.map V.str) with
     | false=>rfl
     | true=>exact absurd (Zh.mp e) n
   rcases h with ⟨hn,hin,q⟩ | ⟨i0,z0,e0,nd0,in0,h⟩
   . refine XL (K:=K) (a:=x) (xs:=es.map V.str) (λi σ' H'=>∃v kvs,σ'=[some (.ref x),some (.ref l),some (.ref D),v]/\Same H H'/\H' D=some (.dK kvs)/\kvs.map (·.1)=(es.take i).map Sum.inr) ⟨none,[],rfl,qj hD,qd,rfl⟩ (λi σ' H' _ ⟨_,_,_,s,_⟩=>.of (s _ _ hx)) ?_ ?_
     . rintro i y σ' H' hy ⟨v,kvs,rfl,s1,hD1,ek⟩
       obtain⟨z,e,hz',rfl⟩:=Qu hy
       obtain⟨dg,lk,n1,_⟩:=Ux (by omega) e hD1 ek
       have ez:=n1 (Ur (hn.sublist (List.take_sublist _ _)) e)
       rw[ez]at dg
       refine⟨_,rfl,_,rfl,l,_,rfl,.inl (.of (s1 _ _ hl)),rfl,Jg zs,_,rfl,?_⟩
       rw[ZU (hin z hz')]
       refine jn ⟨_,rfl,_,rfl,D,none,rfl,dg,_,rfl,jn ?_⟩
       refine⟨_,rfl,_,rfl,D,_,rfl,JK.k (k:=(Sum.inr z:ja)) hD1 lk,_,_,rfl,Same.upd s1 hD,qd,?_⟩
       rw[Jm _ ez,ek,List.take_add_one,e,List.map_append]
       rfl
     . rintro σ' H' ⟨v,kvs,rfl,s1,_⟩
       exact q H' s1
   . refine XL (K:=K) (a:=x) (xs:=es.map V.str) (λi σ' H'=>(∃v kvs,σ'=[some (.ref x),some (.ref l),some (.ref D),v]/\Same H H'/\H' D=some (.dK kvs)/\kvs.map (·.1)=(es.take i).map Sum.inr)/\i<=i0) ⟨⟨none,[],rfl,qj hD,qd,rfl⟩,Nat.zero_le _⟩ (λi σ' H' _ ⟨⟨_,_,_,s,_⟩,_⟩=>.of (s _ _ hx)) ?_ ?_
     . rintro i y σ' H' hy ⟨⟨v,kvs,rfl,s1,hD1,ek⟩,hi⟩
       obtain⟨z,e,hz',rfl⟩:=Qu hy
       obtain⟨dg,lk,n1,n2⟩:=Ux (by omega) e hD1 ek
       refine⟨_,rfl,_,rfl,l,_,rfl,.inl (.of (s1 _ _ hl)),rfl,Jg zs,_,rfl,?_⟩
       rcases Nat.lt_or_ge i i0 with c0 | c0
       . have ez:=n1 (Ur (Us nd0 c0) e)
         rw[ez]at dg
         have mz:z∈es.take i0:=List.mem_of_getElem? (i:=i) (by rw[List.getElem?_take_of_lt c0];exact e)
         rw[ZU (in0 z mz)]
         refine jn ⟨_,rfl,_,rfl,D,none,rfl,dg,_,rfl,jn ?_⟩
         refine⟨_,rfl,_,rfl,D,_,rfl,JK.k (k:=(Sum.inr z:ja)) hD1 lk,⟨_,_,rfl,Same.upd s1 hD,qd,?_⟩,c0⟩
         rw[Jm _ ez,ek,List.take_add_one,e,List.map_append]
         rfl
       . have ei:i=i0:=by omega
         subst ei
         rw[e]at e0
         obtain rfl:=Option.some.inj e0
         rcases h with ⟨no,o⟩ | ⟨yes,m0,o⟩
         . rw[noin no]
           exact QM ⟨_,rfl,by show 1<=sizeLine;decide,j5 (C:=c.p) (.place z) xp (o.mono s1)⟩
         . rw[ZU yes]
           refine jn ⟨_,rfl,_,rfl,D,_,rfl,dg,_,rfl,jo (n2 m0) ?_⟩
           exact⟨_,rfl,by show 1<=sizeLine;decide,j5 (C:=c.t) (.twice z) xt (o.mono s1)⟩
     . rintro σ' H' ⟨_,hi⟩
       have:=(List.getElem?_eq_some_iff.mp e0).1
       rw[List.length_map]at hi
       omega
end
end Rh
set_option Elab.async false
set_option linter.all false
set_option maxRecDepth 100000
set_option maxHeartbeats 4000000
namespace Rh
open PySem L2 PyProof.Rows
structure Z3 (H:Hp) (l:Addr) (ps:List Addr) (rs:jK):Prop where
 at_:H l=some (.lst (ps.map V.ref))
 rows:qL H ps rs
 nm:∀r∈rs,qw r.1=true
 nms:∀r∈rs,∀z∈r.2,qw z=true
 len:∀r∈rs,r.2.length<=900
 pos:0 < rs.length
 le:rs.length<=14
theorem Z3.mono {H H':Hp} {l:Addr} {ps:List Addr} {rs:jK} (h:Z3 H l ps rs) (s:Same H H'):Z3 H' l ps rs:=⟨s _ _ h.at_,h.rows.mono s,h.nm,h.nms,h.len,h.pos,h.le⟩
theorem JY {z:Str} (h:qw z=true):z.length<=8:=by
 unfold qw at h
 simp only[Bool.and_eq_true,decide_eq_true_eq]at h
 exact h.1.2
theorem W5 {K:PySem.W.Frag} {H:Hp}:∀{zs:List Str},(∀z∈zs,z.length<=1000)->DHs K H (zs.map V.str) (zs.map PyData.str)
 | [],_=>.nil
 | z::zs,h=>.cons (.str z (h z List.mem_cons_self)) (W5 λy hy=>h y (List.mem_cons_of_mem _ hy))
def WS (r:Str×List Str):PyData:=.tuple [.str r.1,.tuple (r.2.map PyData.str)]
theorem KB {K:PySem.W.Frag} {H:Hp} {p q:Addr} {r:Str×List Str} (hp:H p=some (.tup [.str r.1,.ref q])) (hq:H q=some (.tup (r.2.map V.str))) (h1:r.1.length<=1000) (h2:∀z∈r.2,z.length<=1000) (l:r.2.length<=900):DH K H (.ref p) (WS r):=
 .tup hp (by show 2<=900;decide) (.cons (.str _ h1) (.cons (.tup hq (by rw[List.length_map];exact l) (W5 h2)) .nil))
theorem kM {r:Str×List Str} (h1:qw r.1=true) (h2:∀z∈r.2,qw z=true):Vt (WS r)=true:=by
 show (qw r.1&&(r.2.map PyData.str).all J8)=true
 rw[h1,List.all_map,Bool.true_and,List.all_eq_true]
 exact h2
theorem Z3.it {K:PySem.W.Frag} {H:Hp} {l:Addr} {ps:List Addr} {rs:jK} (g:Z3 H l ps rs) {j:Nat} {y:V} (e:(ps.map V.ref)[j]?=some y):X0 K H y:=by
 obtain⟨p,q,r,rfl,er,hr,a,b⟩:=g.rows.item e
 exact⟨WS r,KB a b (Nat.le_trans (JY (g.nm r hr)) (by decide)) (λz hz=>Nat.le_trans (JY (g.nms r hr z hz)) (by decide)) (g.len r hr),kM (g.nm r hr) (g.nms r hr)⟩
def xC (K:PySem.W.Frag) (c:C4) (v:V) (H:Hp) (E:XK):Prop:=
 (∃d,DH K H v d/\Rg d=false/\zB c E H (.ground 0))\/(∃l,v=.ref l/\H l=some (.lst [])/\zB c E H (.ground 0))\/
  (∃l xs,v=.ref l/\H l=some (.lst xs)/\14 < xs.length/\xs.length<=1000/\zB c E H (.many xs.length))\/
  (∃(l:Addr) (xs:List V) (i:Nat) (x:V) (d:PyData),v=.ref l/\H l=some (.lst xs)/\xs.length<=14/\xs[i]?=some x/\DH K H x d/\Vt d=false/\(∀(j:Nat) (y:V),j < i->xs[j]?=some y->X0 K H y)/\zB c E H (.ground i))
theorem xC.sp {K:PySem.W.Frag} {c:C4} {v:V} {H:Hp} {Q:VK} {E:XK} (h:xC K c v H E):Xw K c [v] H Q E:=by
 rcases h with h | h | h | h
 . exact⟨v,rfl,.inl h⟩
 . exact⟨v,rfl,.inr (.inl h)⟩
 . exact⟨v,rfl,.inr (.inr (.inl h))⟩
 . exact⟨v,rfl,.inr (.inr (.inr (.inl h)))⟩
def w6 (c:C4) (H:Hp) (E:XK) (zs es:List Str):Prop:=∃(i:Nat) (z:Str),es[i]?=some z/\(es.take i).Nodup/\(∀y∈es.take i,y∈zs)/\((z∉zs/\zB c E H (.place z))\/(z∈zs/\z∈es.take i/\zB c E H (.twice z)))
theorem w6.mono {c:C4} {H H':Hp} {E:XK} {zs es:List Str} (h:w6 c H E zs es) (s:Same H H'):w6 c H' E zs es:=by
 obtain⟨i,z,a,b,d,e⟩:=h
 refine⟨i,z,a,b,d,?_⟩
 rcases e with ⟨e1,e2⟩ | ⟨e1,e2,e3⟩
 . exact .inl ⟨e1,e2.mono s⟩
 . exact .inr ⟨e1,e2,e3.mono s⟩
def R4 (c:C4) (H:Hp) (E:XK) (rs:jK):Prop:=
 (∃(i:Nat) (z:Str),(rs.map (·.1))[i]?=some z/\z∈(rs.map (·.1)).take i/\((rs.map (·.1)).take i).Nodup/\zB c E H (.twice z))\/
 ((rs.map (·.1)).Nodup/\∃(k:Nat) (r:Str×List Str),rs[k]?=some r/\(∀(j:Nat) (r':Str×List Str),j < k->rs[j]?=some r'->r'.2.Nodup/\∀z∈r'.2,z∈rs.map (·.1))/\w6 c H E (rs.map (·.1)) r.2)\/
 ((rs.map (·.1)).Nodup/\(∀r∈rs,r.2.Nodup/\∀z∈r.2,z∈rs.map (·.1))/\40 < (rs.map λr=>r.2.length).sum/\zB c E H (.many (rs.map λr=>r.2.length).sum))
def xB (K:PySem.W.Frag) (c:C4) (v:V) (H:Hp) (E:XK):Prop:=xC K c v H E\/∃l ps rs,v=.ref l/\Z3 H l ps rs/\R4 c H E rs
def V2 (K:PySem.W.Frag) (c:C4):Sp:=λvs H Q E=>∃v,vs=[v]/\xB K c v H E
def ko (c:C4):Sp:=λvs H Q E=>∃(l:Addr) (ps:List Addr) (rs:jK),vs=[.ref l]/\Z3 H l ps rs/\40 < (rs.map λr=>r.2.length).sum/\zB c E H (.many (rs.map λr=>r.2.length).sum)
theorem uF {xs:List Nat} {m:Nat} (h:∀x∈xs,x<=m):xs.sum<=xs.length*m:=by
 induction xs with
 | nil=>simp
 | cons x xs ih=>
   have h1:=h x List.mem_cons_self
   have h2:=ih λy hy=>h y (List.mem_cons_of_mem _ hy)
   rw[List.sum_cons,List.length_cons,Nat.succ_mul]
   omega
theorem Z3.sum {H:Hp} {l:Addr} {ps:List Addr} {rs:jK} (g:Z3 H l ps rs):(rs.map λr=>r.2.length).sum < 2^60:=by
 have h1:=uF (xs:=rs.map λr=>r.2.length) (m:=900) λx hx=>by
   obtain⟨r,hr,rfl⟩:=List.mem_map.mp hx
   exact g.len r hr
 rw[List.length_map]at h1
 have:=g.le
 exact Nat.lt_of_le_of_lt h1 (Nat.lt_of_le_of_lt (Nat.mul_le_mul_right 900 this) (by decide))
section
variable {P:Program} {w:World} {K:PySem.W.Frag} {mg:Str->Option Value} {base:Heap}
theorem WM {X:Cx} {x:Str} {st:Stmt} {ps:List Str} {f:Addr} {fd:FuncData} {k:Nat} {sp:Sp} {E:XK} {e:Expr} {es:List Expr} {t:TA} {p pos:Pos} (h:jC X.K X.mg x st ps f fd) (G:qv X.prog X.w X.K X.mg X.base (QT X.prog X.w) k f fd ps sp) (hr:qZ k X.A) (hx:Qh (QT X.prog X.w) X E)
   (hg:Gl X x) (ha:JA X (e::es) t) (hdb:(x==("__debug__":Str))=false:=by decide) (he:starEach (e::es) X.env=(false,eval e X.env)::starEach es X.env:=by rfl) (hpl:(backTo pos (starEach es X.env)).any (·.1)=false:=by rfl):
   JE X (.Call (.Name x p) (e::es) [] pos) (Jz sp [] E t):=.of (Ul G hr hg h.ns h.fn.kp h.bi .nil hx ha.to hdb he hpl)
theorem wx {f D:Addr} {c:C4} {fd:FuncData} (F:Qj K "need_few_roads" "need_few_roads" kJ f fd) (B:Zu mg) (T:Q6 K mg) (X4:xD K mg D c):qv P w K mg base (QT P w) 3 f fd ["rows"] (ko c):=by
 obtain⟨tm,hmr⟩:=T.mr
 obtain⟨fm,fdm,xm⟩:=X4.m
 have Gm:qv P w K mg base jh 1 fm fdm ["self","found"] (YS c.m "found"):=Gr xm
 refine F.okX Ua (λvs H Q E h=>?_) (λcdv A outer s H vs Q E hr h=>?_)
 . obtain⟨l,ps,rs,rfl,_⟩:=h
   rfl
 . obtain⟨l,ps,rs,rfl,g,big,o⟩:=h
   have sm:=g.sum
   refine⟨_,qf (qr (i:=1) Ua.nd rfl (Or.inl rfl) (qm (Xe rfl) (by rfl) T.sum boot_sum (qb (Qp (N':=["row"]) (ix:=[none]) (te:=KF (λxs H Q=>∃p ys,xs=[.ref p]/\(SqL K H p ys\/SqT K H p ys)/\Q (.int ys.length) H) (jc (Vg (Wy K) (jd 0) (tC (.int 1))) jJ)) rfl ⟨rfl,rfl,rfl,rfl,rfl⟩ (qY (jv 0)) (λC s2 H2 fp pins=>
       ⟨qz (i:=0) (W6 _) rfl (Or.inl rfl),jt,qm qH (by rfl) B.len boot_len (qb (qU j3 (jv 0) qi (λ_ _=>rfl)) qe)⟩)) qe)))
     (qh (qK (qp Yi (jv 1) (Qk (v:=.int 40) (by rfl) hmr ⟨_,rfl⟩) (qA _)) (qh (Qa rfl Je (Qb xm.mkr Gm hr (by rfl) xm.ns xm.bi JX (qb (jv 1) qe)))) qu)),?_⟩
   refine⟨_,rfl,l,rfl,⟨_,.of g.at_⟩,λD0 hD=>?_⟩
   refine jN (K:=K) (a:=l) (xs:=ps.map V.ref) (λi σ' H'=>∃v,σ'=[v]/\H'=upd H D0 (.lst (((rs.take i).map λr=>r.2.length).map λn=>V.int ((n:Nat):Int)))) ⟨none,rfl,rfl⟩ (λi σ' H' _ ⟨_,_,e⟩=>e▸.of (qk g.at_ hD)) ?_ ?_
   . rintro i x σ' H' hx ⟨v,rfl,rfl⟩
     obtain⟨p',q',r,rfl,er,hr',a,b⟩:=g.rows.item hx
     have hi:=(List.getElem?_eq_some_iff.mp er).1
     refine⟨_,rfl,p',_,1,_,rfl,rfl,.of (qk a hD),rfl,q',_,rfl,.inr (.of (qk b hD)),_,qd,?_,_,rfl,?_⟩
     . rw[List.length_map,List.length_map,List.length_take]
       have:=g.le
       exact ql (by omega)
     . rw[jx,List.take_add_one,er,List.map_append,List.map_append,List.length_map]
       rfl
   . rintro σ' H' ⟨v,rfl,rfl⟩
     have e:rs.take (ps.map V.ref).length=rs:=List.take_of_length_le (by rw[List.length_map,g.rows.1];exact Nat.le_refl _)
     rw[e]
     refine⟨D0,_,rfl,.of qd,Nat.lt_of_lt_of_le sm (by decide),?_⟩
     have s0:=qj (o:=HO.lst ((rs.map λr=>r.2.length).map λn=>V.int ((n:Nat):Int))) hD
     generalize upd H D0 (.lst ((rs.map λr=>r.2.length).map λn=>V.int ((n:Nat):Int)))=H1 at s0
     refine⟨_,rfl,_,_,rfl,rfl,_,rfl,jo (decide_eq_true (by show (40:Int) < _;omega)) ?_⟩
     exact⟨_,rfl,by show 1<=sizeLine;decide,j5 (C:=c.m) (.many _) xm (o.mono s0)⟩
theorem yj {f D:Addr} {c:C4} {fd:FuncData} (F:Qj K "need_rows" "need_rows" Zp f fd) (B:Zu mg) (G:QB mg) (T:Q6 K mg) (N:XZ K mg) (X4:xD K mg D c):qv P w K mg base (QT P w) 5 f fd ["rows"] (V2 K c):=by
 obtain⟨fN,fdN,hN⟩:=N.nm
 obtain⟨fP,fdP,hP⟩:=N.tn
 obtain⟨fR,fdR,hR⟩:=N.rw
 obtain⟨fF,fdF,hF⟩:=N.fo
 obtain⟨fO,fdO,hO⟩:=N.ow
 obtain⟨fE,fdE,hE⟩:=N.en
 obtain⟨fW,fdW,hW⟩:=N.fw
 have GF:qv P w K mg base (QT P w) 4 fF fdF ["rows"] (Xw K c):=yr hF.fn B G T hN hP hR X4
 have GO:qv P w K mg base (QT P w) 3 fO fdO ["order"] (kl c):=wp hO.fn X4
 have GE:qv P w K mg base (QT P w) 3 fE fdE ["ends","order"] (Xx c):=yt hE.fn X4
 have GW:qv P w K mg base (QT P w) 3 fW fdW ["rows"] (ko c):=wx hW.fn B T X4
 refine F.okX Z7 (λvs H Q E h=>?_) (λcdv A outer s H vs Q E hr h=>?_)
 . obtain⟨v,rfl,_⟩:=h
   rfl
 . obtain⟨v,rfl,h⟩:=h
   have r3:qZ 3 _:=hr.mono (by decide)
   refine⟨_,qf (jk (WM hF GF hr QD (by rfl) (qb (jv 0) qe)))
     (qf (J4 (i:=1) (N':=["row"]) (ix:=[none]) (te:=Vg (Wy K) (jd 0) (tC (.int 0))) Z7.nd rfl (Or.inl rfl) rfl ⟨rfl,rfl,rfl,rfl,rfl⟩ (qY (jv 0)) (λC s2 H2 fp pins=>
       ⟨qz (i:=0) (W6 _) rfl (Or.inl rfl),jt,qU j3 (jv 0) qi (λ_ _=>rfl)⟩))
     (qf (jk (WM hO GO r3 QD (by rfl) (qb (jv 1) qe)))
     (qf (ZT (t:=UV (yX K (jd 0)) (jH 2) (uf (Jz (Xx c) [] E (jc (Vg (Wy K) (jd 2) (tC (.int 1))) (jc (jd 1) jJ))))) λpn W hO hP' hR=>jw hO rfl (qY (jv 0)) (qz (i:=2) Z7.nd rfl (Or.inl rfl))
       (qh (jk (WM hE GE r3 hP' (by rfl) (qb (qU j3 (jv 2) qi (λ_ _=>rfl)) (qb (jv 1) qe))))))
     (qh (jk (WM hW GW r3 QD (by rfl) (qb (jv 0) qe))))))),?_⟩
   rcases h with h | ⟨l,ps,rs,rfl,g,h⟩
   . exact⟨_,rfl,Vy h.sp⟩
   have lps:=g.rows.1
   have le:=g.le
   refine⟨_,rfl,.ref l,rfl,.inr (.inr (.inr (.inr ⟨l,_,rfl,g.at_,by rw[List.length_map,lps];exact g.pos,by rw[List.length_map,lps];exact le,λj y e=>g.it e,λH1 s1=>?_⟩)))⟩
   have g1:=g.mono s1
   refine⟨_,rfl,l,rfl,⟨_,.of g1.at_⟩,λD hD=>?_⟩
   refine jN (K:=K) (a:=l) (xs:=ps.map V.ref) (λi σ' H'=>∃v,σ'=[v]/\H'=upd H1 D (.lst (((rs.take i).map (·.1)).map V.str))) ⟨none,rfl,rfl⟩ (λi σ' H' _ ⟨_,_,e⟩=>e▸.of (qk g1.at_ hD)) ?_ ?_
   . rintro i x σ' H' hx ⟨v,rfl,rfl⟩
     obtain⟨p',q',r,rfl,er,hr',a,b⟩:=g1.rows.item hx
     have hi:=(List.getElem?_eq_some_iff.mp er).1
     refine⟨_,rfl,p',_,0,_,rfl,rfl,.of (qk a hD),rfl,_,qd,?_,_,rfl,?_⟩
     . rw[List.length_map,List.length_map,List.length_take]
       exact ql (by omega)
     . rw[jx,List.take_add_one,er,List.map_append,List.map_append]
       rfl
   . rintro σ' H' ⟨v,rfl,rfl⟩
     have e:rs.take (ps.map V.ref).length=rs:=List.take_of_length_le (by rw[List.length_map,lps];exact Nat.le_refl _)
     rw[e]
     have sD0:Same H1 (upd H1 D (.lst ((rs.map (·.1)).map V.str))):=qj hD
     have hD0:upd H1 D (.lst ((rs.map (·.1)).map V.str)) D=some (.lst ((rs.map (·.1)).map V.str)):=qd
     generalize upd H1 D (.lst ((rs.map (·.1)).map V.str))=H1' at sD0 hD0
     have s1':=s1.trans sD0
     refine⟨_,rfl,D,rs.map (·.1),rfl,hD0,by rw[List.length_map];omega,?_⟩
     rcases h with ⟨i,z,e1,m1,W6,o⟩ | ⟨nd,k,r,ek,pre,bad⟩ | ⟨nd,all,big,o⟩
     . exact .inr ⟨i,z,e1,m1,W6,o.mono s1'⟩
     . refine .inl ⟨nd,λH2 s2=>?_⟩
       have s12:=s1'.trans s2
       have g2:=g.mono s12
       have hD2:=s2 _ _ hD0
       refine⟨_,rfl,l,rfl,⟨_,.of g2.at_⟩,?_⟩
       refine jM (K:=K) (a:=l) (xs:=ps.map V.ref) (λi σ' H'=>(∃v,σ'=[some (.ref l),some (.ref D),v])/\Same H2 H'/\i<=k) ⟨⟨none,rfl⟩,Same.refl H2,Nat.zero_le _⟩ (λi σ' H' _ ⟨_,s,_⟩=>.of (s _ _ g2.at_)) ?_ ?_
       . rintro i x σ' H' hx ⟨⟨v,rfl⟩,s3,hi⟩
         obtain⟨p',q',r',rfl,er,hr',a,b⟩:=(g2.mono s3).rows.item hx
         refine⟨_,rfl,p',_,1,_,rfl,rfl,.of a,rfl,_,rfl,q',D,r'.2,rs.map (·.1),rfl,b,s3 _ _ hD2,Nat.le_trans (g.len r' hr') (by decide),?_⟩
         rcases Nat.lt_or_ge i k with c0 | c0
         . obtain⟨n1,n2⟩:=pre i r' c0 er
           exact .inl ⟨n1,n2,λH4 s4=>⟨⟨_,rfl⟩,s3.trans s4,c0⟩⟩
         . have ei:i=k:=by omega
           subst ei
           rw[er]at ek
           obtain rfl:=Option.some.inj ek
           exact .inr (bad.mono (s12.trans s3))
       . rintro σ' H' ⟨_,_,hi⟩
         have:=(List.getElem?_eq_some_iff.mp ek).1
         rw[List.length_map]at hi
         omega
     . refine .inl ⟨nd,λH2 s2=>?_⟩
       have s12:=s1'.trans s2
       have g2:=g.mono s12
       have hD2:=s2 _ _ hD0
       refine⟨_,rfl,l,rfl,⟨_,.of g2.at_⟩,?_⟩
       refine jM (K:=K) (a:=l) (xs:=ps.map V.ref) (λi σ' H'=>(∃v,σ'=[some (.ref l),some (.ref D),v])/\Same H2 H') ⟨⟨none,rfl⟩,Same.refl H2⟩ (λi σ' H' _ ⟨_,s⟩=>.of (s _ _ g2.at_)) ?_ ?_
       . rintro i x σ' H' hx ⟨⟨v,rfl⟩,s3⟩
         obtain⟨p',q',r',rfl,er,hr',a,b⟩:=(g2.mono s3).rows.item hx
         obtain⟨n1,n2⟩:=all r' hr'
         exact⟨_,rfl,p',_,1,_,rfl,rfl,.of a,rfl,_,rfl,q',D,r'.2,rs.map (·.1),rfl,b,s3 _ _ hD2,Nat.le_trans (g.len r' hr') (by decide),.inl ⟨n1,n2,λH4 s4=>⟨⟨_,rfl⟩,s3.trans s4⟩⟩⟩
       . rintro σ' H' ⟨⟨v,rfl⟩,s3⟩
         exact⟨_,rfl,l,ps,rs,rfl,g2.mono s3,big,o.mono (s12.trans s3)⟩
def V8 (K:PySem.W.Frag) (c:C4):Sp:=λvs H Q E=>∃x v,vs=[x,v]/\xB K c v H E
theorem Y6 {f fW CG D:Addr} {c:C4} {fd fdW:FuncData} (C:ua K mg CG f fd) (B:Zu mg) (G:QB mg) (T:Q6 K mg) (N:XZ K mg) (hW:jC K mg "need_rows" Zp ["rows"] fW fdW) (X4:xD K mg D c):qv P w K mg base (QT P w) 6 f fd ["self","rows"] (V8 K c):=by
 have GW:qv P w K mg base (QT P w) 5 fW fdW ["rows"] (V2 K c):=yj hW.fn B G T N X4
 refine C.fn.okX uM (λvs H Q E h=>?_) (λcdv A outer s H vs Q E hr h=>?_)
 . obtain⟨x,v,rfl,_⟩:=h
   rfl
 . obtain⟨x,v,rfl,h⟩:=h
   exact⟨_,qf (jk (WM hW GW hr QD (by rfl) (qb (jv 1) qe))) jl,_,rfl,v,rfl,h⟩
end
end Rh
set_option Elab.async false
set_option linter.all false
set_option maxRecDepth 100000
set_option maxHeartbeats 4000000
namespace Rh
open PySem L2 PyProof.Rows
theorem atI_get {xs:List V} {r:Int} (h0:0<=r) (h1:r < (xs.length:Int)):∃v,W7 xs r=some v/\xs[r.toNat]?=some v:=by
 have:r.toNat < xs.length:=by omega
 refine⟨xs[r.toNat],?_,List.getElem?_eq_getElem this⟩
 unfold W7 xE
 rw[if_pos h0,if_pos h1]
 exact List.getElem?_eq_getElem this
abbrev QA:Str:=⟨#[32]⟩
abbrev jV:Str:=⟨#[58]⟩
def QR (z:Str) (r:Str×List Str):Prop:=qw r.1=true/\(∀x∈r.2,qw x=true)/\z=Str.join QA ((r.1++jV)::r.2)
theorem WE {z:Str} (h:qw z=true):∀c∈z.cps.toList,97<=c:=by
 unfold qw at h
 simp only[Bool.and_eq_true,decide_eq_true_eq]at h
 intro c hc
 have:=List.all_eq_true.mp h.2 c hc
 unfold qO at this
 simp only[Bool.and_eq_true,decide_eq_true_eq]at this
 exact this.1
theorem Jp {z:Str} (h:qw z=true) {c:Nat} (hc:c < 97):c∉z.cps.toList:=λm=>by
 have:=WE h c m
 omega
theorem j6 (c:Nat) (x y:Str) (l:List Str):(Str.join ⟨#[c]⟩ (x::y::l)).cps.toList=x.cps.toList++c::(Str.join ⟨#[c]⟩ (y::l)).cps.toList:=by
 show ((x++⟨#[c]⟩)++Str.join ⟨#[c]⟩ (y::l)).cps.toList=_
 show ((x.cps++#[c])++(Str.join ⟨#[c]⟩ (y::l)).cps).toList=_
 simp
theorem Ql (a b:Str):(a++b).cps.toList=a.cps.toList++b.cps.toList:=by
 show (a.cps++b.cps).toList=_
 simp
theorem Yu (a b:Str) (l:List Str):(Str.join QA ((a++b)::l)).cps.toList=a.cps.toList++(Str.join QA (b::l)).cps.toList:=by
 cases l with
 | nil=>exact Ql a b
 | cons y l=>
   rw[j6,j6,Ql]
   simp
theorem zu {c:Nat} (hc:c≠32):∀{l:List Str},(∀x∈l,c∉x.cps.toList)->c∉(Str.join QA l).cps.toList
 | [],_=>by show c∉([]:List Nat);simp
 | [x],h=>h x List.mem_cons_self
 | x::y::l,h=>by
   rw[j6]
   intro m
   rcases List.mem_append.mp m with m | m
   . exact h x List.mem_cons_self m
   . rcases List.mem_cons.mp m with m | m
     . exact hc m
     . exact zu hc (λz hz=>h z (List.mem_cons_of_mem _ hz)) m
theorem vF (a:Str):a++(⟨#[]⟩:Str)=a:=Qv (by rw[Ql];simp)
theorem Wu (a:Str) (ns:List Str):Str.join QA ((a++jV)::ns)=Str.join jV [a,Str.join QA (⟨#[]⟩::ns)]:=by
 refine Qv ?_
 rw[Yu,j6]
 congr 1
 show (Str.join QA (jV::ns)).cps.toList=58::(Str.join QA (⟨#[]⟩::ns)).cps.toList
 have:=Yu jV ⟨#[]⟩ ns
 rw[vF]at this
 exact this
theorem jP {z:Str} {r:Str×List Str} (h:QR z r):Txt.split z jV=[r.1,Str.join QA (⟨#[]⟩::r.2)]:=by
 obtain⟨h1,h2,e⟩:=h
 rw[e,Wu]
 refine Jj (by simp) λx hx=>?_
 rcases List.mem_cons.mp hx with rfl | hx
 . exact Jp h1 (by decide)
 . rw[List.mem_singleton.mp hx]
   refine zu (by decide) λy hy=>?_
   rcases List.mem_cons.mp hy with rfl | hy
   . simp
   . exact Jp (h2 y hy) (by decide)
theorem Jc {z:Str} {r:Str×List Str} (h:QR z r):Txt.split (Str.join QA (⟨#[]⟩::r.2)) QA=⟨#[]⟩::r.2:=by
 refine Jj (by simp) λy hy=>?_
 rcases List.mem_cons.mp hy with rfl | hy
 . simp
 . exact Jp (h.2.1 y hy) (by decide)
theorem vE {z a b:Str} {ns:List Str} (e:Txt.split z jV=[a,b]) (ha:qw a=true) (eb:Txt.split b QA=⟨#[]⟩::ns) (hn:∀x∈ns,qw x=true):QR z (a,ns):=by
 refine⟨ha,hn,?_⟩
 rw[Wu,<-eb,StrLaws.join_split,<-e,StrLaws.join_split]
theorem zg {z:Str} {r:Str×List Str} (h:QR z r):Txt.split z QA=(r.1++jV)::r.2:=by
 obtain⟨h1,h2,e⟩:=h
 rw[e]
 refine Jj (by simp) λx hx=>?_
 rcases List.mem_cons.mp hx with rfl | hx
 . rw[Ql]
   intro m
   rcases List.mem_append.mp m with m | m
   . exact Jp h1 (by decide) m
   . simp at m
 . exact Jp (h2 x hx) (by decide)
theorem vK {z n:Str} {ns:List Str} (e:Txt.split z QA=(n++jV)::ns) (hn:qw n=true) (hs:∀x∈ns,qw x=true):QR z (n,ns):=by
 refine⟨hn,hs,?_⟩
 rw[<-e,StrLaws.join_split]
theorem QR.uniq {z:Str} {r s:Str×List Str} (h:QR z r) (k:QR z s):r=s:=by
 have e1:=jP h
 have e2:=jP k
 rw[e1]at e2
 have a:r.1=s.1:=(List.cons.inj e2).1
 have b:Str.join QA (⟨#[]⟩::r.2)=Str.join QA (⟨#[]⟩::s.2):=(List.cons.inj (List.cons.inj e2).2).1
 have c:=Jc h
 rw[b,Jc k]at c
 exact Prod.ext a (List.cons.inj c).2.symm
theorem jy (x:Str):x.length=x.cps.toList.length:=by
 show x.cps.size=_
 simp
theorem Yt {c:Nat}:∀{l:List Str} {x:Str},x∈l->x.length<=(Str.join ⟨#[c]⟩ l).length
 | [y],x,h=>by rw[List.mem_singleton.mp h];exact Nat.le_refl _
 | y::y2::l,x,h=>by
   have e:=congrArg List.length (j6 c y y2 l)
   rw[<-jy,List.length_append,List.length_cons,<-jy,<-jy]at e
   rcases List.mem_cons.mp h with rfl | h
   . omega
   . have:=Yt (c:=c) h
     omega
theorem zt {c:Nat}:∀(l:List Str),l.length<=(Str.join ⟨#[c]⟩ l).length+1
 | []=>Nat.zero_le _
 | [y]=>by show 1<=_;omega
 | y::y2::l=>by
   have e:=congrArg List.length (j6 c y y2 l)
   rw[<-jy,List.length_append,List.length_cons,<-jy,<-jy]at e
   have:=zt (c:=c) (y2::l)
   simp only[List.length_cons]at this ⊢
   omega
theorem Qg {z x:Str} {c:Nat} (h:x∈Txt.split z ⟨#[c]⟩):x.length<=z.length:=by
 have:=Yt (c:=c) h
 rwa [StrLaws.join_split]at this
theorem QH (z:Str) (c:Nat):(Txt.split z ⟨#[c]⟩).length<=z.length+1:=by
 have:=zt (c:=c) (Txt.split z ⟨#[c]⟩)
 rwa [StrLaws.join_split]at this
theorem YI:Str.ofString ":"=jV:=by decide+kernel
theorem WJ:Str.ofString " "=QA:=by decide+kernel
theorem GC:Str.ofString ""=(⟨#[]⟩:Str):=by decide+kernel
theorem zZ {x:V} {xs:List V}:W7 (x::xs) 0=some x:=by
 obtain⟨v,e1,e2⟩:=atI_get (xs:=x::xs) (r:=0) (by omega) (by rw[List.length_cons];omega)
 rw[e1]
 exact e2.symm
theorem Z6 {n:Nat} (h:n<=2000):n < sizeLine:=Nat.lt_of_le_of_lt h (by decide)
def z6:Sp:=λvs H Q _=>∃z:Str,vs=[.str z]/\z.length<=1000/\∀b H',Same H H'->(b=true↔∃r,QR z r)->Q (.bl b) H'
section
variable {P:Program} {w:World} {K:PySem.W.Frag} {mg:Str->Option Value} {base:Heap}
theorem kF:qC ["line","halves","words"] ["line"] (qo Zd):=⟨rfl,rfl,rfl,by decide+kernel,rfl,by decide+kernel,by decide+kernel⟩
theorem vd {f fN:Addr} {fd fdN:FuncData} (F:Qj K "is_line" "is_line" Zd f fd) (B:Zu mg) (T:Q6 K mg) (hN:jC K mg "is_name" QW ["thing"] fN fdN):qv P w K mg base jh 2 f fd ["line"] z6:=by
 have GN:qv P w K mg base jh 1 fN fdN ["thing"] (Wn K):=Yj hN.fn B T
 refine F.okJ kF (λvs H Q E h=>?_) (λcdv A outer s H vs Q E hr h=>?_)
 . obtain⟨z,rfl,_⟩:=h
   rfl
 . obtain⟨z,rfl,l1,q⟩:=h
   have hu:=ZV hr
   refine⟨_,qf (qr (i:=1) kF.nd rfl (Or.inl rfl) (jm PySem.F.plainAttrs_str PySem.F.slot_str_split PySem.F.type_str_split Qo (jv 0) (qb qy qe)))
     (qf (qK (JW.pt (QZ (qp Yh (qm qH (by rfl) B.len boot_len (qb (jv 1) qe)) (qi) (qA _)) (j7 (j9 (jL (qQ hN GN hr (by rfl) (qb (qU je (jv 1) (qi) (λ_ _=>rfl)) qe))))))) (qh (qF Qq)) qu)
     (qf (qr (i:=2) kF.nd rfl (Or.inl rfl) (jm PySem.F.plainAttrs_str PySem.F.slot_str_split PySem.F.type_str_split Qo (qU je (jv 1) (qi) (λ_ _=>rfl)) (qb qy qe)))
     (qh (qF (zx (Zg jz (qU je (jv 2) (qi) (λ_ _=>rfl)) qy (qA _)) (zw (qm (Jh rfl) (by rfl) T.all boot_all (qb (Qp (N':=["word"]) (ix:=[none]) (te:=Jz (Wn K) [] E0 (jc (jd 0) jJ)) rfl ⟨rfl,rfl,rfl,rfl,rfl⟩ (qY (qM jF (jv 2) (qS qi) qT)) (λC s2 H2 fp pins=>
       ⟨qz (i:=0) (W6 _) rfl (Or.inl rfl),jt,qQ hN GN hr (by rfl) (qb (jv 0) qe)⟩)) qe)))))))),?_⟩
   refine⟨_,rfl,rfl,z,_,rfl,rfl,by decide+kernel,l1,λl hl=>?_⟩
   rw[YI]
   have s1:=qj (o:=HO.lst ((Txt.split z jV).map V.str)) hl
   have y1:upd H l (HO.lst ((Txt.split z jV).map V.str)) l=some (.lst ((Txt.split z jV).map V.str)):=qd
   generalize upd H l (HO.lst ((Txt.split z jV).map V.str))=H1 at s1 y1
   refine⟨_,rfl,l,_,rfl,.inl (.of y1),rfl,_,rfl,?_⟩
   by_cases c2:(Txt.split z jV).length=2
   . obtain⟨a,b,e⟩:∃a b,Txt.split z jV=[a,b]:=by
       match h:Txt.split z jV,c2 with
       | [a,b],_=>exact⟨a,b,rfl⟩
     have la:a.length<=1000:=Nat.le_trans (Qg (c:=58) (by show a∈Txt.split z jV;rw[e];simp)) l1
     have lb:b.length<=1000:=Nat.le_trans (Qg (c:=58) (by show b∈Txt.split z jV;rw[e];simp)) l1
     rw[e]at y1 ⊢
     refine qJ rfl ⟨_,rfl,l,_,0,.str a,rfl,rfl,.of y1,rfl,.str a,.str a,rfl,.str a la,λH2 s2=>⟨_,rfl,?_⟩⟩
     cases ca:qw a with
     | false=>
       have e1:J8 (.str a)=false:=ca
       rw[e1]
       refine QM ?_
       refine q false H2 (s1.trans s2) ⟨(λh=>nomatch h),λ⟨r,h⟩=>?_⟩
       have e2:=jP h
       rw[e]at e2
       have e3:a=r.1:=(List.cons.inj e2).1
       rw[e3,h.1]at ca
       cases ca
     | true=>
       have e1:J8 (.str a)=true:=ca
       rw[e1]
       refine jn ⟨_,rfl,l,_,1,.str b,rfl,rfl,.of (s2 _ _ y1),rfl,rfl,b,_,rfl,rfl,by decide+kernel,lb,λl2 f2=>?_⟩
       rw[WJ]
       have s3:=qj (o:=HO.lst ((Txt.split b QA).map V.str)) f2
       have y3:upd H2 l2 (HO.lst ((Txt.split b QA).map V.str)) l2=some (.lst ((Txt.split b QA).map V.str)):=qd
       generalize upd H2 l2 (HO.lst ((Txt.split b QA).map V.str))=H3 at s3 y3
       have s13:=(s1.trans s2).trans s3
       have mem:∀x∈Txt.split b QA,x.length<=1000:=λx hx=>Nat.le_trans (Qg (c:=32) hx) lb
       have many:(Txt.split b QA).length<=1001:=by have:=QH b 32;show (Txt.split b ⟨#[32]⟩).length<=_;omega
       cases ew:Txt.split b QA with
       | nil=>exact absurd ew (Qn _ _)
       | cons w0 ws=>
         rw[ew]at y3 mem many
         refine⟨_,rfl,l2,_,0,.str w0,rfl,rfl,.of y3,zZ,rfl,_,rfl,?_⟩
         by_cases c0:w0=(⟨#[]⟩:Str)
         . have ec:Jv ((w0::ws).map V.str) (some (1:Int)) none=ws.map V.str:=by
             unfold Jv
             rw[HT.sIx_none,show (1:Int)=((1:Nat):Int) from rfl,HT.sIx_nat,List.length_map,List.length_cons,Nat.min_eq_left (by omega),List.map_cons,List.drop_succ_cons,List.drop_zero,List.take_of_length_le (by rw[List.length_map];omega)]
           refine jo (decide_eq_true (by rw[c0,GC])) ⟨_,rfl,1,rfl,l2,_,rfl,.of y3,λl3 f3=>?_⟩
           rw[ec]
           have s4:=qj (o:=HO.lst (ws.map V.str)) f3
           have y4:upd H3 l3 (HO.lst (ws.map V.str)) l3=some (.lst (ws.map V.str)):=qd
           generalize upd H3 l3 (HO.lst (ws.map V.str))=H4 at s4 y4
           refine⟨l3,rfl,⟨_,.of y4⟩,λW hW=>?_⟩
           refine XT (K:=K) (a:=l3) (xs:=ws) (enc:=V.str) (out:=λx=>some (V.bl (qw x))) (rest:=[]) hW y4 (Z6 (by rw[List.length_cons]at many;omega)) (λx hx Y sY Rr hR=>hR Y (Same.refl Y)) (λx hx v ev Y sY Rr hR=>?_) (λH5 s5 hW5=>?_)
           . cases ev
             exact⟨_,rfl,.str x,.str x,rfl,.str x (mem x (List.mem_cons_of_mem _ hx)),λY2 s2'=>hR Y2 s2'⟩
           . have em:ws.filterMap (λx=>some (V.bl (qw x)))=(ws.map qw).map V.bl:=by
               rw[List.map_map]
               induction ws<;>simp [*]
             rw[em]at hW5
             refine⟨W,_,rfl,.of hW5,?_⟩
             refine q _ H5 ((s13.trans s4).trans s5) ⟨λh=>?_,λ⟨r,h⟩=>?_⟩
             . have hall:∀x∈ws,qw x=true:=by simpa using h
               exact⟨(a,ws),vE e ca (by rw[ew,c0]) hall⟩
             . have e2:=jP h
               rw[e]at e2
               have e4:b=Str.join QA (⟨#[]⟩::r.2):=(List.cons.inj (List.cons.inj e2).2).1
               have e5:=Jc h
               rw[<-e4,ew]at e5
               have e6:ws=r.2:=(List.cons.inj e5).2
               rw[e6]
               have:=h.2.1
               simpa using this
         . refine qJ (decide_eq_false λh=>c0 (by rw[<-GC];exact V.str.inj h)) ?_
           refine q false H3 s13 ⟨(λh=>nomatch h),λ⟨r,h⟩=>?_⟩
           have e2:=jP h
           rw[e]at e2
           have e4:b=Str.join QA (⟨#[]⟩::r.2):=(List.cons.inj (List.cons.inj e2).2).1
           have e5:=Jc h
           rw[<-e4,ew]at e5
           exact absurd (List.cons.inj e5).1 c0
   . refine jo ?_ (QM ?_)
     . show (!decide (V.int ((Txt.split z jV).map V.str).length=V.int 2))=true
       rw[decide_eq_false λh=>c2 (by have:=V.int.inj h;rw[List.length_map]at this;omega)]
       rfl
     . exact q false H1 s1 ⟨(λh=>nomatch h),λ⟨r,h⟩=>absurd (by rw[jP h];rfl) c2⟩
end
def Xu:Sp:=λvs H Q _=>∃(z:Str) (r:Str×List Str),vs=[.str z]/\z.length<=1000/\QR z r/\∀H' p q,Same H H'->H' p=some (.tup [.str r.1,.ref q])->H' q=some (.tup (r.2.map V.str))->Q (.ref p) H'
section
variable {P:Program} {w:World} {K:PySem.W.Frag} {mg:Str->Option Value} {base:Heap}
theorem uo:qC ["line","halves"] ["line"] (qo zb):=⟨rfl,rfl,rfl,by decide+kernel,rfl,by decide+kernel,by decide+kernel⟩
theorem yi {f:Addr} {fd:FuncData} (F:Qj K "row_of" "row_of" zb f fd) (G:QB mg):qv P w K mg base jh 1 f fd ["line"] Xu:=by
 refine F.okJ uo (λvs H Q E h=>?_) (λcdv A outer s H vs Q E hr h=>?_)
 . obtain⟨z,r,rfl,_⟩:=h
   rfl
 . obtain⟨z,r,rfl,l1,rl,q⟩:=h
   refine⟨_,qf (qr (i:=1) uo.nd rfl (Or.inl rfl) (jm PySem.F.plainAttrs_str PySem.F.slot_str_split PySem.F.type_str_split Qo (jv 0) (qb qy qe)))
     (qh (qF (Q5 (qb (qU je (jv 1) (qi) (λ_ _=>rfl)) (qb (jT Qm (by rfl) G.tup boot_tuple (qb (qM jF (jm PySem.F.plainAttrs_str PySem.F.slot_str_split PySem.F.type_str_split Qo (qU je (jv 1) (qi) (λ_ _=>rfl)) (qb qy qe)) (qS qi) qT) qe)) qe))))),?_⟩
   refine⟨_,rfl,rfl,z,_,rfl,rfl,by decide+kernel,l1,λl hl=>?_⟩
   rw[YI,jP rl]
   have s1:=qj (o:=HO.lst ([r.1,Str.join QA (⟨#[]⟩::r.2)].map V.str)) hl
   have y1:upd H l (HO.lst ([r.1,Str.join QA (⟨#[]⟩::r.2)].map V.str)) l=some (.lst [V.str r.1,.str (Str.join QA (⟨#[]⟩::r.2))]):=qd
   generalize upd H l (HO.lst ([r.1,Str.join QA (⟨#[]⟩::r.2)].map V.str))=H1 at s1 y1
   have lb:(Str.join QA (⟨#[]⟩::r.2)).length<=1000:=Nat.le_trans (Qg (c:=58) (by show _∈Txt.split z jV;rw[jP rl];simp)) l1
   refine⟨_,rfl,l,_,0,.str r.1,rfl,rfl,.of y1,rfl,_,rfl,l,_,1,.str (Str.join QA (⟨#[]⟩::r.2)),rfl,rfl,.of y1,rfl,rfl,_,_,rfl,rfl,by decide+kernel,lb,λl2 f2=>?_⟩
   rw[WJ,Jc rl]
   have s2:=qj (o:=HO.lst ((⟨#[]⟩::r.2).map V.str)) f2
   have y2:upd H1 l2 (HO.lst ((⟨#[]⟩::r.2).map V.str)) l2=some (.lst ((⟨#[]⟩::r.2).map V.str)):=qd
   generalize upd H1 l2 (HO.lst ((⟨#[]⟩::r.2).map V.str))=H2 at s2 y2
   refine⟨1,rfl,l2,_,rfl,.of y2,λl3 f3=>?_⟩
   have ec:Jv (((⟨#[]⟩:Str)::r.2).map V.str) (some (1:Int)) none=r.2.map V.str:=by
     unfold Jv
     rw[HT.sIx_none,show (1:Int)=((1:Nat):Int) from rfl,HT.sIx_nat,List.length_map,List.length_cons,Nat.min_eq_left (by omega),List.map_cons,List.drop_succ_cons,List.drop_zero,List.take_of_length_le (by rw[List.length_map];omega)]
   rw[ec]
   have s3:=qj (o:=HO.lst (r.2.map V.str)) f3
   have y3:upd H2 l3 (HO.lst (r.2.map V.str)) l3=some (.lst (r.2.map V.str)):=qd
   generalize upd H2 l3 (HO.lst (r.2.map V.str))=H3 at s3 y3
   refine⟨l3,_,rfl,.inl ⟨.of y3,λl4 f4=>⟨by show 2<=sizeLine;decide,λp fp=>?_⟩⟩⟩
   have s4:=qj (o:=HO.tup (r.2.map V.str)) f4
   have s5:=qj (o:=HO.tup [V.str r.1,.ref l4]) fp
   exact q _ p l4 ((s1.trans s2).trans (s3.trans (s4.trans s5))) qd (s5 _ _ qd)
end
end Rh
set_option Elab.async false
set_option linter.all false
set_option maxRecDepth 100000
set_option maxHeartbeats 4000000
namespace Rh
open PySem L2 PyProof.Rows
def cw (c:Nat):Nat:=if c < 128 then (if c=32 then 2 else 1) else 2000
def wt (z:Str):Nat:=(z.cps.toList.map cw).sum
theorem Ku (c:Nat):1<=cw c:=by unfold cw;split<;>(try split)<;>omega
theorem vO (a b:Str):wt (a++b)=wt a+wt b:=by unfold wt;rw[Ql,List.map_append,List.sum_append]
theorem Vj:∀l:List Nat,l.length<=(l.map cw).sum
 | []=>Nat.zero_le _
 | c::l=>by
   have:=Vj l
   have:=Ku c
   simp only[List.length_cons,List.map_cons,List.sum_cons]
   omega
theorem Ji (z:Str):z.length<=wt z:=by rw[jy];exact Vj _
theorem Xt:∀{l:List Nat},(l.map cw).sum < 2000->∀c∈l,c < 128
 | c::l,h,x,hx=>by
   simp only[List.map_cons,List.sum_cons]at h
   rcases List.mem_cons.mp hx with rfl | hx
   . refine Decidable.byContradiction λn=>?_
     unfold cw at h
     rw[if_neg n]at h
     omega
   . exact Xt (by omega) x hx
theorem VX {z:Str} (h:qw z=true):wt z<=8:=by
 have e:∀l:List Nat,(∀c∈l,97<=c/\c<=122)->(l.map cw).sum=l.length:=λl=>by
   induction l with
   | nil=>intro _;rfl
   | cons c l ih=>
     intro h
     have h1:=h c List.mem_cons_self
     rw[List.map_cons,List.sum_cons,ih λx hx=>h x (List.mem_cons_of_mem _ hx),List.length_cons]
     have:cw c=1:=by unfold cw;rw[if_pos (by omega),if_neg (by omega)]
     omega
 unfold wt
 rw[e _ λc hc=>⟨WE h c hc,(QL h).1 c hc⟩,<-jy]
 exact(QL h).2.1
def tw (k:Nat) (l:List Str):Nat:=(l.map λx=>wt x+k).sum
theorem jE (k:Nat) (x:Str) (l:List Str):tw k (x::l)=wt x+k+tw k l:=by unfold tw;rw[List.map_cons,List.sum_cons]
theorem JL (k:Nat) (l m:List Str):tw k (l++m)=tw k l+tw k m:=by unfold tw;rw[List.map_append,List.sum_append]
theorem Xo (k:Nat) (l:List Str) (i:Nat):tw k (l.take i)+tw k (l.drop i)=tw k l:=by rw[<-JL,List.take_append_drop]
theorem Va {k:Nat} {l:List Str} {i:Nat} {x:Str} (h:l[i]?=some x):tw k (l.take i)+(wt x+k)+tw k (l.drop (i+1))=tw k l:=by
 have e:l.drop i=x::l.drop (i+1):=by
   obtain⟨hi,rfl⟩:=List.getElem?_eq_some_iff.mp h
   exact List.drop_eq_getElem_cons hi
 have:=Xo k l i
 rw[e,jE]at this
 omega
theorem W9 {k:Nat} (hk:1<=k):∀(l:List Str),l.length<=tw k l
 | []=>Nat.zero_le _
 | x::l=>by
   have:=W9 hk l
   rw[jE,List.length_cons]
   omega
theorem QV {c:Nat}:∀(l:List Str),wt (Str.join ⟨#[c]⟩ l)<=tw (cw c) l
 | []=>Nat.zero_le _
 | [x]=>by rw[jE];show wt x<=_;omega
 | x::y::l=>by
   have:=QV (c:=c) (y::l)
   rw[jE]
   have e:wt (Str.join ⟨#[c]⟩ (x::y::l))=wt x+cw c+wt (Str.join ⟨#[c]⟩ (y::l)):=by
     unfold wt
     rw[j6,List.map_append,List.map_cons,List.sum_append,List.sum_cons]
     omega
   omega
theorem Zf {c:Nat}:∀{l:List Str},l≠[]->tw (cw c) l=wt (Str.join ⟨#[c]⟩ l)+cw c
 | [x],_=>by rw[jE];show wt x+cw c+0=_;rfl
 | x::y::l,_=>by
   have ih:=Zf (c:=c) (l:=y::l) (by simp)
   rw[jE]
   have e:wt (Str.join ⟨#[c]⟩ (x::y::l))=wt x+cw c+wt (Str.join ⟨#[c]⟩ (y::l)):=by
     unfold wt
     rw[j6,List.map_append,List.map_cons,List.sum_append,List.sum_cons]
     omega
   omega
theorem kc (z:Str) (c:Nat):tw (cw c) (Txt.split z ⟨#[c]⟩)=wt z+cw c:=by
 rw[Zf (Qn _ _),StrLaws.join_split]
theorem x5 (z:Str):(Txt.replace z (Str.ofString " ") (Str.ofString "  ")).length<=wt z:=by
 have e1:Str.ofString " "=QA:=WJ
 unfold Txt.replace
 split
 . exact Ji z
 . rename_i hne
   have h0:(Builtin.Str.occurrences z (Str.ofString " ") 0 z.length (z.length+1)).isEmpty=false:=by
     cases h:(Builtin.Str.occurrences z (Str.ofString " ") 0 z.length (z.length+1)).isEmpty with
     | false=>rfl
     | true=>rw[h]at hne;exact absurd rfl hne
   rw[size_glued]
   have hj:=StrLaws.glued_between_self z (Str.ofString " ") (z.length+1)
   generalize Builtin.Str.partsBetween z (Builtin.Str.occurrences z (Str.ofString " ") 0 z.length (z.length+1)) (Str.ofString " ").length=ps at hj
   rw[StrLaws.glued_eq_join,e1]at hj
   have l2:(Str.ofString "  ").length=2:=by decide+kernel
   rw[l2]
   cases ps with
   | nil=>show 0+_<=_;simp
   | cons p ps=>
     have h1:=Zf (c:=32) (l:=p::ps) (by simp)
     have e2:cw 32=2:=by decide
     rw[show Str.join ⟨#[32]⟩ (p::ps)=z from hj,e2]at h1
     have h2:∀l:List Str,(l.map (·.length)).sum+l.length*2<=tw 2 l:=λl=>by
       induction l with
       | nil=>exact Nat.le_refl _
       | cons x l ih=>
         rw[jE]
         simp only[List.map_cons,List.sum_cons,List.length_cons]
         have:=Ji x
         omega
     have h3:=h2 (p::ps)
     rw[List.length_cons]at h3 ⊢
     omega
theorem vQ:∀(l:List Nat),(∀c∈l,c < 128)->(Txt.upper ⟨l.toArray⟩).length=l.length
 | [],_=>by decide+kernel
 | c::l,h=>by
   have e:(⟨(c::l).toArray⟩:Str)=⟨#[c]⟩++⟨l.toArray⟩:=Qv (by rw[Ql];simp)
   rw[e,PySem.W.KOpn.upper_app,Str.length_append,PySem.W.KOpn.upper_one (h c List.mem_cons_self),vQ l λx hx=>h x (List.mem_cons_of_mem _ hx),List.length_cons]
   show 1+_=_
   omega
theorem UQ {z:Str} (h:wt z < 2000):(Txt.upper z).length<=wt z:=by
 have e:z=⟨z.cps.toList.toArray⟩:=by simp
 have:=vQ z.cps.toList (Xt h)
 rw[<-e]at this
 rw[this]
 exact Vj _
theorem z7 (z:Str) (j:Nat):(Txt.slice z (some (j:Int)) none).cps.toList=z.cps.toList.drop j:=by
 have hl:z.cps.toList.length=z.length:=Array.length_toList
 have idx:Builtin.Str.strSliceIndices (some (j:Int)) none 1 z.length=(List.range (z.length - min j z.length)).map (min j z.length+·):=by
   have e:Builtin.Str.strSliceIndices (some (j:Int)) none 1 z.length=sliceRange ((min j z.length:Nat):Int) ((z.length:Nat):Int) 1:=by
     unfold Builtin.Str.strSliceIndices
     simp only[show (1:Int) > 0 by decide,if_true,show ¬((j:Int) < 0) by omega,if_false]
     congr 1
     omega
   rw[e,sliceRange_one]
 unfold Txt.slice
 rw[idx]
 split
 . rename_i h
   have hm:z.length - min j z.length=z.length:=by simpa using h
   by_cases hj:j=0
   . subst hj;rfl
   . have:z.length=0:=by omega
     rw[List.drop_of_length_le (by omega)]
     exact List.eq_nil_of_length_eq_zero (by omega)
 . rw[pick_run]
   show (z.cps.toList.drop (min j z.length)).take (z.length - min j z.length)=_
   rw[List.take_of_length_le (by rw[List.length_drop];omega)]
   by_cases hj:j<=z.length
   . rw[Nat.min_eq_left hj]
   . rw[Nat.min_eq_right (by omega),List.drop_of_length_le (by omega),List.drop_of_length_le (by omega)]
theorem yz (z:Str) (j:Nat):(Txt.slice z none (some (j:Int))).length=min j z.length:=by rw[jy,Jl,List.length_take,<-jy]
theorem WI (z:Str) (j:Nat):(Txt.slice z (some (j:Int)) none).length=z.length - j:=by rw[jy,z7,List.length_drop,<-jy]
theorem Yp {z:Str}:Txt.slice z (some (-1)) none=jV↔∃n:Str,z=n++jV:=by
 have key:∀z:Str,z.length≠0->(Txt.slice z (some (-1)) none).cps.toList=z.cps.toList.drop (z.length - 1):=λz h=>by
   rw[<-z7]
   unfold Txt.slice
   rw[StrLaws.sliceIdx_neg_lo none z.length (by decide) (by omega),show (-1:Int)+(z.length:Int)=((z.length - 1:Nat):Int) by omega]
 constructor
 . intro h
   by_cases h0:z.length=0
   . have e:z=⟨#[]⟩:=Qv (List.eq_nil_of_length_eq_zero (by rw[<-jy];exact h0))
     rw[e]at h
     exact absurd h (by decide+kernel)
   . have h1:=key z h0
     rw[h]at h1
     refine⟨⟨(z.cps.toList.take (z.length - 1)).toArray⟩,Qv ?_⟩
     rw[Ql,h1]
     show _=z.cps.toList.take (z.length - 1)++z.cps.toList.drop (z.length - 1)
     rw[List.take_append_drop]
 . rintro⟨n,rfl⟩
   have hl:(n++jV).length=n.length+1:=Str.length_append _ _
   refine Qv ?_
   rw[key _ (by omega),hl,Ql,Nat.add_sub_cancel,jy,List.drop_left]
theorem Zj (n:Str):Txt.slice (n++jV) none (some (-1))=n:=by
 have hl:(n++jV).length=n.length+1:=Str.length_append _ _
 refine Qv ?_
 have e:Txt.slice (n++jV) none (some (-1))=Txt.slice (n++jV) none (some ((n.length:Nat):Int)):=by
   unfold Txt.slice
   rw[StrLaws.sliceIdx_neg_hi none (n++jV).length (by decide) (by omega),show (-1:Int)+((n++jV).length:Int)=((n.length:Nat):Int) by omega]
 rw[e,Jl,Ql,jy,List.take_left]
end Rh
set_option Elab.async false
set_option linter.all false
set_option maxRecDepth 100000
set_option maxHeartbeats 4000000
namespace Rh
open PySem L2 PyProof.Rows
theorem kP {rs:jK} {r:Str×List Str} {y:Str} (h:y∈jQ rs r):∃r'∈rs,r'.1=y:=by
 obtain⟨r',h1,h2⟩:=List.mem_map.mp (List.mem_filter.mp h).1
 exact⟨r',h1,h2⟩
theorem Ww {rs:jK} (g:qG rs) {r:Str×List Str} (h:r∈rs) {y:Str}:y∈jQ rs r↔y∈r.2:=by
 unfold jQ
 rw[List.mem_filter,Zh]
 exact⟨λz=>z.2,λz=>⟨g.to r h y z,z⟩⟩
theorem Uw {α:Type}:∀{l m:List α},l.Nodup->(∀z∈l,z∈m)->l.length<=m.length
 | [],m,_,_=>Nat.zero_le _
 | a::l,m,hn,h=>by
   classical
   rw[List.nodup_cons]at hn
   have ha:=h a List.mem_cons_self
   have:=Uw (m:=m.erase a) hn.2 λz hz=>(List.mem_erase_of_ne (λ(e:z=a)=>hn.1 (e▸hz))).mpr (h z (List.mem_cons_of_mem _ hz))
   rw[List.length_erase_of_mem ha]at this
   have:=List.length_pos_of_mem ha
   rw[List.length_cons]
   omega
abbrev Qe:Str:=⟨#[10]⟩
def w9 (zs es:List Str) (r:Zk):Prop:=∃(i:Nat) (z:Str),es[i]?=some z/\(es.take i).Nodup/\(∀y∈es.take i,y∈zs)/\((z∉zs/\r=.place z)\/(z∈zs/\z∈es.take i/\r=.twice z))
def xz (zs:List Str) (r:Str×List Str):Prop:=r.2.Nodup/\∀z∈r.2,z∈zs
abbrev QX (rs:jK):Nat:=(rs.map λr=>r.2.length).sum
def YK (rs:jK) (r:Zk):Prop:=
 (14 < rs.length/\r=.many rs.length)\/(rs.length<=14/\
 ((∃(i:Nat) (z:Str),(rs.map (·.1))[i]?=some z/\z∈(rs.map (·.1)).take i/\((rs.map (·.1)).take i).Nodup/\r=.twice z)\/
 ((rs.map (·.1)).Nodup/\∃(k:Nat) (r':Str×List Str),rs[k]?=some r'/\(∀(j:Nat) (r'':Str×List Str),j < k->rs[j]?=some r''->xz (rs.map (·.1)) r'')/\w9 (rs.map (·.1)) r'.2 r)\/
 ((rs.map (·.1)).Nodup/\(∀r∈rs,xz (rs.map (·.1)) r)/\40 < QX rs/\r=.many (QX rs))))
theorem jp {α:Type} {l:List α} {n:Nat} {x:α} (h:l[n]?=some x):l.take (n+1)=l.take n++[x]:=by rw[List.take_add_one,h];rfl
theorem Ut {l:List Str} {x:Str} (h:l.Nodup) (n:x∉l):(l++[x]).Nodup:=by
 rw[List.nodup_append]
 exact⟨h,by simp,λa ha b hb e=>n (by rw[List.mem_singleton.mp hb]at e;exact e▸ha)⟩
theorem xn (zs:List Str):∀n,n<=zs.length->(zs.take n).Nodup\/∃(i:Nat) (z:Str),zs[i]?=some z/\z∈zs.take i/\(zs.take i).Nodup
 | 0,_=>.inl List.nodup_nil
 | n+1,h=>by
   rcases xn zs n (by omega) with a | a
   . have e:=List.getElem?_eq_getElem (l:=zs) (i:=n) (by omega)
     by_cases m:zs[n]∈zs.take n
     . exact .inr ⟨n,_,e,m,a⟩
     . left
       rw[jp e]
       exact Ut a m
   . exact .inr a
theorem xj (zs es:List Str):∀n,n<=es.length->((es.take n).Nodup/\∀y∈es.take n,y∈zs)\/∃r,w9 zs es r
 | 0,_=>.inl ⟨List.nodup_nil,λy hy=>nomatch hy⟩
 | n+1,h=>by
   rcases xj zs es n (by omega) with ⟨a,b⟩ | a
   . have e:=List.getElem?_eq_getElem (l:=es) (i:=n) (by omega)
     by_cases mz:es[n]∈zs
     . by_cases m:es[n]∈es.take n
       . exact .inr ⟨_,n,_,e,a,b,.inr ⟨mz,m,rfl⟩⟩
       . left
         rw[jp e]
         refine⟨Ut a m,λy hy=>?_⟩
         rcases List.mem_append.mp hy with hy | hy
         . exact b y hy
         . rw[List.mem_singleton.mp hy];exact mz
     . exact .inr ⟨_,n,_,e,a,b,.inl ⟨mz,rfl⟩⟩
   . exact .inr a
theorem Uh (zs:List Str) (rs:jK):∀n,n<=rs.length->(∀(j:Nat) (r:Str×List Str),j < n->rs[j]?=some r->xz zs r)\/∃(x:Zk) (k:Nat) (r':Str×List Str),rs[k]?=some r'/\(∀(j:Nat) (r'':Str×List Str),j < k->rs[j]?=some r''->xz zs r'')/\w9 zs r'.2 x
 | 0,_=>.inl λj r h=>absurd h (Nat.not_lt_zero _)
 | n+1,h=>by
   rcases Uh zs rs n (by omega) with a | a
   . have e:=List.getElem?_eq_getElem (l:=rs) (i:=n) (by omega)
     rcases xj zs (rs[n]).2 (rs[n]).2.length (Nat.le_refl _) with b | ⟨x,b⟩
     . rw[List.take_length]at b
       refine .inl λj r hj ej=>?_
       rcases Nat.lt_or_ge j n with c | c
       . exact a j r c ej
       . have:j=n:=by omega
         subst this
         rw[e]at ej
         obtain rfl:=Option.some.inj ej
         exact b
     . exact .inr ⟨x,n,_,e,a,b⟩
   . exact .inr a
theorem uR {rs:jK} (nm:∀r∈rs,qw r.1=true):(∃x,YK rs x)\/(qG rs/\rs.length<=14):=by
 by_cases l:rs.length<=14
 . rcases xn (rs.map (·.1)) _ (Nat.le_refl _) with a | ⟨i,z,h⟩
   . rw[List.take_length]at a
     rcases Uh (rs.map (·.1)) rs rs.length (Nat.le_refl _) with b | ⟨x,h⟩
     . have b':∀r∈rs,xz (rs.map (·.1)) r:=λr hr=>by
         obtain⟨j,e⟩:=List.getElem?_of_mem hr
         exact b j r (List.getElem?_eq_some_iff.mp e).1 e
       by_cases s:40 < QX rs
       . exact .inl ⟨_,.inr ⟨l,.inr (.inr ⟨a,b',s,rfl⟩)⟩⟩
       . exact .inr ⟨⟨nm,a,λr hr=>(b' r hr).2,λr hr=>(b' r hr).1,by show QX rs<=40;omega⟩,l⟩
     . exact .inl ⟨x,.inr ⟨l,.inr (.inl ⟨a,h⟩)⟩⟩
   . exact .inl ⟨_,.inr ⟨l,.inl ⟨i,z,h.1,h.2.1,h.2.2,rfl⟩⟩⟩
 . exact .inl ⟨_,.inl ⟨by omega,rfl⟩⟩
theorem Yl {zs:List Str} (h:zs.Nodup) {i:Nat} {z:Str} (e:zs[i]?=some z):z∉zs.take i:=by
 have:=h.sublist (List.take_sublist (i+1) zs)
 rw[jp e,List.nodup_append]at this
 exact λm=>this.2.2 z m z (by simp) rfl
theorem xk {zs es:List Str} {r:Zk} (h:w9 zs es r) (nd:es.Nodup) (to:∀z∈es,z∈zs):False:=by
 obtain⟨i,z,e,_,_,h | h⟩:=h
 . exact h.1 (to z (List.mem_of_getElem? e))
 . exact Yl nd e h.2.1
theorem y9 {rs:jK} (g:qG rs) (l:rs.length<=14) {r:Zk} (h:YK rs r):False:=by
 rcases h with h | ⟨_,⟨i,z,e,m,_,_⟩ | ⟨_,k,r',e,_,h⟩ | ⟨_,_,h,_⟩⟩
 . omega
 . exact Yl g.nd e m
 . have hr:=List.mem_of_getElem? e
   exact xk h (g.rd r' hr) (g.to r' hr)
 . have:=g.few
   have h:40 < (rs.map λr=>r.2.length).sum:=h
   omega
def W0 (r:Str×List Str):Prop:=qw r.1=true/\∀x∈r.2,qw x=true
def qB (r:Str×List Str):Str:=Str.join QA ((r.1++jV)::r.2)
theorem QJ {z:Str} {r:Str×List Str}:QR z r↔W0 r/\z=qB r:=⟨λh=>⟨⟨h.1,h.2.1⟩,h.2.2⟩,λh=>⟨h.1.1,h.1.2,h.2⟩⟩
theorem YX:∀{rs rs':jK},(∀r∈rs,W0 r)->(∀r∈rs',W0 r)->rs.map qB=rs'.map qB->rs=rs'
 | [],[],_,_,_=>rfl
 | [],_::_,_,_,e=>nomatch e
 | _::_,[],_,_,e=>nomatch e
 | r::rs,r'::rs',a,b,e=>by
   obtain⟨e1,e2⟩:=List.cons.inj e
   have h1:QR (qB r) r:=QJ.mpr ⟨a r List.mem_cons_self,rfl⟩
   have h2:QR (qB r) r':=QJ.mpr ⟨b r' List.mem_cons_self,e1⟩
   rw[h1.uniq h2,YX (λx hx=>a x (List.mem_cons_of_mem _ hx)) (λx hx=>b x (List.mem_cons_of_mem _ hx)) e2]
def told (rs:jK):jK:=rs.map λr=>(r.1,jQ rs r)
def ZK (rs:jK):Str:=Str.join Qe ((told rs).map qB)
def JB (rs:jK):List PyData:=[.str (Str.ofString "good"),.list ((told rs).map WS),.str (ZK rs)]
def Zk.tag:Zk->Str
 | .ground _=>Str.ofString "ground"
 | .many _=>Str.ofString "many"
 | .twice _=>Str.ofString "twice"
 | .place _=>Str.ofString "place"
 | .text _=>Str.ofString "text"
def Zk.dat:Zk->PyData
 | .ground n=>.int n
 | .many n=>.int n
 | .twice z=>.str z
 | .place z=>.str z
 | .text n=>.int n
def QP (ls:List Str) (rs:jK):Prop:=ls=rs.map qB/\∀r∈rs,W0 r
def FB (ls:List Str) (i:Nat):Prop:=(∃l,ls[i]?=some l/\¬∃r,QR l r)/\∀(j:Nat) (l:Str),j < i->ls[j]?=some l->∃r,QR l r
theorem FB.uniq {ls:List Str} {i j:Nat} (a:FB ls i) (b:FB ls j):i=j:=by
 rcases Nat.lt_trichotomy i j with c | c | c
 . obtain⟨l,e,n⟩:=a.1
   exact absurd (b.2 i l c e) n
 . exact c
 . obtain⟨l,e,n⟩:=b.1
   exact absurd (a.2 j l c e) n
theorem FB.no {ls:List Str} {i:Nat} (a:FB ls i) {rs:jK} (h:QP ls rs):False:=by
 obtain⟨l,e,n⟩:=a.1
 rw[h.1,List.getElem?_map]at e
 cases er:rs[i]? with
 | none=>rw[er]at e;cases e
 | some r=>
   rw[er]at e
   obtain rfl:=Option.some.inj e
   exact n ⟨r,QJ.mpr ⟨h.2 r (List.mem_of_getElem? er),rfl⟩⟩
open Classical in
noncomputable def pickR (rs:jK):List PyData:=if h:∃x,YK rs x then [.str h.choose.tag,h.choose.dat] else JB rs
open Classical in
noncomputable def tv (z:Str):List PyData:=if h:∃rs,QP (Txt.split z Qe) rs then pickR h.choose else if k:∃i,FB (Txt.split z Qe) i then [.str (Str.ofString "text"),.int ((k.choose:Nat):Int)] else []
theorem ZH {z:Str} {rs:jK} (h:QP (Txt.split z Qe) rs):tv z=pickR rs:=by
 have k:∃rs,QP (Txt.split z Qe) rs:=⟨rs,h⟩
 unfold tv
 rw[dif_pos k,YX k.choose_spec.2 h.2 (k.choose_spec.1.symm.trans h.1)]
theorem Xq {z:Str} {i:Nat} (h:FB (Txt.split z Qe) i):tv z=[.str (Str.ofString "text"),.int ((i:Nat):Int)]:=by
 have k:∃i,FB (Txt.split z Qe) i:=⟨i,h⟩
 unfold tv
 rw[dif_neg (λ⟨rs,h'⟩=>h.no h'),dif_pos k,k.choose_spec.uniq h]
theorem zh {rs:jK} (g:qG rs) (l:rs.length<=14):pickR rs=JB rs:=by
 unfold pickR
 rw[dif_neg λ⟨x,h⟩=>y9 g l h]
theorem Zx {rs:jK} (nm:∀r∈rs,qw r.1=true):(∃x,YK rs x/\pickR rs=[.str x.tag,x.dat])\/(qG rs/\rs.length<=14/\pickR rs=JB rs):=by
 by_cases h:∃x,YK rs x
 . refine .inl ⟨h.choose,h.choose_spec,?_⟩
   unfold pickR
   rw[dif_pos h]
 . rcases uR nm with k | ⟨g,l⟩
   . exact absurd k h
   . exact .inr ⟨g,l,zh g l⟩
theorem vi {r:Str×List Str} (h:W0 r) {c:Nat} (hc:c < 97) (h1:c≠32) (h2:c≠58):c∉(qB r).cps.toList:=by
 refine zu h1 λx hx=>?_
 rcases List.mem_cons.mp hx with rfl | hx
 . rw[Ql]
   intro m
   rcases List.mem_append.mp m with m | m
   . exact Jp h.1 hc m
   . exact h2 (by simpa using m)
 . exact Jp (h.2 x hx) hc
theorem zD {rs:jK} (h:∀r∈rs,W0 r) (ne:rs≠[]):QP (Txt.split (Str.join Qe (rs.map qB)) Qe) rs:=by
 refine⟨Jj (by simpa using ne) λx hx=>?_,h⟩
 obtain⟨r,hr,rfl⟩:=List.mem_map.mp hx
 exact vi (h r hr) (by decide) (by decide) (by decide)
theorem qG.nmr {rs:jK} (g:qG rs):∀r∈rs,W0 r:=λr hr=>⟨g.nm r hr,λx hx=>by
 obtain⟨r',h1,h2⟩:=List.mem_map.mp (g.to r hr x hx)
 rw[<-h2]
 exact g.nm r' h1⟩
theorem Xr (rs:jK):(told rs).map (·.1)=rs.map (·.1):=by unfold told;rw[List.map_map];rfl
theorem Qf {rs:jK} (g:qG rs):qG (told rs):=by
 have mem:∀{r},r∈told rs->∃r0∈rs,r=(r0.1,jQ rs r0):=λh=>by
   obtain⟨r0,h0,rfl⟩:=List.mem_map.mp h
   exact⟨r0,h0,rfl⟩
 refine⟨λr hr=>?_,by rw[Xr];exact g.nd,λr hr z hz=>?_,λr hr=>?_,?_⟩
 . obtain⟨r0,h0,rfl⟩:=mem hr
   exact g.nm r0 h0
 . obtain⟨r0,h0,rfl⟩:=mem hr
   rw[Xr]
   exact(List.mem_filter.mp hz).1
 . obtain⟨r0,h0,rfl⟩:=mem hr
   exact g.nd.sublist List.filter_sublist
 . refine Nat.le_trans ?_ g.few
   unfold told
   rw[List.map_map]
   have:∀qs:jK,(∀r∈qs,r∈rs)->(qs.map ((λr=>r.2.length) ∘ λr=>(r.1,jQ rs r))).sum<=(qs.map λr=>r.2.length).sum:=λqs=>by
     induction qs with
     | nil=>intro _;exact Nat.le_refl _
     | cons r qs ih=>
       intro h
       have h1:=ih λx hx=>h x (List.mem_cons_of_mem _ hx)
       have hr:=h r List.mem_cons_self
       have h2:(jQ rs r).length<=r.2.length:=Uw (g.nd.sublist List.filter_sublist) λz hz=>(Ww g hr).mp hz
       simp only[List.map_cons,List.sum_cons,Function.comp_apply]at h1 ⊢
       omega
   exact this rs λ_ h=>h
theorem UT {rs:jK} (g:qG rs):told (told rs)=told rs:=by
 unfold told
 rw[List.map_map]
 refine List.map_congr_left λr hr=>?_
 show (r.1,jQ (told rs) (r.1,jQ rs r))=(r.1,jQ rs r)
 congr 1
 unfold jQ
 rw[Xr]
 refine List.filter_congr λz hz=>?_
 rw[Bool.eq_iff_iff,Zh,Zh]
 exact Ww g hr
def vL (rs rs':jK):Prop:=rs.length=rs'.length/\∀(i:Nat) (r r':Str×List Str),rs[i]?=some r->rs'[i]?=some r'->r.1=r'.1/\r'.2.Perm r.2
theorem vL.nm {rs rs':jK} (h:vL rs rs'):rs'.map (·.1)=rs.map (·.1):=by
 refine List.ext_getElem? λi=>?_
 rw[List.getElem?_map,List.getElem?_map]
 cases e:rs[i]? with
 | none=>
   have:rs.length<=i:=List.getElem?_eq_none_iff.mp e
   rw[List.getElem?_eq_none (by rw[<-h.1];exact this)]
 | some r=>
   have hi:=(List.getElem?_eq_some_iff.mp e).1
   have e':=List.getElem?_eq_getElem (l:=rs') (i:=i) (by rw[<-h.1];exact hi)
   rw[e',Option.map_some,Option.map_some,(h.2 i r _ e e').1]
theorem vL.at_ {rs rs':jK} (h:vL rs rs') {r':Str×List Str} (hr:r'∈rs'):∃(i:Nat) (r:Str×List Str),rs[i]?=some r/\r∈rs/\rs'[i]?=some r'/\r.1=r'.1/\r'.2.Perm r.2:=by
 obtain⟨i,e⟩:=List.getElem?_of_mem hr
 have hi:=(List.getElem?_eq_some_iff.mp e).1
 have e':=List.getElem?_eq_getElem (l:=rs) (i:=i) (by rw[h.1];exact hi)
 exact⟨i,_,e',List.mem_of_getElem? e',e,h.2 i _ _ e' e⟩
theorem vL.good {rs rs':jK} (h:vL rs rs') (g:qG rs):qG rs':=by
 refine⟨λr hr=>?_,by rw[h.nm];exact g.nd,λr hr z hz=>?_,λr hr=>?_,?_⟩
 . obtain⟨i,r0,_,m,_,e,_⟩:=h.at_ hr
   rw[<-e];exact g.nm r0 m
 . obtain⟨i,r0,_,m,_,e,p⟩:=h.at_ hr
   rw[h.nm]
   exact g.to r0 m z (p.mem_iff.mp hz)
 . obtain⟨i,r0,_,m,_,e,p⟩:=h.at_ hr
   exact p.nodup_iff.mpr (g.rd r0 m)
 . have e:rs'.map (λr=>r.2.length)=rs.map (λr=>r.2.length):=by
     refine List.ext_getElem? λi=>?_
     rw[List.getElem?_map,List.getElem?_map]
     cases e:rs[i]? with
     | none=>
       have:rs.length<=i:=List.getElem?_eq_none_iff.mp e
       rw[List.getElem?_eq_none (by rw[<-h.1];exact this)]
     | some r=>
       have hi:=(List.getElem?_eq_some_iff.mp e).1
       have e':=List.getElem?_eq_getElem (l:=rs') (i:=i) (by rw[<-h.1];exact hi)
       rw[e',Option.map_some,Option.map_some,(h.2 i r _ e e').2.length_eq]
   rw[e]
   exact g.few
theorem vL.told {rs rs':jK} (h:vL rs rs'):told rs'=told rs:=by
 refine List.ext_getElem? λi=>?_
 unfold Rh.told
 rw[List.getElem?_map,List.getElem?_map]
 cases e:rs[i]? with
 | none=>
   have:rs.length<=i:=List.getElem?_eq_none_iff.mp e
   rw[List.getElem?_eq_none (by rw[<-h.1];exact this)]
   rfl
 | some r=>
   have hi:=(List.getElem?_eq_some_iff.mp e).1
   have e':=List.getElem?_eq_getElem (l:=rs') (i:=i) (by rw[<-h.1];exact hi)
   obtain⟨e1,p⟩:=h.2 i r _ e e'
   rw[e',Option.map_some,Option.map_some]
   congr 1
   refine Prod.ext e1.symm ?_
   show jQ rs' _=jQ rs r
   unfold jQ
   rw[h.nm]
   refine List.filter_congr λz hz=>?_
   rw[Bool.eq_iff_iff,Zh,Zh]
   exact p.mem_iff
theorem zT {r:Str×List Str} (h:W0 r):wt (qB r)<=9+10*r.2.length:=by
 have h1:=QV (c:=32) ((r.1++jV)::r.2)
 have h2:∀l:List Str,(∀x∈l,qw x=true)->tw (cw 32) l<=10*l.length:=λl=>by
   induction l with
   | nil=>intro _;exact Nat.le_refl _
   | cons x l ih=>
     intro h
     have a:=ih λy hy=>h y (List.mem_cons_of_mem _ hy)
     have b:=VX (h x List.mem_cons_self)
     have e:cw 32=2:=by decide
     rw[jE,List.length_cons]
     omega
 have h3:=h2 r.2 h.2
 have h4:=VX h.1
 have h5:=Zf (c:=32) (l:=(r.1++jV)::r.2) (by simp)
 have e:cw 32=2:=by decide
 have e2:wt jV=1:=by decide
 rw[jE,vO,e,e2]at h5
 rw[e]at h3
 show wt (Str.join ⟨#[32]⟩ _)<=_
 omega
theorem ZR {rs:jK} (h:∀r∈rs,W0 r):tw 1 (rs.map qB)<=10*rs.length+10*QX rs:=by
 induction rs with
 | nil=>exact Nat.zero_le _
 | cons r rs ih=>
   have a:=ih λx hx=>h x (List.mem_cons_of_mem _ hx)
   have b:=zT (h r List.mem_cons_self)
   unfold QX at a ⊢
   rw[List.map_cons,jE,List.map_cons,List.sum_cons,List.length_cons]
   omega
end Rh
set_option Elab.async false
set_option linter.all false
set_option maxRecDepth 100000
set_option maxHeartbeats 4000000
namespace Rh
open PySem L2 PyProof.Rows
abbrev JU:Stmt:=Jt (top 22) 3
theorem Zs {l:List Str} {k:Nat} {sep:Str} (h:tw k l<=100000) (hs:sep.length<=k):(l.map (·.length)).sum+l.length*sep.length<=16777216:=by
 have:∀l:List Str,(l.map (·.length)).sum+l.length*sep.length<=tw k l:=λl=>by
   induction l with
   | nil=>simp
   | cons x l ih=>
     have:=Ji x
     rw[jE,List.map_cons,List.sum_cons,List.length_cons,Nat.succ_mul]
     omega
 have:=this l
 omega
theorem Q0 (sep:Str) (l:List Str):Txt.join sep l=Str.join sep l:=StrLaws.glued_eq_join sep l
theorem yD:Str.ofString "\n"=Qe:=by decide+kernel
theorem Kk (v u:V):([(Str.ofString "order",v),(Str.ofString "roads",u)]:List (Str×V)).lookup (Str.ofString "rows")=none:=by
 have e1:(Str.ofString "rows"==Str.ofString "order")=false:=by decide+kernel
 have e2:(Str.ofString "rows"==Str.ofString "roads")=false:=by decide+kernel
 simp [List.lookup,e1,e2]
abbrev K8 (K:PySem.W.Frag):List V->Hp->VK->Prop:=λxs H Q=>∃p ys,xs=[.ref p]/\((SqL K H p ys/\∀l,H l=none->Q (.ref l) (upd H l (.tup ys)))\/(SqT K H p ys/\Q (.ref p) H))
def Zc (CG:Addr):Sp:=λvs H Q _=>∃(a:Addr) (rs:jK),vs=[.ref a]/\W1 CG H a rs/\rs.length<=14/\∀l ps H',Same H H'->H l=none->H' l=some (.lst (ps.map V.ref))->qL H' ps (told rs)->Q (.ref l) H'
def ki:Sp:=λvs H Q _=>∃(p q:Addr) (r:Str×List Str),vs=[.ref p]/\H p=some (.tup [.str r.1,.ref q])/\H q=some (.tup (r.2.map V.str))/\W0 r/\r.2.length<=40/\∀H',Same H H'->Q (.str (qB r)) H'
def Wm (CG:Addr):Sp:=λvs H Q _=>∃(a:Addr) (rs:jK),vs=[.ref a]/\W1 CG H a rs/\qG rs/\rs.length<=14/\∀H',Same H H'->Q (.str (ZK rs)) H'
section
variable {P:Program} {w:World} {K:PySem.W.Frag} {mg:Str->Option Value} {base:Heap}
theorem Rv:qC ["self"] ["self"] (qo JU):=⟨rfl,rfl,rfl,by decide+kernel,rfl,by decide+kernel,by decide+kernel⟩
theorem Yk {f fI CG:Addr} {fd fdI:FuncData} (F:Qj K "rows" "Ground.rows" JU f fd) (C:ua K mg CG fI fdI) (G:QB mg):qv P w K mg base jh 1 f fd ["self"] (Zc CG):=by
 refine F.okJ Rv (λvs H Q E h=>?_) (λcdv A outer s H vs Q E hr h=>?_)
 . obtain⟨a,rs,rfl,_⟩:=h
   rfl
 . obtain⟨a,rs,rfl,gr,le14,q⟩:=h
   have hu:=ZV hr
   refine⟨_,qh (qF (Qp (N':=["name","self"]) (ix:=[none,some 0]) (te:=uC (jc (jd 0) (jc (KF (K8 K) (jc (ug (KS K (jd 1) "roads") (jd 0)) jJ)) jJ))) rfl ⟨rfl,rfl,rfl,rfl,rfl⟩ (qY (XH (jv 0) rfl)) (λC s2 H2 fp pins=>
       ⟨qz (i:=0) (show (["name","self"]:List Str).Nodup by decide+kernel) rfl (Or.inl rfl),jt,Q5 (qb (jv 0) (qb (jT Qm (by rfl) G.tup boot_tuple (qb (Q2 hu (XH (jv 1) rfl) (jv 0) (λ_ _=>rfl)) qe)) qe))⟩))),?_⟩
   obtain⟨dx,lo,rd,kvs,h1,h2,h3,h4⟩:=gr
   refine⟨_,rfl,a,CG,dx,_,_,rfl,h1,C.cl,C.no,lkO _ _,lo,rfl,⟨_,.of h2⟩,λD hD=>?_⟩
   refine jN (K:=K) (a:=lo) (xs:=(rs.map (·.1)).map V.str) (λi σ' X=>∃(v:Option V) (ps:List Addr),σ'=[v,some (.ref a)]/\Same H X/\X D=some (.lst (ps.map V.ref))/\qL X ps ((rs.take i).map λr=>(r.1,jQ rs r)))
     ⟨none,[],rfl,qj hD,qd,rfl,λi p r e=>(nomatch e)⟩ (λi σ' X _ ⟨_,_,_,s,_⟩=>.of (s _ _ h2)) ?_ ?_
   . rintro i y σ' X hy ⟨v,ps,rfl,sX,hX,rat⟩
     rw[List.getElem?_map,List.getElem?_map]at hy
     cases er:rs[i]? with
     | none=>rw[er]at hy;cases hy
     | some r=>
       rw[er]at hy
       obtain rfl:=(Option.some.inj hy).symm
       have hr':=List.mem_of_getElem? er
       have hi:=(List.getElem?_eq_some_iff.mp er).1
       obtain⟨qq,hv,hq⟩:=h4 r hr'
       have gz:Q7 X rd (.str r.1) (some (.ref qq)):=by
         have:=Q7.k (k:=(Sum.inr r.1:ja)) (sX _ _ h3)
         rw[hv]at this
         exact this
       refine⟨_,rfl,_,rfl,a,CG,dx,_,_,rfl,sX _ _ h1,C.cl,C.nr,lkR _ _,_,rfl,rd,_,rfl,gz,qq,_,rfl,.inl ⟨.of (sX _ _ hq),λp2 hp2=>⟨by show 2<=sizeLine;decide,λp3 hp3=>?_⟩⟩⟩
       have a3:Same X (upd (upd X p2 (.tup ((jQ rs r).map V.str))) p3 (.tup [.str r.1,.ref p2])):=(qj hp2).trans (qj hp3)
       have b2:upd (upd X p2 (.tup ((jQ rs r).map V.str))) p3 (.tup [.str r.1,.ref p2]) p2=some (.tup ((jQ rs r).map V.str)):=qk qd hp3
       have b3:upd (upd X p2 (.tup ((jQ rs r).map V.str))) p3 (.tup [.str r.1,.ref p2]) p3=some (.tup [.str r.1,.ref p2]):=qd
       generalize upd (upd X p2 (.tup ((jQ rs r).map V.str))) p3 (.tup [.str r.1,.ref p2])=X3 at a3 b2 b3
       have hX3:=a3 _ _ hX
       have lps:=rat.1
       rw[List.length_map,List.length_take]at lps
       refine⟨_,hX3,by rw[List.length_map];exact ql (by omega),_,ps++[p3],rfl,Same.upd (sX.trans a3) hD,by rw[List.map_append];exact qd,?_⟩
       rw[List.take_add_one,er,List.map_append]
       refine qL.upd_lst ?_ hX3
       exact qL.snoc (q:=p2) (rat.mono a3) b3 b2
   . rintro σ' X ⟨v,ps,rfl,sX,hX,rat⟩
     have e0:rs.take ((rs.map (·.1)).map V.str).length=rs:=List.take_of_length_le (by rw[List.length_map,List.length_map];exact Nat.le_refl _)
     rw[e0]at rat
     exact q D ps X sX hD hX rat
theorem Rt:qC ["row"] ["row"] (qo QI):=⟨rfl,rfl,rfl,by decide+kernel,rfl,by decide+kernel,by decide+kernel⟩
theorem Kb {f:Addr} {fd:FuncData} (F:Qj K "show_row" "show_row" QI f fd) (G:QB mg):qv P w K mg base jh 1 f fd ["row"] ki:=by
 refine F.okJ Rt (λvs H Q E h=>?_) (λcdv A outer s H vs Q E hr h=>?_)
 . obtain⟨p,q,r,rfl,_⟩:=h
   rfl
 . obtain⟨p,q,r,rfl,hp,hq,nr,l40,k⟩:=h
   refine⟨_,qh (qF (jm PySem.F.plainAttrs_str PySem.F.slot_str_join PySem.F.type_str_join jG qy (qb (qE Zy (qW (qb (qE qV (qU j3 (jv 0) qi (λ_ _=>rfl)) qy) qe)) (jT Jw (by rfl) G.lst boot_list (qb (qU j3 (jv 0) qi (λ_ _=>rfl)) qe))) qe))),?_⟩
   have l1:=JY nr.1
   refine⟨rfl,_,rfl,p,_,0,_,rfl,rfl,.of hp,rfl,_,_,rfl,rfl,?_,by show 1<=sizeLine;decide,λl1 f1=>?_⟩
   . rw[YI]
     exact Nat.le_of_lt (ql (by show r.1.length+1<=1000;omega))
   have s1:=qj (o:=HO.lst [V.str (r.1++Str.ofString ":")]) f1
   have h1:upd H l1 (HO.lst [V.str (r.1++Str.ofString ":")]) l1=some (.lst [V.str (r.1++Str.ofString ":")]):=qd
   generalize upd H l1 (HO.lst [V.str (r.1++Str.ofString ":")])=H1 at s1 h1
   refine⟨_,rfl,p,_,1,_,rfl,rfl,.of (s1 _ _ hp),rfl,q,_,rfl,.inr (.of (s1 _ _ hq)),λl2 f2=>?_⟩
   have s2:=qj (o:=HO.lst (r.2.map V.str)) f2
   have h2:upd H1 l2 (HO.lst (r.2.map V.str)) l2=some (.lst (r.2.map V.str)):=qd
   generalize upd H1 l2 (HO.lst (r.2.map V.str))=H2 at s2 h2
   refine⟨l1,l2,_,_,rfl,rfl,s2 _ _ h1,h2,Nat.le_of_lt (ql (by rw[List.length_map];show 1+_<=1000;omega)),λl3 f3=>?_⟩
   have s3:=qj (o:=HO.lst ([V.str (r.1++Str.ofString ":")]++r.2.map V.str)) f3
   refine⟨_,l3,(r.1++jV)::r.2,rfl,rfl,.of (by rw[<-YI];exact qd),?_,?_⟩
   . refine Zs (k:=2) ?_ (by decide+kernel)
     have h1:=zT nr
     have h2:=Zf (c:=32) (l:=(r.1++jV)::r.2) (by simp)
     have e:cw 32=2:=by decide
     rw[e]at h2
     rw[h2]
     show wt (qB r)+2<=_
     omega
   . rw[Q0,WJ]
     exact k _ ((s1.trans s2).trans s3)
theorem Ru:qC ["ground"] ["ground"] (qo YV):=⟨rfl,rfl,rfl,by decide+kernel,rfl,by decide+kernel,by decide+kernel⟩
theorem Q8 {rs:jK} (g:qG rs):∀r∈told rs,W0 r:=(Qf g).nmr
theorem zS {rs:jK} (g:qG rs) {r:Str×List Str} (h:r∈rs):r.2.length<=40:=by
 have:∀l:List Nat,∀x∈l,x<=l.sum:=λl=>by
   induction l with
   | nil=>intro x hx;cases hx
   | cons y l ih=>
     intro x hx
     rw[List.sum_cons]
     rcases List.mem_cons.mp hx with rfl | hx
     . omega
     . have:=ih x hx;omega
 exact Nat.le_trans (this _ _ (List.mem_map.mpr ⟨r,h,rfl⟩)) g.few
theorem yh {f fI CG fRw fSR:Addr} {fd fdI fdRw fdSR:FuncData} (F:Qj K "show_ground" "show_ground" YV f fd) (C:ua K mg CG fI fdI) (G:QB mg) (hRw:KJ K CG "rows" "Ground.rows" JU ["self"] fRw fdRw) (hS:jC K mg "show_row" QI ["row"] fSR fdSR):qv P w K mg base jh 2 f fd ["ground"] (Wm CG):=by
 have GRw:qv P w K mg base jh 1 fRw fdRw ["self"] (Zc CG):=Yk hRw.fn C G
 have GS:qv P w K mg base jh 1 fSR fdSR ["row"] ki:=Kb hS.fn G
 refine F.okJ Ru (λvs H Q E h=>?_) (λcdv A outer s H vs Q E hr h=>?_)
 . obtain⟨a,rs,rfl,_⟩:=h
   rfl
 . obtain⟨a,rs,rfl,gr,gd,le14,k⟩:=h
   have r1:qZ 1 _:=hr.mono (by decide)
   refine⟨_,qh (qF (jm PySem.F.plainAttrs_str PySem.F.slot_str_join PySem.F.type_str_join jG qy (qb (Qp (N':=["row"]) (ix:=[none]) (te:=Jz ki [] E0 (jc (jd 0) jJ)) rfl ⟨rfl,rfl,rfl,rfl,rfl⟩ (qY (yM hRw C.cl GRw r1 (jv 0))) (λC s2 H2 fp pins=>
       ⟨qz (i:=0) (W6 _) rfl (Or.inl rfl),jt,qQ hS GS hr (by rfl) (qb (jv 0) qe)⟩)) qe))),?_⟩
   obtain⟨dx,lo,rd,kvs,h1,_⟩:=id gr
   refine⟨rfl,_,rfl,a,dx,_,rfl,h1,Kk _ _,a,rs,rfl,gr,le14,λl ps H1 s1 nl hl rat=>?_⟩
   refine⟨l,rfl,⟨_,.of hl⟩,λD hD=>?_⟩
   have lt:(told rs).length=rs.length:=List.length_map ..
   have e1:ps.map V.ref=(ps.zip (told rs)).map λx=>V.ref x.1:=by
     rw[show (λx:Addr×(Str×List Str)=>V.ref x.1)=V.ref ∘ Prod.fst from rfl,<-List.map_map,List.map_fst_zip (by rw[rat.1];exact Nat.le_refl _)]
   rw[e1]at hl
   refine XT (K:=K) (a:=l) (xs:=ps.zip (told rs)) (enc:=λx=>V.ref x.1) (out:=λx=>some (V.str (qB x.2))) (rest:=[]) hD hl (ql (by rw[List.length_zip,rat.1];omega)) (λx hx Y sY Rr hR=>hR Y (Same.refl Y)) (λx hx v ev Y sY Rr hR=>?_) (λH5 s5 hW5=>?_)
   . cases ev
     obtain⟨i,e⟩:=List.getElem?_of_mem hx
     obtain⟨e2,e3⟩:=List.getElem?_zip_eq_some.mp e
     obtain⟨q,a1,a2⟩:=rat.2 i _ _ e2 e3
     have hm:=List.mem_of_getElem? e3
     exact⟨_,rfl,x.1,q,x.2,rfl,sY _ _ a1,sY _ _ a2,Q8 gd _ hm,zS (Qf gd) hm,λY2 s2=>hR Y2 s2⟩
   . have em:(ps.zip (told rs)).filterMap (λx=>some (V.str (qB x.2)))=((told rs).map qB).map V.str:=by
       rw[show (λx:Addr×(Str×List Str)=>some (V.str (qB x.2)))=(λx=>some ((λr:Str×List Str=>V.str (qB r)) x.2)) from rfl]
       rw[show (λx:Addr×(Str×List Str)=>some ((λr:Str×List Str=>V.str (qB r)) x.2))=(some ∘ λx:Addr×(Str×List Str)=>(λr:Str×List Str=>V.str (qB r)) x.2) from rfl,List.filterMap_eq_map]
       rw[show (λx:Addr×(Str×List Str)=>(λr:Str×List Str=>V.str (qB r)) x.2)=(λr:Str×List Str=>V.str (qB r)) ∘ Prod.snd from rfl,<-List.map_map,List.map_snd_zip (by rw[rat.1];exact Nat.le_refl _),List.map_map]
       rfl
     rw[em]at hW5
     refine⟨_,D,(told rs).map qB,rfl,rfl,.of hW5,?_,?_⟩
     . refine Zs (k:=1) ?_ (by decide+kernel)
       have:=ZR (Q8 gd)
       have:=(Qf gd).few
       have:QX (told rs)<=40:=this
       omega
     . rw[Q0,yD]
       exact k _ (s1.trans s5)
end
end Rh
set_option Elab.async false
set_option linter.all false
set_option maxRecDepth 100000
set_option maxHeartbeats 4000000
/-! GROUNDS READ. -/
namespace Rh
open PySem L2 PyProof.Rows
/-- rows of the right form,however many -/
structure xA (H:Hp) (l:Addr) (ps:List Addr) (rs:jK):Prop where
 at_:H l=some (.lst (ps.map V.ref))
 rows:qL H ps rs
 nm:∀r∈rs,W0 r
 len:∀r∈rs,r.2.length<=900
 pos:0 < rs.length
 le:rs.length<=1000
theorem xA.mono {H H':Hp} {l:Addr} {ps:List Addr} {rs:jK} (h:xA H l ps rs) (s:Same H H'):xA H' l ps rs:=⟨s _ _ h.at_,h.rows.mono s,h.nm,h.len,h.pos,h.le⟩
theorem Wx {K:PySem.W.Frag} {c:C4} {H:Hp} {l:Addr} {ps:List Addr} {rs:jK} {E:XK} {x:Zk} (g:xA H l ps rs) (h:YK rs x) (o:zB c E H x):xB K c (.ref l) H E:=by
 rcases h with ⟨h,rfl⟩ | ⟨le,h⟩
 . have e:=g.rows.1
   exact .inl (.inr (.inr (.inl ⟨l,_,rfl,g.at_,by rw[List.length_map,e];exact h,by rw[List.length_map,e];exact g.le,by rw[List.length_map,e];exact o⟩)))
 . refine .inr ⟨l,ps,rs,rfl,⟨g.at_,g.rows,λr hr=>(g.nm r hr).1,λr hr=>(g.nm r hr).2,g.len,g.pos,le⟩,?_⟩
   rcases h with ⟨i,z,e,m,nd,rfl⟩ | ⟨nd,k,r',e,pre,i,z,e2,n2,t2,h⟩ | ⟨nd,all,big,rfl⟩
   . exact .inl ⟨i,z,e,m,nd,o⟩
   . refine .inr (.inl ⟨nd,k,r',e,pre,i,z,e2,n2,t2,?_⟩)
     rcases h with ⟨h,rfl⟩ | ⟨h,h2,rfl⟩
     . exact .inl ⟨h,o⟩
     . exact .inr ⟨h,h2,o⟩
   . exact .inr (.inr ⟨nd,all,big,o⟩)
def Xv (K:PySem.W.Frag) (CG:Addr) (c:C4):Sp:=λvs H Q E=>∃v,vs=[v]/\
 ((∃d,DH K H v d/\GJ d=false/\zB c E H (.text 0))\/
  (∃(z:Str) (i:Nat),v=.str z/\z.length<=1000/\FB (Txt.split z Qe) i/\zB c E H (.text i))\/
  (∃(z:Str) (rs:jK),v=.str z/\z.length<=1000/\QP (Txt.split z Qe) rs/\
    ((∃x,YK rs x/\zB c E H x)\/(qG rs/\rs.length<=14/\∀H' a,Same H H'->W1 CG H' a rs->Q (.ref a) H'))))
theorem XU {ls:List Str} {rs:jK} (h:QP ls rs) {i:Nat} {l:Str} (e:ls[i]?=some l):∃r,rs[i]?=some r/\QR l r:=by
 rw[h.1,List.getElem?_map]at e
 cases er:rs[i]? with
 | none=>rw[er]at e;cases e
 | some r=>
   rw[er]at e
   obtain rfl:=Option.some.inj e
   exact⟨r,rfl,QJ.mpr ⟨h.2 r (List.mem_of_getElem? er),rfl⟩⟩
theorem Wt {z:Str} {r:Str×List Str} (h:QR z r) (l:z.length<=1000):r.2.length<=900:=by
 have h1:∀l:List Str,(∀x∈l,qw x=true)->2*l.length<=(l.map (·.length)).sum+l.length:=λl=>by
   induction l with
   | nil=>intro _;exact Nat.le_refl _
   | cons x l ih=>
     intro h
     have a:=ih λy hy=>h y (List.mem_cons_of_mem _ hy)
     have b:=(QL (h x List.mem_cons_self)).2.2
     rw[List.map_cons,List.sum_cons,List.length_cons]
     omega
 have h2:=h1 r.2 h.2.1
 have h3:z.length=((r.1++jV).length+(r.2.map (·.length)).sum)+r.2.length:=by
   rw[h.2.2,<-Q0,show Txt.join QA ((r.1++jV)::r.2)=Builtin.Str.glued QA ((r.1++jV)::r.2) from rfl,size_glued,List.map_cons,List.sum_cons,List.length_cons]
   show _+(r.2.length+1 - 1)*1=_
   omega
 omega
theorem zf {z:Str} {rs:jK} (h:QP (Txt.split z Qe) rs) (l:z.length<=1000):rs.length<=1000:=by
 have h1:∀qs:jK,(∀r∈qs,W0 r)->qs.length<=((qs.map qB).map (·.length)).sum:=λqs=>by
   induction qs with
   | nil=>intro _;exact Nat.le_refl _
   | cons r qs ih=>
     intro h
     have a:=ih λy hy=>h y (List.mem_cons_of_mem _ hy)
     have b:1<=(qB r).length:=by
       have c:=Yt (c:=32) (l:=(r.1++jV)::r.2) (x:=r.1++jV) List.mem_cons_self
       have e:(r.1++jV).length=r.1.length+1:=Str.length_append _ _
       show 1<=(Str.join ⟨#[32]⟩ ((r.1++jV)::r.2)).length
       omega
     rw[List.map_cons,List.map_cons,List.sum_cons,List.length_cons]
     omega
 have h2:=h1 rs h.2
 have h3:z.length=((rs.map qB).map (·.length)).sum+((rs.map qB).length - 1)*1:=by
   rw[<-StrLaws.join_split z Qe,h.1,<-Q0]
   exact size_glued Qe (rs.map qB)
 omega
section
variable {P:Program} {w:World} {K:PySem.W.Frag} {mg:Str->Option Value} {base:Heap}
abbrev nRd:List Str:=["text","lines","number","line"]
theorem xY:qC nRd ["text"] (qo Wp):=⟨rfl,rfl,rfl,by decide+kernel,rfl,by decide+kernel,by decide+kernel⟩
theorem wn {f CG D fW fN fL fO:Addr} {c:C4} {fd fdW fdN fdL fdO:FuncData} (F:Qj K "read_ground" "read_ground" Wp f fd) (B:Zu mg) (G:QB mg) (T:Q6 K mg) (N:XZ K mg) (hcl:∃fI fdI,ua K mg CG fI fdI) (hW:jC K mg "need_rows" Zp ["rows"] fW fdW)
   (hN:jC K mg "is_name" QW ["thing"] fN fdN) (hL:jC K mg "is_line" Zd ["line"] fL fdL) (hO:jC K mg "row_of" zb ["line"] fO fdO) (X4:xD K mg D c):qv P w K mg base (QT P w) 8 f fd ["text"] (Xv K CG c):=by
 obtain⟨fI,fdI,C⟩:=hcl
 obtain⟨fx,fdx,xx⟩:=X4.x
 have Gx:qv P w K mg base jh 1 fx fdx ["self","row"] (YS c.x "row"):=RL xx
 have GL:qv P w K mg base jh 2 fL fdL ["line"] z6:=vd hL.fn B T hN
 have GO:qv P w K mg base jh 1 fO fdO ["line"] Xu:=yi hO.fn G
 have GI:qv P w K mg base (QT P w) 6 fI fdI ["self","rows"] (λvs H Q E=>ZI CG vs H Q E\/V8 K c vs H Q E):=(WC C B G T N hW).toX.either (Y6 C B G T N hW X4)
 refine F.okX xY (λvs H Q E h=>?_) (λcdv A outer s H vs Q E hr h=>?_)
 . obtain⟨v,rfl,_⟩:=h
   rfl
 . obtain⟨v,rfl,h⟩:=h
   have r1:qZ 1 _:=hr.mono (by decide)
   have r2:qZ 2 _:=hr.mono (by decide)
   refine⟨_,qf (qK (j9 (jL (qm ju (by rfl) T.isi boot_isinstance (qb (jv 0) (qb (Qy (v:=.ty "str") (by rfl) T.str boot_str rfl) qe))))) (qh (Qa rfl Je (Qb xx.mkr Gx r2 (by rfl) xx.ns xx.bi JX (qb qi qe)))) qu)
     (qf (qr (i:=1) xY.nd rfl (Or.inl rfl) (jm PySem.F.plainAttrs_str PySem.F.slot_str_split PySem.F.type_str_split Qo (jv 0) (qb qy qe)))
     (qf (ZT (t:=UV (yY K (jc (jd 1) jJ)) (xc K 2 (ZX (jH 2) (ZX (jH 3) xf))) (YD (vV (tB (Jz z6 [] E0 (jc (jd 3) jJ)))) (ze K E (vW c.x (YS c.x "row") E0 (jc (jd 2) jJ))) JM)) λpn W hO' hP' hR'=>
       jw hO' rfl (zU (by rfl) T.enu (qb (jv 1) qe)) (J5 rfl (ji (qz (i:=2) xY.nd rfl (Or.inl rfl)) (ji (qz (i:=3) xY.nd rfl (Or.inl rfl)) Q1)))
       (qh (qK (j9 (jL (qQ hL GL r2 (by rfl) (qb (jv 3) qe)))) (qh (Qa rfl hR' (Qb xx.mkr Gx r2 (by rfl) xx.ns xx.bi JX (qb (jv 2) qe)))) qu)))
     (qh (qF (wJ C.mkr GI hr (by rfl) C.ns C.bi .nil QD (qb (Qp (N':=["line"]) (ix:=[none]) (te:=Jz Xu [] E0 (jc (jd 0) jJ)) rfl ⟨rfl,rfl,rfl,rfl,rfl⟩ (qY (jv 1)) (λC s2 H2 fp pins=>
       ⟨qz (i:=0) (W6 _) rfl (Or.inl rfl),jt,qQ hO GO r1 (by rfl) (qb (jv 0) qe)⟩)) qe)))))),?_⟩
   have g0:∀{H':Hp} {i:Nat},zB c E H' (.text i)->∀e,H' e=none->YS c.x "row" [.ref e,.int (i:Nat)] (upd H' e (Za e c.x)) (λv H2=>v=.non/\∃a C dx,V.ref e=.ref a/\H2 a=some (QO a C dx)/\XX K C/\E (.ref C) (some dx) H2) E0:=λ{_ i} o=>j5 (C:=c.x) (.text i) xx o
   rcases h with ⟨d,hd,ns,o⟩ | h
   . refine⟨_,rfl,_,_,_,_,rfl,rfl,hd.ty,uv d,_,rfl,?_⟩
     rw[ns]
     exact QM ⟨by show 1<=sizeLine;decide,g0 (i:=0) o⟩
   obtain⟨z,rfl,l1⟩:∃z,v=.str z/\z.length<=1000:=by
     rcases h with ⟨z,i,e,l,_⟩ | ⟨z,rs,e,l,_⟩
     . exact⟨z,e,l⟩
     . exact⟨z,e,l⟩
   refine⟨_,rfl,_,_,_,_,rfl,rfl,ZD.str z,T.kss,_,rfl,jn ?_⟩
   refine⟨_,rfl,rfl,z,_,rfl,rfl,by decide+kernel,l1,λl fl=>?_⟩
   rw[yD]
   have s1:=qj (o:=HO.lst ((Txt.split z Qe).map V.str)) fl
   have y1:upd H l (HO.lst ((Txt.split z Qe).map V.str)) l=some (.lst ((Txt.split z Qe).map V.str)):=qd
   generalize upd H l (HO.lst ((Txt.split z Qe).map V.str))=H1 at s1 y1
   have mem:∀x∈Txt.split z Qe,x.length<=1000:=λx hx=>Nat.le_trans (Qg (c:=10) hx) l1
   have many:(Txt.split z Qe).length<=1001:=by have:=QH z 10;show (Txt.split z ⟨#[10]⟩).length<=_;omega
   refine⟨_,rfl,l,rfl,⟨_,.of y1⟩,?_⟩
   rcases h with ⟨z',i0,e,_,fb,o⟩ | ⟨z',rs,e,_,ar,h⟩
   . obtain rfl:=V.str.inj e
     obtain⟨⟨l0,e0,bad⟩,pre⟩:=fb
     refine QN (K:=K) (a:=l) (xs:=(Txt.split z Qe).map V.str) (λi σ' H'=>(∃v1 v2,σ'=[some (.str z),some (.ref l),v1,v2])/\Same H1 H'/\i<=i0) ⟨⟨none,none,rfl⟩,Same.refl H1,Nat.zero_le _⟩ (λi σ' H' _ ⟨_,s,_⟩=>.of (s _ _ y1)) ?_ ?_
     . rintro i x σ' H' p hx hp ⟨⟨v1,v2,rfl⟩,s2,hi⟩
       have s3:=s2.trans (qj (o:=.tup [.int (i:Nat),x]) hp)
       obtain⟨y,ey,hy,rfl⟩:=Qu hx
       refine⟨p,_,rfl,.of qd,rfl,_,_,rfl,_,_,rfl,rfl,_,rfl,y,rfl,mem y hy,λb H2 s4 hb=>⟨_,rfl,?_⟩⟩
       rcases Nat.lt_or_ge i i0 with c0 | c0
       . rw[hb.mpr (pre i y c0 ey)]
         exact jn ⟨⟨_,_,rfl⟩,s3.trans s4,c0⟩
       . have ei:i=i0:=by omega
         subst ei
         rw[ey]at e0
         obtain rfl:=Option.some.inj e0
         cases b with
         | true=>exact absurd (hb.mp rfl) bad
         | false=>exact QM ⟨_,rfl,by show 1<=sizeLine;decide,g0 (o.mono (s1.trans (s3.trans s4)))⟩
     . rintro σ' H' ⟨_,_,hi⟩
       have:=(List.getElem?_eq_some_iff.mp e0).1
       rw[List.length_map]at hi
       omega
   . obtain rfl:=V.str.inj e
     refine QN (K:=K) (a:=l) (xs:=(Txt.split z Qe).map V.str) (λi σ' H'=>(∃v1 v2,σ'=[some (.str z),some (.ref l),v1,v2])/\Same H1 H') ⟨⟨none,none,rfl⟩,Same.refl H1⟩ (λi σ' H' _ ⟨_,s⟩=>.of (s _ _ y1)) ?_ ?_
     . rintro i x σ' H' p hx hp ⟨⟨v1,v2,rfl⟩,s2⟩
       have s3:=s2.trans (qj (o:=.tup [.int (i:Nat),x]) hp)
       obtain⟨y,ey,hy,rfl⟩:=Qu hx
       refine⟨p,_,rfl,.of qd,rfl,_,_,rfl,_,_,rfl,rfl,_,rfl,y,rfl,mem y hy,λb H2 s4 hb=>⟨_,rfl,?_⟩⟩
       obtain⟨r,_,hr'⟩:=XU ar ey
       rw[hb.mpr ⟨r,hr'⟩]
       exact jn ⟨⟨_,_,rfl⟩,s3.trans s4⟩
     . rintro σ' H2 ⟨⟨v1,v2,rfl⟩,s2⟩
       have y2:=s2 _ _ y1
       have ll:(Txt.split z Qe).length=rs.length:=by rw[ar.1,List.length_map]
       refine⟨_,rfl,l,rfl,⟨_,.of y2⟩,λW hW=>?_⟩
       refine jN (K:=K) (a:=l) (xs:=(Txt.split z Qe).map V.str) (λi σ' H'=>∃(v:Option V) (ps:List Addr),σ'=[v]/\Same H2 H'/\H' W=some (.lst (ps.map V.ref))/\qL H' ps (rs.take i))
         ⟨none,[],rfl,qj hW,qd,rfl,λi p r e=>(nomatch e)⟩ (λi σ' H' _ ⟨_,_,_,s,_⟩=>.of (s _ _ y2)) ?_ ?_
       . rintro i x σ' X hx ⟨v,ps,rfl,sX,hX,rat⟩
         obtain⟨y,ey,hy,rfl⟩:=Qu hx
         obtain⟨r,er,hr'⟩:=XU ar ey
         have hi:=(List.getElem?_eq_some_iff.mp er).1
         refine⟨_,rfl,y,r,rfl,mem y hy,hr',λX3 p q a3 b3 b2=>?_⟩
         have hX3:=a3 _ _ hX
         have lps:=rat.1
         rw[List.length_take]at lps
         refine⟨_,hX3,by rw[List.length_map];exact Nat.lt_of_le_of_lt (by omega:ps.length<=1001) (by decide),_,ps++[p],rfl,Same.upd (sX.trans a3) hW,by rw[List.map_append];exact qd,?_⟩
         rw[jp er]
         exact qL.upd_lst (qL.snoc (q:=q) (rat.mono a3) b3 b2) hX3
       . rintro σ' X ⟨v,ps,rfl,sX,hX,rat⟩
         rw[List.length_map,ll,List.take_of_length_le (Nat.le_refl _)]at rat
         have s4:=(s1.trans s2).trans sX
         have pos:0 < rs.length:=by
           rw[<-ll]
           exact List.length_pos_iff.mpr (Qn _ _)
         rcases h with ⟨x,hx,o⟩ | ⟨gd,le,q⟩
         . intro a dx ha hdx ndx
           refine .inr ⟨.ref a,.ref W,rfl,?_⟩
           have s5:Same X (upd (upd X dx (.own a)) a (.ins CG dx [])):=λb u hb=>by
             rw[qg (qt hb ha),qg (qt hb hdx)]
             exact hb
           have sm:=zf ar l1
           . refine Wx (ps:=ps) (rs:=rs) ⟨s5 _ _ hX,rat.mono s5,ar.2,λr hr'=>?_,pos,sm⟩ hx (o.mono (s4.trans s5))
             obtain⟨i,er⟩:=List.getElem?_of_mem hr'
             have el:(Txt.split z Qe)[i]?=some (qB r):=by rw[ar.1,List.getElem?_map,er];rfl
             exact Wt (QJ.mpr ⟨ar.2 r hr',rfl⟩) (mem _ (List.mem_of_getElem? el))
         . exact λa dx ha hdx ndx=>.inl (Yn hX rat gd pos le ha hdx ndx λH4 s6 gr=>q H4 a (s4.trans s6) gr)
end
end Rh
set_option Elab.async false
set_option linter.all false
set_option maxRecDepth 100000
set_option maxHeartbeats 4000000
/-! THE LAW'S ROWS. -/
namespace Rh
open PySem L2 PyProof.Rows
theorem wU:(Str.ofString "a").cps.toList=[97]:=by decide+kernel
theorem xK:(Str.ofString "z").cps.toList=[122]:=by decide+kernel
theorem yx (a b:Nat):decide (([a]:List Nat) < [b])=decide (a < b):=by
 rw[Bool.eq_iff_iff]
 simp [List.cons_lt_cons_iff]
theorem vA (l:List Nat) (i c:Nat) (h:l[i]?=some c):(l.take (i+1)).filter qO=(l.take i).filter qO++[c].filter qO:=by rw[jp h,List.filter_append]
def Vn:Sp:=λvs H Q _=>∃z:Str,vs=[.str z]/\z.length<=1000/\∀H',Same H H'->Q (.bl (qw z)) H'
def km:Sp:=λvs H Q _=>∃z:Str,vs=[.str z]/\z.length<=1000/\((∃r,QR z r/\∀H' p q,Same H H'->H' p=some (.tup [.str r.1,.ref q])->H' q=some (.tup (r.2.map V.str))->Q (.ref p) H')\/((¬∃r,QR z r)/\∀H',Same H H'->Q .non H'))
section
variable {P:Program} {w:World} {K:PySem.W.Frag} {mg:Str->Option Value} {base:Heap}
theorem K6:qC ["_law_word"] ["_law_word"] (qo YW):=⟨rfl,rfl,rfl,by decide+kernel,rfl,by decide+kernel,by decide+kernel⟩
theorem Kd {f:Addr} {fd:FuncData} (F:Qj K "_law_is_name" "_law_is_name" YW f fd) (B:Zu mg):qv P w K mg base jh 1 f fd ["_law_word"] Vn:=by
 refine F.okJ K6 (λvs H Q E h=>?_) (λcdv A outer s H vs Q E hr h=>?_)
 . obtain⟨z,rfl,_⟩:=h
   rfl
 . obtain⟨z,rfl,hz,q⟩:=h
   have hz':z.length<=sizeLine:=Nat.le_of_lt (ql hz)
   refine⟨_,qh (qF (zx (yO Qd Qd qi (qm jf (by rfl) B.len boot_len (qb (jv 0) qe)) qi)
     (zw (Zg jz (qm qH (by rfl) B.len boot_len (qb (Qp (N':=["_law_sign"]) (ix:=[none]) rfl ⟨rfl,rfl,rfl,rfl,rfl⟩ (VE (jv 0)) (λC s2 H2 fp pins=>
         ⟨qz (i:=0) (W6 _) rfl (Or.inl rfl),ZS (yE Y3 Y3 qy (jv 0) qy),jv 0⟩)) qe))
       (qm jf (by rfl) B.len boot_len (qb (jv 0) qe)) (qA _))))),?_⟩
   refine⟨_,rfl,z,rfl,hz',_,_,rfl,rfl,_,rfl,?_⟩
   refine J6 (λh1=>?_) (λh1=>?_)
   . have l1:(0:Int) < (z.length:Int):=of_decide_eq_true h1
     refine⟨_,_,rfl,rfl,_,rfl,?_⟩
     refine J6 (λh2=>?_) (λh2=>?_)
     . have l8:(z.length:Int) < 9:=by simpa using h2
       refine⟨_,rfl,z,rfl,λD hD=>?_⟩
       refine XR (λi σ' H'=>∃v,σ'=[v]/\H'=upd H D (.lst (((z.cps.toList.take i).filter qO).map λc=>V.str ⟨#[c]⟩))) ⟨none,rfl,rfl⟩ ?_ ?_
       . rintro i c σ' H' hc ⟨v,rfl,rfl⟩
         have hc':z.cps.toList[i]?=some c:=by simpa using hc
         have ef:=vA z.cps.toList i c hc'
         have e1:(!decide (([c]:List Nat) < (Str.ofString "a").cps.toList))=decide (97<=c):=by
           rw[wU,yx,Bool.eq_iff_iff]
           simp
         have e2:(!decide ((Str.ofString "z").cps.toList < ([c]:List Nat)))=decide (c<=122):=by
           rw[xK,yx,Bool.eq_iff_iff]
           simp
         have no:qO c=false->∃v',([some (V.str ⟨#[c]⟩)]:L2.St)=[v']/\upd H D (.lst (((z.cps.toList.take i).filter qO).map λc=>V.str ⟨#[c]⟩))=upd H D (.lst (((z.cps.toList.take (i+1)).filter qO).map λc=>V.str ⟨#[c]⟩)):=λhl=>by
           rw[ef,List.filter_cons,hl]
           refine⟨_,rfl,?_⟩
           simp
         refine⟨_,rfl,_,_,rfl,rfl,_,rfl,?_⟩
         refine J6 (λh3=>?_) (λh3=>?_)
         . have h3':decide (97<=c)=true:=e1.symm.trans h3
           refine⟨_,_,rfl,rfl,_,rfl,?_⟩
           refine J6 (λh4=>?_) (λh4=>?_)
           . have h4':decide (c<=122)=true:=e2.symm.trans h4
             have hl:qO c=true:=by unfold qO;rw[h3',h4'];rfl
             refine⟨_,rfl,_,qd,?_,_,rfl,?_⟩
             . rw[List.length_map]
               refine Nat.lt_of_le_of_lt (List.length_filter_le _ _) ?_
               rw[List.length_take]
               exact Nat.lt_of_le_of_lt (Nat.min_le_right _ _) (ql (show z.cps.toList.length<=1000 by rw[Array.length_toList];exact hz))
             . rw[jx,ef,List.filter_cons,hl]
               simp
           . have h4':decide (c<=122)=false:=e2.symm.trans (by simpa using h4)
             exact no (by unfold qO;rw[h3',h4'];rfl)
         . have h3':decide (97<=c)=false:=e1.symm.trans (by simpa using h3)
           exact⟨_,rfl,jn (no (by unfold qO;rw[h3'];rfl))⟩
       . rintro σ' H' ⟨v,rfl,rfl⟩
         have e0:z.cps.toList.take z.cps.size=z.cps.toList:=List.take_of_length_le (by simp)
         refine⟨D,_,rfl,.inl (.of qd),_,rfl,z,rfl,hz',rfl,?_⟩
         rw[e0,List.length_map]
         have e1:decide (V.int (((z.cps.toList.filter qO).length:Nat):Int)=V.int ((z.length:Nat):Int))=qw z:=by
           have hl:z.length=z.cps.toList.length:=by simp [Str.length]
           have e2:qw z=z.cps.toList.all qO:=by
             unfold qw
             rw[decide_eq_true (by omega:1<=z.length),decide_eq_true (by omega:z.length<=8)]
             rfl
           rw[e2,hl,Bool.eq_iff_iff]
           simp only[decide_eq_true_eq,V.int.injEq]
           constructor
           . intro h
             have h':(z.cps.toList.filter qO).length=z.cps.toList.length:=by omega
             rw[List.length_filter_eq_length_iff]at h'
             exact List.all_eq_true.mpr h'
           . intro h
             have h':(z.cps.toList.filter qO).length=z.cps.toList.length:=List.length_filter_eq_length_iff.mpr (List.all_eq_true.mp h)
             rw[h']
         rw[e1]
         exact q _ (qj hD)
     . have l8:¬(z.length:Int) < 9:=by simpa using h2
       have e1:qw z=false:=by
         unfold qw
         rw[decide_eq_false (by omega:¬z.length<=8),Bool.and_false]
         rfl
       have:=q H (Same.refl H)
       rw[e1]at this
       exact this
   . have l1:¬(0:Int) < (z.length:Int):=λx=>h1 (decide_eq_true x)
     refine⟨_,rfl,jn ?_⟩
     have e1:qw z=false:=by
       unfold qw
       rw[decide_eq_false (by omega:¬1<=z.length)]
       rfl
     have:=q H (Same.refl H)
     rw[e1]at this
     exact this
theorem kE:qC ["_law_line","_law_words"] ["_law_line"] (qo Wq):=⟨rfl,rfl,rfl,by decide+kernel,rfl,by decide+kernel,by decide+kernel⟩
theorem wv {f fN:Addr} {fd fdN:FuncData} (F:Qj K "_law_row" "_law_row" Wq f fd) (B:Zu mg) (G:QB mg) (hN:jC K mg "_law_is_name" YW ["_law_word"] fN fdN):qv P w K mg base jh 2 f fd ["_law_line"] km:=by
 have GN:qv P w K mg base jh 1 fN fdN ["_law_word"] Vn:=Kd hN.fn B
 refine F.okJ kE (λvs H Q E h=>?_) (λcdv A outer s H vs Q E hr h=>?_)
 . obtain⟨z,rfl,_⟩:=h
   rfl
 . obtain⟨z,rfl,l1,q⟩:=h
   have hu:=hr.units0
   have hr1:qZ 1 _:=hr.mono (by decide)
   refine⟨_,qf (qr (i:=1) kE.nd rfl (Or.inl rfl) (jm PySem.F.plainAttrs_str PySem.F.slot_str_split PySem.F.type_str_split Qo (jv 0) (qb qy qe)))
     (qf (qK (JW.pt (QZ (qp Yh (qM Qw (qU je (jv 1) (qi) (λ_ _=>rfl)) (qS (yJ W8 qi)) qT) (qy) (qA _)) (j7 (j9 (jL (qQ hN GN hr1 (by rfl) (qb (qM Qw (qU je (jv 1) (qi) (λ_ _=>rfl)) qT (qS (yJ W8 qi))) qe))))))) (qh (qF Yv)) qu)
     (qf (qK (qp (Um hu) (Qp (N':=["_law_word"]) (ix:=[none]) (tt:=vV (tB (Jz Vn [] E0 (jc (jd 0) jJ)))) rfl ⟨rfl,rfl,rfl,rfl,rfl⟩ (qY (qM jF (jv 1) (qS qi) qT)) (λC s2 H2 fp pins=>
       ⟨qz (i:=0) (W6 _) rfl (Or.inl rfl),ZS (j9 (jL (qQ hN GN hr1 (by rfl) (qb (jv 0) qe)))),jv 0⟩)) (qW qe) (qA _)) (qh (qF Yv)) qu)
     (qh (qF (Q5 (qb (qM Qw (qU je (jv 1) (qi) (λ_ _=>rfl)) qT (qS (yJ W8 qi))) (qb (jT Qm (by rfl) G.tup boot_tuple (qb (qM jF (jv 1) (qS qi) qT) qe)) qe))))))),?_⟩
   refine⟨_,rfl,rfl,z,_,rfl,rfl,by decide+kernel,l1,λl hl=>?_⟩
   rw[WJ]
   have s1:=qj (o:=HO.lst ((Txt.split z QA).map V.str)) hl
   have y1:upd H l (HO.lst ((Txt.split z QA).map V.str)) l=some (.lst ((Txt.split z QA).map V.str)):=qd
   generalize upd H l (HO.lst ((Txt.split z QA).map V.str))=H1 at s1 y1
   have mem:∀x∈Txt.split z QA,x.length<=1000:=λx hx=>Nat.le_trans (Qg (c:=32) hx) l1
   have many:(Txt.split z QA).length<=1001:=by have:=QH z 32;show (Txt.split z ⟨#[32]⟩).length<=_;omega
   cases ew:Txt.split z QA with
   | nil=>exact absurd ew (Qn _ _)
   | cons w0 ws=>
     rw[ew]at y1 mem many
     have m0:=mem w0 List.mem_cons_self
     have no:(¬∃r,QR z r)->∀H',Same H H'->Q .non H':=λh H' s'=>by
       rcases q with ⟨r,hr',_⟩ | ⟨_,q⟩
       . exact absurd ⟨r,hr'⟩ h
       . exact q H' s'
     refine⟨_,rfl,l,_,0,.str w0,rfl,rfl,.of y1,zZ,_,rfl,-1,rfl,w0,rfl,m0,rfl,_,rfl,?_⟩
     by_cases c0:Txt.slice w0 (some (-1)) none=jV
     . obtain⟨n,rfl⟩:=Yp.mp c0
       refine qJ (by rw[c0,YI];rfl) ⟨_,rfl,l,_,0,.str (n++jV),rfl,rfl,.of y1,zZ,_,rfl,-1,rfl,n++jV,rfl,m0,n,by rw[Zj];rfl,?_,λH2 s2=>⟨_,rfl,?_⟩⟩
       . have:(n++jV).length=n.length+1:=Str.length_append _ _
         omega
       cases cn:qw n with
       | false=>
         refine QM (no (λ⟨r,h⟩=>?_) H2 (s1.trans s2))
         have e:=zg h
         rw[ew]at e
         have e1:=(List.cons.inj e).1
         have e2:n=r.1:=by rw[<-Zj n,e1,Zj]
         rw[e2,h.1]at cn
         cases cn
       | true=>
         have y2:=s2 _ _ y1
         have ec:Jv (((n++jV)::ws).map V.str) (some (1:Int)) none=ws.map V.str:=by
           unfold Jv
           rw[HT.sIx_none,show (1:Int)=((1:Nat):Int) from rfl,HT.sIx_nat,List.length_map,List.length_cons,Nat.min_eq_left (by omega),List.map_cons,List.drop_succ_cons,List.drop_zero,List.take_of_length_le (by rw[List.length_map];omega)]
         refine jn ⟨_,rfl,1,rfl,l,_,rfl,.of y2,λl3 f3=>?_⟩
         rw[ec]
         have s3:=qj (o:=HO.lst (ws.map V.str)) f3
         have y3:upd H2 l3 (HO.lst (ws.map V.str)) l3=some (.lst (ws.map V.str)):=qd
         generalize upd H2 l3 (HO.lst (ws.map V.str))=H3 at s3 y3
         rw[List.length_cons]at many
         refine⟨l3,rfl,⟨_,.of y3⟩,λD hD=>?_⟩
         refine XT (K:=K) (a:=l3) (xs:=ws) (enc:=V.str) (out:=λx=>if qw x=true then none else some (V.str x)) (rest:=[]) hD y3 (Z6 (by omega)) (λx hx Y sY Rr hR=>?_) (λx hx v ev Y sY Rr hR=>?_) (λH5 s5 hW5=>?_)
         . refine⟨_,rfl,x,rfl,mem x (List.mem_cons_of_mem _ hx),λY2 s2'=>⟨_,rfl,?_⟩⟩
           have:=hR Y2 s2'
           cases cx:qw x with
           | true=>rw[cx,if_pos rfl]at this;exact this
           | false=>rw[cx,if_neg Bool.false_ne_true]at this;exact this
         . split at ev
           . cases ev
           . cases ev
             exact⟨_,rfl,hR Y (Same.refl Y)⟩
         . refine⟨by show 0<=sizeLine;exact Nat.zero_le _,λp5 f5=>?_⟩
           have s6:=qj (o:=HO.lst []) f5
           refine⟨D,p5,_,rfl,rfl,.of (s6 _ _ hW5),.of qd,_,rfl,?_⟩
           have s16:=((s1.trans s2).trans s3).trans (s5.trans s6)
           have y6:=s6 _ _ (s5 _ _ (s3 _ _ y2))
           generalize upd H5 p5 (HO.lst [])=H6 at s6 s16 y6
           by_cases hall:∀x∈ws,qw x=true
           . have e0:ws.filterMap (λx=>if qw x=true then none else some (V.str x))=[]:=by
               rw[List.filterMap_eq_nil_iff]
               intro x hx
               rw[hall x hx,if_pos rfl]
             rw[e0]
             have rl:QR z (n,ws):=vK ew cn hall
             rcases q with ⟨r,hr',q⟩ | ⟨h,_⟩
             . obtain rfl:=rl.uniq hr'
               refine jn ⟨_,rfl,l,_,0,.str (n++jV),rfl,rfl,.of y6,zZ,_,rfl,-1,rfl,n++jV,rfl,m0,_,rfl,1,rfl,l,_,rfl,.of y6,λl7 f7=>?_⟩
               rw[ec,Zj]
               have s7:=qj (o:=HO.lst (ws.map V.str)) f7
               have y7:upd H6 l7 (HO.lst (ws.map V.str)) l7=some (.lst (ws.map V.str)):=qd
               generalize upd H6 l7 (HO.lst (ws.map V.str))=H7 at s7 y7
               refine⟨l7,_,rfl,.inl ⟨.of y7,λl8 f8=>⟨by show 2<=sizeLine;decide,λp fp=>?_⟩⟩⟩
               have s8:=qj (o:=HO.tup (ws.map V.str)) f8
               have s9:=qj (o:=HO.tup [V.str n,.ref l8]) fp
               exact q _ p l8 ((s16.trans s7).trans (s8.trans s9)) qd (s9 _ _ qd)
             . exact absurd ⟨_,rl⟩ h
           . have e0:(ws.filterMap (λx=>if qw x=true then none else some (V.str x))).isEmpty=false:=by
               rw[List.isEmpty_eq_false_iff]
               intro e
               rw[List.filterMap_eq_nil_iff]at e
               refine hall λx hx=>?_
               have:=e x hx
               split at this
               . assumption
               . cases this
             rw[e0]
             refine QM (no (λ⟨r,h⟩=>hall ?_) H6 s16)
             have e:=zg h
             rw[ew]at e
             rw[(List.cons.inj e).2]
             exact h.2.1
     . refine jo ?_ (QM (no (λ⟨r,h⟩=>?_) H1 s1))
       . rw[decide_eq_false λh=>c0 (by rw[<-YI];exact V.str.inj h)]
         rfl
       . have e:=zg h
         rw[ew]at e
         exact c0 (Yp.mpr ⟨r.1,(List.cons.inj e).1⟩)
end
end Rh
set_option Elab.async false
set_option linter.all false
set_option maxRecDepth 100000
set_option maxHeartbeats 4000000
/-! GROUNDS MADE AND READ,TOLD. -/
namespace Rh
open PySem L2 PyProof.Rows
theorem GG {X:Cx} {x:Str} {st:Stmt} {ps:List Str} {f:Addr} {fd:FuncData} {k:Nat} {sp:Sp} {E:L2.St->XK} {e:Expr} {es:List Expr} {t:TA} {p pos:Pos} (h:jC X.K X.mg x st ps f fd) (G:qv X.prog X.w X.K X.mg X.base (QT X.prog X.w) k f fd ps sp) (hr:qZ k X.A) (hx:Jx (QT X.prog X.w) X E)
   (hg:Gl X x) (ha:JA X (e::es) t) (hdb:(x==("__debug__":Str))=false:=by decide) (he:starEach (e::es) X.env=(false,eval e X.env)::starEach es X.env:=by rfl) (hpl:(backTo pos (starEach es X.env)).any (·.1)=false:=by rfl):
   JE X (.Call (.Name x p) (e::es) [] pos) (Vi sp [] E t):=.of (yc G hr hg h.ns h.fn.kp h.bi .nil hx ha.to hdb he hpl)
structure w5 (K:PySem.W.Frag) (mg:Str->Option Value) (D:Addr) (c:C4):Prop where
 nD:mg "HeapError"=some (.ref D)
 x1:PySem.W.kitOne K (.ref c.x) (.ref D)=some true
 x2:PySem.W.kitOne K (.ref c.x) (.ref c.g)=some false
 mx:c.m≠c.x
 tx:c.t≠c.x
 px:c.p≠c.x
 dx:D≠c.x
 tm:c.t≠c.m
 pm:c.p≠c.m
 dm:D≠c.m
 pt:c.p≠c.t
 dt:D≠c.t
 spc:PySem.W.specialIn K (.builtin "object.__class__") "__get__"=some (some (.builtin "getset_descriptor.__get__"))
 tks:PySem.W.takesIn K (.builtin "object.__class__")=some true
theorem Z0 {C D Cl:Addr} (h1:C≠Cl) (h2:D≠Cl):(Value.ref C::.ref D::qR).contains (.ref Cl)=false:=by
 rw[List.contains_cons,List.contains_cons]
 have e1:(Value.ref Cl==Value.ref C)=false:=by
   rw[beq_eq_false_iff_ne]
   intro z
   exact h1 (Value.ref.inj z).symm
 have e2:(Value.ref Cl==Value.ref D)=false:=by
   rw[beq_eq_false_iff_ne]
   intro z
   exact h2 (Value.ref.inj z).symm
 rw[e1,e2]
 rfl
theorem W4 {K:PySem.W.Frag} {H:Hp}:∀{ps:List Addr} {rs:jK},qL H ps rs->DVs K H (ps.map V.ref) (rs.map WS)
 | [],[],_=>.nil
 | [],_::_,h=>by cases h.1
 | _::_,[],h=>by cases h.1
 | p::ps,r::rs,h=>by
   obtain⟨q,a,b⟩:=h.2 0 p r rfl rfl
   exact .cons (.tup (.of a) (.cons (.str _) (.cons (.tup (.of b) (W3 _)) .nil))) (W4 h.tail)
theorem Vu {K:PySem.W.Frag} {H:Hp} (r:Zk):DVs K H [.str r.tag,r.val] [.str r.tag,r.dat]:=by
 refine .cons (.str _) (.cons ?_ .nil)
 cases r<;>constructor
theorem Uz {K:PySem.W.Frag} {H:Hp} {l:Addr} {ps:List Addr} {rs:jK} (hl:H l=some (.lst (ps.map V.ref))) (rat:qL H ps (told rs)):DVs K H [.str (Str.ofString "good"),.ref l,.str (ZK rs)] (JB rs):=
 .cons (.str _) (.cons (.lst (.of hl) (W4 rat)) (.cons (.str _) .nil))
theorem kQ {rs:jK} {x:Zk} (h:YK rs x):∀n,x≠.ground n:=by
 rcases h with ⟨_,rfl⟩ | ⟨_,⟨i,z,_,_,_,rfl⟩ | ⟨_,k,r',_,_,i,z,_,_,_,⟨_,rfl⟩ | ⟨_,_,rfl⟩⟩ | ⟨_,_,_,rfl⟩⟩<;>(intro n e;cases e)
theorem uS {rs:jK} {x:Zk} (h:YK rs x):∀n,x≠.text n:=by
 rcases h with ⟨_,rfl⟩ | ⟨_,⟨i,z,_,_,_,rfl⟩ | ⟨_,k,r',_,_,i,z,_,_,_,⟨_,rfl⟩ | ⟨_,_,rfl⟩⟩ | ⟨_,_,_,rfl⟩⟩<;>(intro n e;cases e)
theorem UD (ls:List Str):∀n,n<=ls.length->(∃rs,QP (ls.take n) rs)\/∃i,FB ls i
 | 0,_=>.inl ⟨[],rfl,λ_ h=>nomatch h⟩
 | n+1,h=>by
   rcases UD ls n (by omega) with ⟨rs,a⟩ | a
   . have e:=List.getElem?_eq_getElem (l:=ls) (i:=n) (by omega)
     by_cases m:∃r,QR ls[n] r
     . obtain⟨r,hr⟩:=m
       obtain⟨nr,er⟩:=QJ.mp hr
       refine .inl ⟨rs++[r],?_,λx hx=>?_⟩
       . rw[jp e,a.1,List.map_append,er]
         rfl
       . rcases List.mem_append.mp hx with hx | hx
         . exact a.2 x hx
         . rw[List.mem_singleton.mp hx];exact nr
     . refine .inr ⟨n,⟨_,e,m⟩,λj l hj ej=>?_⟩
       have:(ls.take n)[j]?=some l:=by rw[List.getElem?_take_of_lt hj];exact ej
       obtain⟨r,_,h⟩:=XU a this
       exact⟨r,h⟩
   . exact .inr a
def Vm (K:PySem.W.Frag):Sp:=λvs H Q _=>∃(l:Addr) (ps:List Addr) (rs:jK),vs=[.ref l]/\xA H l ps rs/\∀H' L xs,QC H H'->H L=none->H' L=some (.lst xs)->DVs K H' xs (pickR rs)->Q (.ref L) H'
def kn (K:PySem.W.Frag):Sp:=λvs H Q _=>∃v,vs=[v]/\((∃z,v=.str z/\z.length<=1000/\∀H' L xs,QC H H'->H' L=some (.lst xs)->DVs K H' xs (tv z)->Q (.ref L) H')\/
 (∃d,DH K H v d/\GJ d=false/\∀H' L,QC H H'->H' L=some (.lst [.str (Str.ofString "text"),.int 0])->Q (.ref L) H'))
section
variable {P:Program} {w:World} {K:PySem.W.Frag} {mg:Str->Option Value} {base:Heap}
abbrev nMd:List Str:=["_law_rows_here","_law_found","_law_ground","e"]
theorem YH:qC nMd ["_law_rows_here"] (qo Yc):=⟨rfl,rfl,rfl,by decide+kernel,rfl,by decide+kernel,by decide+kernel⟩
abbrev Vh (K:PySem.W.Frag) (D:Addr) (tag fld:Str):TS:=YE (vY (jc (tC (.str tag)) (jc (ue K (.ref D::qR) (jd 3) fld) jJ))) (jH 1)
theorem wu {f CG D fW fRw fSR fSG:Addr} {c:C4} {fd fdW fdRw fdSR fdSG:FuncData} (F:Qj K "_law_made" "_law_made" Yc f fd) (B:Zu mg) (G:QB mg) (T:Q6 K mg) (N:XZ K mg) (hcl:∃fI fdI,ua K mg CG fI fdI) (hRw:KJ K CG "rows" "Ground.rows" JU ["self"] fRw fdRw) (hS:jC K mg "show_row" QI ["row"] fSR fdSR) (hG:jC K mg "show_ground" YV ["ground"] fSG fdSG)
   (hW:jC K mg "need_rows" Zp ["rows"] fW fdW) (X4:xD K mg D c) (Z:w5 K mg D c):qv P w K mg base jh 8 f fd ["_law_rows_here"] (Vm K):=by
 obtain⟨fI,fdI,C⟩:=hcl
 obtain⟨fm,fdm,xm⟩:=X4.m
 obtain⟨ft,fdt,xt⟩:=X4.t
 obtain⟨fp,fdp,xp⟩:=X4.p
 have GRw:qv P w K mg base jh 1 fRw fdRw ["self"] (Zc CG):=Yk hRw.fn C G
 have GSG:qv P w K mg base jh 2 fSG fdSG ["ground"] (Wm CG):=yh hG.fn C G hRw hS
 have GI:qv P w K mg base (QT P w) 6 fI fdI ["self","rows"] (λvs H Q E=>ZI CG vs H Q E\/V8 K c vs H Q E):=(WC C B G T N hW).toX.either (Y6 C B G T N hW X4)
 refine F.okJ YH (λvs H Q E h=>?_) (λcdv A outer s H vs Q E hr h=>?_)
 . obtain⟨l,ps,rs,rfl,_⟩:=h
   rfl
 . obtain⟨l,ps,rs,rfl,g,q⟩:=h
   have r1:qZ 1 _:=hr.mono (by decide)
   have r2:qZ 2 _:=hr.mono (by decide)
   refine⟨_,qf (qr (i:=1) YH.nd rfl (Or.inl rfl) Yv)
     (qf (yG (tb:=λE=>Xs (YE (vX CG (λvs H Q E=>ZI CG vs H Q E\/V8 K c vs H Q E) [] E (jc (jd 0) jJ)) (jH 2)) (YE (vY (jc (tC (.str (Str.ofString "good"))) (jc (Wi CG (Str.ofString "rows") (Zc CG) [] E0 (jd 2) jJ) (jc (Jz (Wm CG) [] E0 (jc (jd 2) jJ)) jJ)))) (jH 1))) rfl rfl
         (λpn W E hE=>qf (qr (i:=2) YH.nd rfl (Or.inl rfl) (yL C.mkr GI hr (by rfl) C.ns C.bi .nil hE (qb (jv 0) qe)))
           (qh (qr (i:=1) YH.nd rfl (Or.inl rfl) (qW (qb qy (qb (yM hRw C.cl GRw r1 (jv 2)) (qb (qQ hG GSG r2 (by rfl) (qb (jv 2) qe)) qe)))))))
       (Jr (j:=3) (ts:=Vh K D (Str.ofString "many") (Str.ofString "found")) (by rfl) xm.ns xm.rcls YH.nd rfl rfl (λv E=>qh (qr (i:=1) YH.nd rfl (Or.inl rfl) (qW (qb qy (qb (Js (bm:=.ref D::qR) (jv 3) rfl) qe)))))
       (Jr (j:=3) (ts:=Vh K D (Str.ofString "twice") (Str.ofString "found")) (by rfl) xt.ns xt.rcls YH.nd rfl rfl (λv E=>qh (qr (i:=1) YH.nd rfl (Or.inl rfl) (qW (qb qy (qb (Js (bm:=.ref D::qR) (jv 3) rfl) qe)))))
       (Jr (j:=3) (ts:=Vh K D (Str.ofString "place") (Str.ofString "found")) (by rfl) xp.ns xp.rcls YH.nd rfl rfl (λv E=>qh (qr (i:=1) YH.nd rfl (Or.inl rfl) (qW (qb qy (qb (Js (bm:=.ref D::qR) (jv 3) rfl) qe)))))
       WL))))
     (qh (qF (jv 1)))),?_⟩
   rcases Zx λr hr'=>(g.nm r hr').1 with ⟨r,hx,ep⟩ | ⟨gd,le,ep⟩
   . have q':∀H' L,QC H H'->H L=none->H' L=some (.lst [.str r.tag,r.val])->Q (.ref L) H':=λH' L k n h=>q H' L _ k n h (by rw[ep];exact Vu r)
     refine⟨λC dx Hx=>C=r.cls c/\Same H Hx/\Hx dx=some (.xd [(r.fld,r.val)]),⟨_,rfl,λx dx hx' hdx ndx=>.inr ⟨.ref x,.ref l,rfl,?_⟩⟩,?_⟩
     . have s0:Same H (upd (upd H dx (.own x)) x (.ins CG dx [])):=λb u hb=>by rw[qg (qt hb hx'),qg (qt hb hdx)];exact hb
       exact Wx (g.mono s0) hx λHx dx5 s5 hd5=>⟨rfl,_,dx5,rfl,rfl,rfl,s0.trans s5,hd5⟩
     . rintro a C0 dx T' Hx H' ⟨rfl,sx,hdx⟩ ha kp ha'
       have nda:dx≠a:=λz=>by
         rw[z,ha]at hdx
         cases hdx
       have hdx':=kp dx _ nda hdx
       have k1:QC H H':=λb o hb nx=>kp b o (λz=>by
         rw[z]at hb
         have:=sx _ _ hb
         rw[ha]at this
         exact nx _ (Option.some.inj this).symm) (sx _ _ hb)
       have nH:∀{L},H' L=none->H L=none:=λ{L} hL=>by
         cases e:H L with
         | none=>rfl
         | some o=>
           by_cases z:L=a
           . rw[z,ha']at hL;cases hL
           . rw[kp L o z (sx _ _ e)]at hL;cases hL
       have lk:([(r.fld,r.val)]:List (Str×V)).lookup r.fld=some r.val:=by simp [List.lookup]
       cases r with
       | ground n=>exact absurd rfl (kQ hx n)
       | text n=>exact absurd rfl (uS hx n)
       | many n=>
         refine⟨fm,_,xm.mkr,?_⟩
         rw[if_pos (by simp [List.contains_cons,Zk.cls])]
         exact⟨_,rfl,a,_,dx,_,_,_,rfl,ha',hdx',xm.cls,xm.na,lk,by show 2<=sizeLine;decide,λL hL=>⟨_,rfl,q' _ L (k1.trans (qj hL).keep) (nH hL) qd⟩⟩
       | twice z=>
         refine⟨ft,_,xt.mkr,?_⟩
         rw[if_neg (by show ¬(Value.ref c.t::.ref D::qR).contains (.ref c.m)=true;rw[Z0 Z.tm Z.dm];exact Bool.false_ne_true)]
         refine⟨ft,_,xt.mkr,?_⟩
         rw[if_pos (by simp [List.contains_cons,Zk.cls])]
         exact⟨_,rfl,a,_,dx,_,_,_,rfl,ha',hdx',xt.cls,xt.na,lk,by show 2<=sizeLine;decide,λL hL=>⟨_,rfl,q' _ L (k1.trans (qj hL).keep) (nH hL) qd⟩⟩
       | place z=>
         refine⟨fp,_,xp.mkr,?_⟩
         rw[if_neg (by show ¬(Value.ref c.p::.ref D::qR).contains (.ref c.m)=true;rw[Z0 Z.pm Z.dm];exact Bool.false_ne_true)]
         refine⟨fp,_,xp.mkr,?_⟩
         rw[if_neg (by show ¬(Value.ref c.p::.ref D::qR).contains (.ref c.t)=true;rw[Z0 Z.pt Z.dt];exact Bool.false_ne_true)]
         refine⟨fp,_,xp.mkr,?_⟩
         rw[if_pos (by simp [List.contains_cons,Zk.cls])]
         exact⟨_,rfl,a,_,dx,_,_,_,rfl,ha',hdx',xp.cls,xp.na,lk,by show 2<=sizeLine;decide,λL hL=>⟨_,rfl,q' _ L (k1.trans (qj hL).keep) (nH hL) qd⟩⟩
   . refine⟨λ_ _ _=>False,⟨_,rfl,λx dx hx hdx ndx=>.inl (Yn g.at_ g.rows gd g.pos le hx hdx ndx λH4 s4 gr=>?_)⟩,λ_ _ _ _ _ _ z=>z.elim⟩
     obtain⟨dx',lo,rd,kvs,h1,_⟩:=id gr
     refine⟨_,rfl,x,dx',_,rfl,h1,Kk _ _,x,rs,rfl,gr,le,λl5 ps5 H5 s5 n5 h5 rat=>⟨_,rfl,x,rs,rfl,gr.mono s5,gd,le,λH6 s6=>⟨by show 3<=sizeLine;decide,λL hL=>⟨_,rfl,?_⟩⟩⟩⟩
     have s46:=(s4.trans s5).trans s6
     have s7:=qj (o:=HO.lst [.str (Str.ofString "good"),.ref l5,.str (ZK rs)]) hL
     exact q _ L _ (s46.trans s7).keep (YU s46 hL) qd (by rw[ep];exact Uz (s7 _ _ (s6 _ _ h5)) (rat.mono (s6.trans s7)))
abbrev nLR:List Str:=["_law_text","_law_found","_law_ground","e"]
theorem Z8:qC nLR ["_law_text"] (qo XC):=⟨rfl,rfl,rfl,by decide+kernel,rfl,by decide+kernel,by decide+kernel⟩
abbrev tIs (K:PySem.W.Frag) (D:Addr) (v:V):TE:=KF (kZ K (.ref D::qR)) (jc (jd 3) (jc (tC v) jJ))
theorem ym {f CG D fW fRw fSR fSG fN fL fO fR:Addr} {c:C4} {fd fdW fdRw fdSR fdSG fdN fdL fdO fdR:FuncData} (F:Qj K "_law_read" "_law_read" XC f fd) (B:Zu mg) (G:QB mg) (T:Q6 K mg) (N:XZ K mg) (hcl:∃fI fdI,ua K mg CG fI fdI) (hRw:KJ K CG "rows" "Ground.rows" JU ["self"] fRw fdRw) (hS:jC K mg "show_row" QI ["row"] fSR fdSR) (hG:jC K mg "show_ground" YV ["ground"] fSG fdSG)
   (hW:jC K mg "need_rows" Zp ["rows"] fW fdW) (hN:jC K mg "is_name" QW ["thing"] fN fdN) (hL:jC K mg "is_line" Zd ["line"] fL fdL) (hO:jC K mg "row_of" zb ["line"] fO fdO) (hR:jC K mg "read_ground" Wp ["text"] fR fdR) (X4:xD K mg D c) (Z:w5 K mg D c):qv P w K mg base jh 9 f fd ["_law_text"] (kn K):=by
 obtain⟨fI,fdI,C⟩:=hcl
 obtain⟨fg,fdg,xg⟩:=X4.g
 obtain⟨fm,fdm,xm⟩:=X4.m
 obtain⟨ft,fdt,xt⟩:=X4.t
 obtain⟨fp,fdp,xp⟩:=X4.p
 obtain⟨fx,fdx,xx⟩:=X4.x
 have GRw:qv P w K mg base jh 1 fRw fdRw ["self"] (Zc CG):=Yk hRw.fn C G
 have GSG:qv P w K mg base jh 2 fSG fdSG ["ground"] (Wm CG):=yh hG.fn C G hRw hS
 have GR:qv P w K mg base (QT P w) 8 fR fdR ["text"] (Xv K CG c):=wn hR.fn B G T N ⟨_,_,C⟩ hW hN hL hO X4
 refine F.okJ Z8 (λvs H Q E h=>?_) (λcdv A outer s H vs Q E hr h=>?_)
 . obtain⟨v,rfl,_⟩:=h
   rfl
 . obtain⟨v,rfl,h⟩:=h
   have r1:qZ 1 _:=hr.mono (by decide)
   have r2:qZ 2 _:=hr.mono (by decide)
   refine⟨_,qf (qr (i:=1) Z8.nd rfl (Or.inl rfl) Yv)
     (qf (yG (tb:=λE=>Xs (YE (Vi (Xv K CG c) [] E (jc (jd 0) jJ)) (jH 2)) (YE (vY (jc (tC (.str (Str.ofString "good"))) (jc (Wi CG (Str.ofString "rows") (Zc CG) [] E0 (jd 2) jJ) (jc (Jz (Wm CG) [] E0 (jc (jd 2) jJ)) jJ)))) (jH 1))) rfl rfl
         (λpn W E hE=>qf (qr (i:=2) Z8.nd rfl (Or.inl rfl) (GG hR GR hr hE (by rfl) (qb (jv 0) qe)))
           (qh (qr (i:=1) Z8.nd rfl (Or.inl rfl) (qW (qb qy (qb (yM hRw C.cl GRw r1 (jv 2)) (qb (qQ hG GSG r2 (by rfl) (qb (jv 2) qe)) qe)))))))
       (Jr (j:=3) (ts:=Xs (Vh K D (Str.ofString "text") (Str.ofString "row")) (YD (Ro (vV (tB (tIs K D (.ref D)))) (tB (tIs K D (.ref c.g)))) (YE (vY (jc (tC (.str (Str.ofString "other"))) jJ)) (jH 1)) JM)) (by rfl) xx.ns xx.rcls Z8.nd rfl rfl (λv E=>qf (qr (i:=1) Z8.nd rfl (Or.inl rfl) (qW (qb qy (qb (Js (bm:=.ref D::qR) (jv 3) rfl) qe))))
           (qh (qK (JW.pt (QZ (j9 (jL (qm (zL (bm:=.ref D::qR) Z.spc Z.tks) (by rfl) T.isi boot_isinstance (qb (jv 3) (qb (Qk (v:=.ref D) (by rfl) Z.nD rfl) qe))))) (j7 (jL (qm (zL (bm:=.ref D::qR) Z.spc Z.tks) (by rfl) T.isi boot_isinstance (qb (jv 3) (qb (Qk (v:=.ref c.g) (by rfl) xg.ns rfl) qe))))))) (qh (qr (i:=1) Z8.nd rfl (Or.inl rfl) (qW (qb qy qe)))) qu)))
       (Jr (j:=3) (ts:=Vh K D (Str.ofString "many") (Str.ofString "found")) (by rfl) xm.ns xm.rcls Z8.nd rfl rfl (λv E=>qh (qr (i:=1) Z8.nd rfl (Or.inl rfl) (qW (qb qy (qb (Js (bm:=.ref D::qR) (jv 3) rfl) qe)))))
       (Jr (j:=3) (ts:=Vh K D (Str.ofString "twice") (Str.ofString "found")) (by rfl) xt.ns xt.rcls Z8.nd rfl rfl (λv E=>qh (qr (i:=1) Z8.nd rfl (Or.inl rfl) (qW (qb qy (qb (Js (bm:=.ref D::qR) (jv 3) rfl) qe)))))
       (Jr (j:=3) (ts:=Vh K D (Str.ofString "place") (Str.ofString "found")) (by rfl) xp.ns xp.rcls Z8.nd rfl rfl (λv E=>qh (qr (i:=1) Z8.nd rfl (Or.inl rfl) (qW (qb qy (qb (Js (bm:=.ref D::qR) (jv 3) rfl) qe)))))
       WL)))))
     (qh (qF (jv 1)))),?_⟩
   have h2:(∃r,(∀n,r≠.ground n)/\(∀H' Q' E,Same H H'->zB c E H' r->Xv K CG c [v] H' Q' E)/\∀H' L,QC H H'->H' L=some (.lst [.str r.tag,r.val])->Q (.ref L) H')\/
       (∃(z:Str) (rs:jK),v=.str z/\z.length<=1000/\QP (Txt.split z Qe) rs/\qG rs/\rs.length<=14/\∀H' L xs,QC H H'->H' L=some (.lst xs)->DVs K H' xs (JB rs)->Q (.ref L) H'):=by
     rcases h with ⟨z,rfl,l1,q⟩ | ⟨d,hd,ns,q⟩
     . rcases UD (Txt.split z Qe) _ (Nat.le_refl _) with ⟨rs,ar⟩ | ⟨i,fb⟩
       . rw[List.take_length]at ar
         rw[ZH ar]at q
         rcases Zx λr hr'=>(ar.2 r hr').1 with ⟨r,hx,ep⟩ | ⟨gd,le,ep⟩
         . exact .inl ⟨r,kQ hx,λH' Q' E s' o=>⟨_,rfl,.inr (.inr ⟨z,rs,rfl,l1,ar,.inl ⟨r,hx,o⟩⟩)⟩,λH' L k h=>q H' L _ k h (by rw[ep];exact Vu r)⟩
         . rw[ep]at q
           exact .inr ⟨z,rs,rfl,l1,ar,gd,le,q⟩
       . rw[Xq fb]at q
         exact .inl ⟨.text i,(λn e=>by cases e),λH' Q' E s' o=>⟨_,rfl,.inr (.inl ⟨z,i,rfl,l1,fb,o⟩)⟩,λH' L k h=>q H' L _ k h (Vu (.text i))⟩
     . exact .inl ⟨.text 0,(λn e=>by cases e),λH' Q' E s' o=>⟨_,rfl,.inl ⟨d,hd.keep s'.keep,ns,o⟩⟩,q⟩
   rcases h2 with ⟨r,ng,bad,q'⟩ | ⟨z,rs,rfl,l1,ar,gd,le,q⟩
   . refine⟨λC dx Hx=>C=r.cls c/\Same H Hx/\Hx dx=some (.xd [(r.fld,r.val)]),⟨_,rfl,Vy (bad H _ _ (Same.refl H) λHx dx5 s5 hd5=>⟨rfl,_,dx5,rfl,rfl,rfl,s5,hd5⟩)⟩,?_⟩
     rintro a C0 dx T' Hx H' ⟨rfl,sx,hdx⟩ ha kp ha'
     have nda:dx≠a:=λz=>by
       rw[z,ha]at hdx
       cases hdx
     have hdx':=kp dx _ nda hdx
     have k1:QC H H':=λb o hb nx=>kp b o (λz=>by
       rw[z]at hb
       have:=sx _ _ hb
       rw[ha]at this
       exact nx _ (Option.some.inj this).symm) (sx _ _ hb)
     have lk:([(r.fld,r.val)]:List (Str×V)).lookup r.fld=some r.val:=by simp [List.lookup]
     cases r with
     | ground n=>exact absurd rfl (ng n)
     | text n=>
       refine⟨fx,_,xx.mkr,?_⟩
       rw[if_pos (by simp [List.contains_cons,Zk.cls])]
       refine⟨_,rfl,a,_,dx,_,_,_,rfl,ha',hdx',xx.cls,xx.na,lk,by show 2<=sizeLine;decide,λL hL=>?_⟩
       have st:=qj (o:=HO.lst [V.str (Str.ofString "text"),.int (n:Nat)]) hL
       exact⟨_,rfl,a,_,dx,_,_,.ref D,true,rfl,rfl,st _ _ ha',st _ _ hdx',xx.cls,Z.x1,_,rfl,jn ⟨_,rfl,a,_,dx,_,_,.ref c.g,false,rfl,rfl,st _ _ ha',st _ _ hdx',xx.cls,Z.x2,_,rfl,jn ⟨_,rfl,q' _ L (k1.trans st.keep) qd⟩⟩⟩
     | many n=>
       refine⟨fm,_,xm.mkr,?_⟩
       rw[if_neg (by show ¬(Value.ref c.m::.ref D::qR).contains (.ref c.x)=true;rw[Z0 Z.mx Z.dx];exact Bool.false_ne_true)]
       refine⟨fm,_,xm.mkr,?_⟩
       rw[if_pos (by simp [List.contains_cons,Zk.cls])]
       exact⟨_,rfl,a,_,dx,_,_,_,rfl,ha',hdx',xm.cls,xm.na,lk,by show 2<=sizeLine;decide,λL hL=>⟨_,rfl,q' _ L (k1.trans (qj hL).keep) qd⟩⟩
     | twice z=>
       refine⟨ft,_,xt.mkr,?_⟩
       rw[if_neg (by show ¬(Value.ref c.t::.ref D::qR).contains (.ref c.x)=true;rw[Z0 Z.tx Z.dx];exact Bool.false_ne_true)]
       refine⟨ft,_,xt.mkr,?_⟩
       rw[if_neg (by show ¬(Value.ref c.t::.ref D::qR).contains (.ref c.m)=true;rw[Z0 Z.tm Z.dm];exact Bool.false_ne_true)]
       refine⟨ft,_,xt.mkr,?_⟩
       rw[if_pos (by simp [List.contains_cons,Zk.cls])]
       exact⟨_,rfl,a,_,dx,_,_,_,rfl,ha',hdx',xt.cls,xt.na,lk,by show 2<=sizeLine;decide,λL hL=>⟨_,rfl,q' _ L (k1.trans (qj hL).keep) qd⟩⟩
     | place z=>
       refine⟨fp,_,xp.mkr,?_⟩
       rw[if_neg (by show ¬(Value.ref c.p::.ref D::qR).contains (.ref c.x)=true;rw[Z0 Z.px Z.dx];exact Bool.false_ne_true)]
       refine⟨fp,_,xp.mkr,?_⟩
       rw[if_neg (by show ¬(Value.ref c.p::.ref D::qR).contains (.ref c.m)=true;rw[Z0 Z.pm Z.dm];exact Bool.false_ne_true)]
       refine⟨fp,_,xp.mkr,?_⟩
       rw[if_neg (by show ¬(Value.ref c.p::.ref D::qR).contains (.ref c.t)=true;rw[Z0 Z.pt Z.dt];exact Bool.false_ne_true)]
       refine⟨fp,_,xp.mkr,?_⟩
       rw[if_pos (by simp [List.contains_cons,Zk.cls])]
       exact⟨_,rfl,a,_,dx,_,_,_,rfl,ha',hdx',xp.cls,xp.na,lk,by show 2<=sizeLine;decide,λL hL=>⟨_,rfl,q' _ L (k1.trans (qj hL).keep) qd⟩⟩
   . refine⟨λ_ _ _=>False,⟨_,rfl,_,rfl,.inr (.inr ⟨z,rs,rfl,l1,ar,.inr ⟨gd,le,λH4 x s4 gr=>?_⟩⟩)⟩,λ_ _ _ _ _ _ z=>z.elim⟩
     obtain⟨dx',lo,rd,kvs,h1,_⟩:=id gr
     refine⟨_,rfl,x,dx',_,rfl,h1,Kk _ _,x,rs,rfl,gr,le,λl5 ps5 H5 s5 n5 h5 rat=>⟨_,rfl,x,rs,rfl,gr.mono s5,gd,le,λH6 s6=>⟨by show 3<=sizeLine;decide,λL hL=>⟨_,rfl,?_⟩⟩⟩⟩
     have s46:=(s4.trans s5).trans s6
     have s7:=qj (o:=HO.lst [.str (Str.ofString "good"),.ref l5,.str (ZK rs)]) hL
     exact q _ L _ (s46.trans s7).keep qd (Uz (s7 _ _ (s6 _ _ h5)) (rat.mono (s6.trans s7)))
end
end Rh
set_option Elab.async false
set_option linter.all false
set_option maxRecDepth 100000
set_option maxHeartbeats 4000000
/-! WHAT IS DUE. -/
namespace Rh
open PySem L2 PyProof.Rows
def um (K:PySem.W.Frag):Sp:=λvs H Q _=>∃z,vs=[.str z]/\z.length<=1000/\∀H' L xs,QC H H'->H' L=some (.lst xs)->DVs K H' xs (tv z)->Q (.ref L) H'
section
variable {P:Program} {w:World} {K:PySem.W.Frag} {mg:Str->Option Value} {base:Heap}
abbrev nDu:List Str:=["_law_text","_law_rows_here","_law_number","_law_line","_law_row_here"]
theorem kH:qC nDu ["_law_text"] (qo Ud):=⟨rfl,rfl,rfl,by decide+kernel,rfl,by decide+kernel,by decide+kernel⟩
theorem Kg {f fR fN fM:Addr} {fd fdR fdN fdM:FuncData} (F:Qj K "_law_due" "_law_due" Ud f fd) (B:Zu mg) (G:QB mg) (T:Q6 K mg) (hN:jC K mg "_law_is_name" YW ["_law_word"] fN fdN) (hR:jC K mg "_law_row" Wq ["_law_line"] fR fdR) (hM:jC K mg "_law_made" Yc ["_law_rows_here"] fM fdM) (GM:qv P w K mg base jh 8 fM fdM ["_law_rows_here"] (Vm K)):qv P w K mg base jh 9 f fd ["_law_text"] (um K):=by
 have GR:qv P w K mg base jh 2 fR fdR ["_law_line"] km:=wv hR.fn B G hN
 refine F.okJ kH (λvs H Q E h=>?_) (λcdv A outer s H vs Q E hr h=>?_)
 . obtain⟨z,rfl,_⟩:=h
   rfl
 . obtain⟨z,rfl,l1,q⟩:=h
   have r2:qZ 2 _:=hr.mono (by decide)
   refine⟨_,qf (qr (i:=1) kH.nd rfl (Or.inl rfl) (qW qe))
     (qf (jw PassesOwn.never rfl (zU (by rfl) T.enu (qb (jm PySem.F.plainAttrs_str PySem.F.slot_str_split PySem.F.type_str_split Qo (jv 0) (qb qy qe)) qe)) (J5 rfl (ji (qz (i:=2) kH.nd rfl (Or.inl rfl)) (ji (qz (i:=3) kH.nd rfl (Or.inl rfl)) Q1)))
       (qf (qr (i:=4) kH.nd rfl (Or.inl rfl) (qQ hR GR r2 (by rfl) (qb (jv 3) qe)))
       (qf (qK (zq (yQ (jv 4))) (qh (qF (qW (qb qy (qb (jv 2) qe))))) qu)
       (qh (jk (jm PySem.F.plainAttrs_list PySem.F.slot_list_append PySem.F.type_list_append jR (jv 1) (qb (jv 4) qe)))))))
     (qh (qF (qQ hM GM hr (by rfl) (qb (jv 1) qe))))),?_⟩
   refine⟨by show 0<=sizeLine;exact Nat.zero_le _,λW fW=>?_⟩
   have s0:=qj (o:=HO.lst []) fW
   have w0:upd H W (HO.lst []) W=some (.lst []):=qd
   generalize upd H W (HO.lst [])=H0 at s0 w0
   refine⟨_,rfl,rfl,z,_,rfl,rfl,by decide+kernel,l1,λl fl=>?_⟩
   rw[yD]
   have s1:=qj (o:=HO.lst ((Txt.split z Qe).map V.str)) fl
   have y1:upd H0 l (HO.lst ((Txt.split z Qe).map V.str)) l=some (.lst ((Txt.split z Qe).map V.str)):=qd
   have nl:l≠W:=λe=>by rw[e,w0]at fl;cases fl
   have w1:=s1 _ _ w0
   generalize upd H0 l (HO.lst ((Txt.split z Qe).map V.str))=H1 at s1 y1 w1
   have mem:∀x∈Txt.split z Qe,x.length<=1000:=λx hx=>Nat.le_trans (Qg (c:=10) hx) l1
   have many:(Txt.split z Qe).length<=1001:=by have:=QH z 10;show (Txt.split z ⟨#[10]⟩).length<=_;omega
   have s01:=s0.trans s1
   -- one turn
   have turn:∀{rs:jK} {i:Nat} {x:V} {X:Hp} {p:Addr} {ps:List Addr} {R:Hp->Prop} (y:Str) (r:Str×List Str),Same H X->X l=some (.lst ((Txt.split z Qe).map V.str))->X W=some (.lst (ps.map V.ref))->qL X ps rs->ps.length<=1001->
       (∀X',Same H X'->X' l=some (.lst ((Txt.split z Qe).map V.str))->∀ps',X' W=some (.lst (ps'.map V.ref))->qL X' ps' (rs++[r])->R X')->
       ∀X2 p q,Same X X2->X2 p=some (.tup [.str r.1,.ref q])->X2 q=some (.tup (r.2.map V.str))->
        Uj (.ref W) [.ref p] X2 (λ_ X3=>R X3):=λ{rs i x X p ps R} y r sX lX wX rat lps k X2 p q s2 hp hq=>by
     have w2:=s2 _ _ wX
     refine⟨W,_,_,rfl,rfl,w2,by rw[List.length_map];exact Nat.lt_of_le_of_lt lps (by decide),k _ (Same.upd (sX.trans s2) fW) ?_ (ps++[p]) (by rw[List.map_append];exact qd) (qL.upd_lst (qL.snoc (q:=q) (rat.mono s2) hp hq) w2)⟩
     rw[qg nl]
     exact s2 _ _ lX
   refine⟨l,rfl,⟨_,.of y1⟩,?_⟩
   rcases UD (Txt.split z Qe) _ (Nat.le_refl _) with ⟨rs,ar⟩ | ⟨i0,fb⟩
   . rw[List.take_length]at ar
     have ll:(Txt.split z Qe).length=rs.length:=by rw[ar.1,List.length_map]
     refine QN (K:=K) (a:=l) (xs:=(Txt.split z Qe).map V.str) (λi σ' X=>(∃v1 v2 v3,σ'=[some (.str z),some (.ref W),v1,v2,v3])/\Same H X/\X l=some (.lst ((Txt.split z Qe).map V.str))/\∃ps,X W=some (.lst (ps.map V.ref))/\qL X ps (rs.take i))
       ⟨⟨none,none,none,rfl⟩,s01,y1,[],w1,rfl,λi p r e=>(nomatch e)⟩ (λi σ' X _ ⟨_,_,e,_⟩=>.of e) ?_ ?_
     . rintro i x σ' X p hx hp ⟨⟨v1,v2,v3,rfl⟩,sX,lX,ps,wX,rat⟩
       have s3:=qj (o:=.tup [.int (i:Nat),x]) hp
       obtain⟨y,ey,hy,rfl⟩:=Qu hx
       obtain⟨r,er,hr'⟩:=XU ar ey
       have hi:=(List.getElem?_eq_some_iff.mp er).1
       have lps:=rat.1
       rw[List.length_take]at lps
       refine⟨p,_,rfl,.of qd,rfl,_,_,rfl,_,_,rfl,rfl,_,rfl,y,rfl,mem y hy,.inl ⟨r,hr',λX2 p2 q2 s4 hp2 hq2=>?_⟩⟩
       refine⟨_,rfl,_,rfl,jn ⟨_,rfl,.inl ⟨rfl,_,.of ((s3.trans s4) _ _ wX)⟩,_,rfl,?_⟩⟩
       refine turn (rs:=rs.take i) (i:=i) (x:=.non) (p:=p) y r (sX.trans s3) (s3 _ _ lX) (s3 _ _ wX) (rat.mono s3) (by omega) (λX' sX' lX' ps' wX' rat'=>⟨⟨_,_,_,rfl⟩,sX',lX',ps',wX',?_⟩) X2 p2 q2 s4 hp2 hq2
       rw[jp er]
       exact rat'
     . rintro σ' X ⟨⟨v1,v2,v3,rfl⟩,sX,lX,ps,wX,rat⟩
       rw[List.length_map,ll,List.take_of_length_le (Nat.le_refl _)]at rat
       refine⟨_,rfl,W,ps,rs,rfl,⟨wX,rat,ar.2,λr hr'=>?_,?_,zf ar l1⟩,λH' L xs k _ h d=>q H' L xs (sX.keep.trans k) h (by rw[ZH ar];exact d)⟩
       . obtain⟨i,er⟩:=List.getElem?_of_mem hr'
         have el:(Txt.split z Qe)[i]?=some (qB r):=by rw[ar.1,List.getElem?_map,er];rfl
         exact Wt (QJ.mpr ⟨ar.2 r hr',rfl⟩) (mem _ (List.mem_of_getElem? el))
       . rw[<-ll]
         exact List.length_pos_iff.mpr (Qn _ _)
   . have fb0:=fb
     obtain⟨⟨l0,e0,bad⟩,pre⟩:=fb
     refine QN (K:=K) (a:=l) (xs:=(Txt.split z Qe).map V.str) (λi σ' X=>(∃v1 v2 v3,σ'=[some (.str z),some (.ref W),v1,v2,v3])/\Same H X/\X l=some (.lst ((Txt.split z Qe).map V.str))/\i<=i0/\∃ps rs,X W=some (.lst (ps.map V.ref))/\qL X ps rs/\ps.length=i)
       ⟨⟨none,none,none,rfl⟩,s01,y1,Nat.zero_le _,[],[],w1,⟨rfl,λi p r e=>(nomatch e)⟩,rfl⟩ (λi σ' X _ ⟨_,_,e,_⟩=>.of e) ?_ ?_
     . rintro i x σ' X p hx hp ⟨⟨v1,v2,v3,rfl⟩,sX,lX,hi,ps,rs,wX,rat,lps⟩
       have s3:=qj (o:=.tup [.int (i:Nat),x]) hp
       obtain⟨y,ey,hy,rfl⟩:=Qu hx
       have hi2:=(List.getElem?_eq_some_iff.mp ey).1
       refine⟨p,_,rfl,.of qd,rfl,_,_,rfl,_,_,rfl,rfl,_,rfl,y,rfl,mem y hy,?_⟩
       rcases Nat.lt_or_ge i i0 with c0 | c0
       . obtain⟨r,hr'⟩:=pre i y c0 ey
         refine .inl ⟨r,hr',λX2 p2 q2 s4 hp2 hq2=>?_⟩
         refine⟨_,rfl,_,rfl,jn ⟨_,rfl,.inl ⟨rfl,_,.of ((s3.trans s4) _ _ wX)⟩,_,rfl,?_⟩⟩
         exact turn (rs:=rs) (i:=i) (x:=.non) (p:=p) y r (sX.trans s3) (s3 _ _ lX) (s3 _ _ wX) (rat.mono s3) (by omega) (λX' sX' lX' ps' wX' rat'=>⟨⟨_,_,_,rfl⟩,sX',lX',c0,ps',_,wX',rat',by have:=rat'.1;have:=rat.1;rw[List.length_append,List.length_singleton]at*;omega⟩) X2 p2 q2 s4 hp2 hq2
       . have ei:i=i0:=by omega
         subst ei
         rw[ey]at e0
         obtain rfl:=Option.some.inj e0
         refine .inr ⟨bad,λX2 s4=>⟨_,rfl,_,rfl,QM ⟨_,rfl,by show 2<=sizeLine;decide,λL hL=>?_⟩⟩⟩
         have s5:=qj (o:=HO.lst [V.str (Str.ofString "text"),.int (i:Nat)]) hL
         exact q _ L _ (((sX.trans s3).trans s4).trans s5).keep qd (by rw[Xq fb0];exact .cons (.str _) (.cons (.int _) .nil))
     . rintro σ' X ⟨_,_,_,hi,_⟩
       have:=(List.getElem?_eq_some_iff.mp e0).1
       rw[List.length_map]at hi
       omega
end
end Rh
set_option Elab.async false
set_option linter.all false
set_option maxRecDepth 100000
set_option maxHeartbeats 4000000
/-! LINES LAID OUT. -/
namespace Rh
open PySem L2 PyProof.Rows
def V7:Sp:=λvs H Q _=>∃(l:Addr) (ps:List Addr) (rs:jK),vs=[.ref l]/\jO H l ps rs/\∀H',Same H H'->Q (.str (ZK rs)) H'
def V4:Sp:=λvs H Q _=>∃(l d:Addr) (ps:List Addr) (rs:jK) (n sd t:Int),vs=[.ref l,.ref d]/\jO H l ps rs/\H d=some (.dK (qP n sd t))/\
 ∀(W:Addr) (rs':jK) (n' t':Int) (H':Hp),H W=none->Fr H d H'->H' d=some (.dK (qP n' sd t'))->H' W=some (.lst ((rs'.map qB).map V.str))->vL rs rs'->Q (.ref W) H'
theorem nd2:(["_law_name","_law_others"]:List Str).Nodup:=by decide+kernel
theorem RQ:(["_law_other","_law_others"]:List Str).Nodup:=by decide+kernel
theorem Wz {α:Type}:∀{ws:List α} {k:Nat} {x:α},ws[k]?=some x->(x::ws.eraseIdx k).Perm ws
 | [],_,_,h=>by simp at h
 | a::ws,0,x,h=>by
   obtain rfl:=Option.some.inj h
   exact List.Perm.refl _
 | a::ws,k+1,x,h=>by
   have ih:=Wz (ws:=ws) (k:=k) (x:=x) (by simpa using h)
   exact(List.Perm.swap a x _).trans (ih.cons a)
theorem Y8 {α β:Type} (f:α->β):∀(l:List α) (k:Nat),(l.map f).eraseIdx k=(l.eraseIdx k).map f
 | [],_=>rfl
 | _::_,0=>rfl
 | a::l,k+1=>by rw[List.map_cons,List.eraseIdx_cons_succ,Y8 f l k,List.eraseIdx_cons_succ,List.map_cons]
theorem vL.snoc {rs rs':jK} {i:Nat} {r r':Str×List Str} (h:vL (rs.take i) rs') (er:rs[i]?=some r) (e:r.1=r'.1) (p:r'.2.Perm r.2):vL (rs.take (i+1)) (rs'++[r']):=by
 have hi:=(List.getElem?_eq_some_iff.mp er).1
 have l1:=h.1
 rw[List.length_take]at l1
 refine⟨by rw[jp er,List.length_append,List.length_append,h.1];rfl,λj a b e1 e2=>?_⟩
 rw[jp er]at e1
 rcases Nat.lt_or_ge j i with c | c
 . rw[List.getElem?_append_left (by rw[List.length_take];omega)]at e1
   rw[List.getElem?_append_left (by omega)]at e2
   exact h.2 j a b e1 e2
 . have hj:=(List.getElem?_eq_some_iff.mp e2).1
   rw[List.length_append,List.length_singleton]at hj
   have:j=i:=by omega
   subst this
   rw[List.getElem?_append_right (by rw[List.length_take];omega),List.length_take,Nat.min_eq_left (by omega),Nat.sub_self]at e1
   rw[List.getElem?_append_right (by omega),show j - rs'.length=0 by omega]at e2
   obtain rfl:=(Option.some.inj e1).symm
   obtain rfl:=(Option.some.inj e2).symm
   exact⟨e,p⟩
theorem Wa {r:Str×List Str} (h:W0 r) (l:r.2.length<=40):tw 2 ((r.1++jV)::r.2)<=411:=by
 have h1:=zT h
 have h2:=Zf (c:=32) (l:=(r.1++jV)::r.2) (by simp)
 have e:cw 32=2:=by decide
 rw[e]at h2
 rw[h2]
 show wt (qB r)+2<=_
 omega
section
variable {P:Program} {w:World} {K:PySem.W.Frag} {mg:Str->Option Value} {base:Heap}
abbrev nFo:List Str:=["_law_rows_here","_law_order","_law_lines_here","_law_name","_law_others"]
theorem kG:qC nFo ["_law_rows_here"] (qo XD):=⟨rfl,rfl,rfl,by decide+kernel,rfl,by decide+kernel,by decide+kernel⟩
theorem yo {f:Addr} {fd:FuncData} (F:Qj K "_law_form" "_law_form" XD f fd):qv P w K mg base jh 1 f fd ["_law_rows_here"] V7:=by
 refine F.okJ kG (λvs H Q E h=>?_) (λcdv A outer s H vs Q E hr h=>?_)
 . obtain⟨l,ps,rs,rfl,_⟩:=h
   rfl
 . obtain⟨l,ps,rs,rfl,g,q⟩:=h
   refine⟨_,qf (J4 (i:=1) (N':=["_law_name","_law_others"]) (ix:=[none,none]) (g:=xc K 2 (ZX (jH 0) (ZX (jH 1) xf))) kG.nd rfl (Or.inl rfl) rfl ⟨rfl,rfl,rfl,rfl,rfl⟩ (qY (jv 0)) (λC s2 H2 fp pins=>⟨(J5 rfl (ji (qz (i:=0) nd2 rfl (Or.inl rfl)) (ji (qz (i:=1) nd2 rfl (Or.inl rfl)) Q1))),jt,jv 0⟩))
     (qf (qr (i:=2) kG.nd rfl (Or.inl rfl) (qW qe))
     (qf (jw PassesOwn.never rfl (qY (jv 0)) (J5 rfl (ji (qz (i:=3) kG.nd rfl (Or.inl rfl)) (ji (qz (i:=4) kG.nd rfl (Or.inr rfl)) Q1)))
       (qh (jk (jm PySem.F.plainAttrs_list PySem.F.slot_list_append PySem.F.type_list_append jR (jv 2) (qb (jm PySem.F.plainAttrs_str PySem.F.slot_str_join PySem.F.type_str_join jG qy (qb (qE Zy (qW (qb (qE qV (jv 3) qy) qe)) (Qp (N':=["_law_other","_law_others"]) (ix:=[none,some 4]) (tt:=Wh (Vg (Ge K false) (jd 0) (jd 1))) rfl ⟨rfl,rfl,rfl,rfl,rfl⟩ (qY (jv 1)) (λC s2 H2 fp pins=>⟨qz (i:=0) RQ rfl (Or.inl rfl),ZS (qp Y5 (jv 0) (jv 1) (by with_unfolding_all rfl)),jv 0⟩))) qe)) qe)))))
     (qh (qF (jm PySem.F.plainAttrs_str PySem.F.slot_str_join PySem.F.type_str_join jG qy (qb (jv 2) qe)))))),?_⟩
   have le:=g.le
   have lps:=g.rows.1
   refine⟨_,rfl,l,rfl,⟨_,.of g.at_⟩,λD hD=>?_⟩
   refine jN (K:=K) (a:=l) (xs:=ps.map V.ref) (λi σ' H'=>∃v0 v1:Option V,σ'=[v0,v1]/\H'=upd H D (.lst (((rs.take i).map (·.1)).map V.str))) ⟨none,none,rfl,rfl⟩ (λi σ' H' _ ⟨_,_,_,e⟩=>e▸.of (qk g.at_ hD)) ?_ ?_
   . rintro i x σ' H' hx ⟨v0,v1,rfl,rfl⟩
     obtain⟨p',q',r,rfl,er,hr',a,b⟩:=g.rows.item hx
     refine⟨p',_,rfl,.of (qk a hD),rfl,_,_,rfl,_,_,rfl,rfl,_,rfl,_,qd,?_,_,_,rfl,?_⟩
     . rw[List.length_map,List.length_map,List.length_take]
       exact ql (by omega)
     . rw[jx,jp er,List.map_append,List.map_append]
       rfl
   rintro σ' H' ⟨v0,v1,rfl,rfl⟩
   have e:rs.take (ps.map V.ref).length=rs:=List.take_of_length_le (by rw[List.length_map,lps];exact Nat.le_refl _)
   rw[e]
   have s1:Same H (upd H D (.lst ((rs.map (·.1)).map V.str))):=qj hD
   have h1:upd H D (.lst ((rs.map (·.1)).map V.str)) D=some (.lst ((rs.map (·.1)).map V.str)):=qd
   generalize upd H D (.lst ((rs.map (·.1)).map V.str))=H1 at s1 h1
   refine⟨by show 0<=sizeLine;exact Nat.zero_le _,λW fW=>?_⟩
   have s2:=qj (o:=HO.lst []) fW
   have h2:upd H1 W (HO.lst []) W=some (.lst []):=qd
   have fW0:=YU s1 fW
   generalize upd H1 W (HO.lst [])=H2 at s2 h2
   have g2:=g.mono (s1.trans s2)
   refine⟨_,rfl,l,rfl,⟨_,.of g2.at_⟩,?_⟩
   refine jM (K:=K) (a:=l) (xs:=ps.map V.ref) (λi σ' X=>(∃v3 v4,σ'=[some (.ref l),some (.ref D),some (.ref W),v3,v4])/\Same H1 X/\X W=some (.lst ((((told rs).take i).map qB).map V.str))) ⟨⟨none,none,rfl⟩,s2,h2⟩ (λi σ' X _ ⟨_,s,_⟩=>.of (s _ _ (s1 _ _ g.at_))) ?_ ?_
   . rintro i x σ' X hx ⟨⟨v3,v4,rfl⟩,sX,wX⟩
     have gX:=(g.mono s1).mono sX
     obtain⟨p',q',r,rfl,er,hr',a,b⟩:=gX.rows.item hx
     have hi:=(List.getElem?_eq_some_iff.mp er).1
     have nr:=g.good.nmr r hr'
     have l8:=JY nr.1
     refine⟨p',_,rfl,.of a,rfl,_,_,rfl,_,_,rfl,rfl,_,rfl,.inl ⟨rfl,_,.of wX⟩,rfl,_,rfl,_,_,rfl,rfl,?_,by show 1<=sizeLine;decide,λl1 f1=>?_⟩
     . rw[YI]
       exact Nat.le_of_lt (ql (by show r.1.length+1<=1000;omega))
     have s3:=qj (o:=HO.lst [V.str (r.1++Str.ofString ":")]) f1
     have h3:upd X l1 (HO.lst [V.str (r.1++Str.ofString ":")]) l1=some (.lst [V.str (r.1++Str.ofString ":")]):=qd
     generalize upd X l1 (HO.lst [V.str (r.1++Str.ofString ":")])=X1 at s3 h3
     have hD3:=s3 _ _ (sX _ _ h1)
     refine⟨_,rfl,D,rfl,⟨_,.of hD3⟩,λD2 fD2=>?_⟩
     refine XT (K:=K) (a:=D) (xs:=rs.map (·.1)) (enc:=V.str) (out:=λz=>if YJ (.str z) (r.2.map V.str)=true then some (V.str z) else none) (rest:=[some (.ref q')]) fD2 hD3 (ql (by rw[List.length_map];omega)) (λz hz Y sY Rr hR=>?_) (λz hz v ev Y sY Rr hR=>?_) (λX2 s4 hX2=>?_)
     . refine⟨_,rfl,_,rfl,q',_,rfl,.inr (.of (sY _ _ (s3 _ _ b))),rfl,Jg _,_,rfl,?_⟩
       have:=hR Y (Same.refl Y)
       cases cz:YJ (.str z) (r.2.map V.str) with
       | true=>rw[cz,if_pos rfl]at this;exact this
       | false=>rw[cz,if_neg Bool.false_ne_true]at this;exact this
     . split at ev
       . cases ev
         exact⟨_,rfl,hR Y (Same.refl Y)⟩
       . cases ev
     have em:(rs.map (·.1)).filterMap (λz=>if YJ (.str z) (r.2.map V.str)=true then some (V.str z) else none)=(jQ rs r).map V.str:=by
       unfold jQ
       generalize rs.map (·.1)=zs
       induction zs with
       | nil=>rfl
       | cons z zs ih=>
         rw[List.filterMap_cons,List.filter_cons]
         cases YJ (.str z) (r.2.map V.str)
         . simpa using ih
         . simpa using ih
     rw[em]at hX2
     have et:(told rs)[i]?=some (r.1,jQ rs r):=by unfold told;rw[List.getElem?_map,er];rfl
     have mt:=List.mem_of_getElem? et
     have nt:=Q8 g.good _ mt
     have ft:=zS (Qf g.good) mt
     have ft:(jQ rs r).length<=40:=ft
     refine⟨l1,D2,_,_,rfl,rfl,s4 _ _ h3,hX2,Nat.le_of_lt (ql (by rw[List.length_map];show 1+_<=1000;omega)),λl3 f3=>?_⟩
     have s5:=qj (o:=HO.lst ([V.str (r.1++Str.ofString ":")]++(jQ rs r).map V.str)) f3
     refine⟨_,l3,(r.1++jV)::jQ rs r,rfl,rfl,.of (by rw[<-YI];exact qd),Zs (k:=2) (Nat.le_trans (Wa nt ft) (by decide)) (by decide+kernel),?_⟩
     rw[Q0,WJ]
     generalize upd X2 l3 (HO.lst ([V.str (r.1++Str.ofString ":")]++(jQ rs r).map V.str))=X3 at s5
     have s35:=(s3.trans s4).trans s5
     refine⟨W,_,_,rfl,rfl,s35 _ _ wX,?_,⟨_,_,rfl⟩,Same.upd (sX.trans s35) fW,?_⟩
     . rw[List.length_map,List.length_map,List.length_take]
       exact ql (by omega)
     . rw[qd,jp et,List.map_append,List.map_append]
       rfl
   . rintro σ' X ⟨⟨v3,v4,rfl⟩,sX,wX⟩
     have lt:(told rs).length=rs.length:=List.length_map ..
     rw[List.length_map,lps,<-lt,List.take_of_length_le (Nat.le_refl _)]at wX
     refine⟨rfl,_,rfl,_,W,(told rs).map qB,rfl,rfl,.of wX,?_,?_⟩
     . refine Zs (k:=1) ?_ (by decide+kernel)
       have:=ZR (Q8 g.good)
       have:=(Qf g.good).few
       have:QX (told rs)<=40:=this
       omega
     . rw[Q0,yD]
       exact q _ (s1.trans sX)
abbrev nLn:List Str:=["_law_rows_here","_law_source_here","_law_lines_here","_law_name","_law_others","_law_left","_law_words"]
abbrev Re:List Str:=["_law_rows_here","_law_source_here"]
theorem U1:qC nLn Re (qo zQ):=⟨rfl,rfl,rfl,by decide+kernel,rfl,by decide+kernel,by decide+kernel⟩
theorem yn {f fT:Addr} {fd fdT:FuncData} (F:Qj K "_law_lines" "_law_lines" zQ f fd) (B:Zu mg) (G:QB mg) (hT:jC K mg "_law_take" JQ ["_law_source_here","_law_many"] fT fdT):qv P w K mg base jh 2 f fd Re V4:=by
 have GT:qv P w K mg base jh 1 fT fdT ["_law_source_here","_law_many"] Jk:=QY hT.fn
 refine F.okJ U1 (λvs H Q E h=>?_) (λcdv A outer s H vs Q E hr h=>?_)
 . obtain⟨l,d,ps,rs,n,sd,t,rfl,_⟩:=h
   rfl
 . obtain⟨l,d,ps,rs,n,sd,t,rfl,g,hd,q⟩:=h
   have hu:=hr.units0
   have r1:qZ 1 _:=hr.mono (by decide)
   refine⟨_,qf (qr (i:=2) U1.nd rfl (Or.inl rfl) (qW qe))
     (qf (jw PassesOwn.never rfl (qY (jv 0)) (J5 rfl (ji (qz (i:=3) U1.nd rfl (Or.inl rfl)) (ji (qz (i:=4) U1.nd rfl (Or.inl rfl)) Q1)))
       (qf (qr (i:=5) U1.nd rfl (Or.inl rfl) (jT Jw (by rfl) G.lst boot_list (qb (jv 4) qe)))
     (qf (qr (i:=6) U1.nd rfl (Or.inl rfl) (qW (qb (qE qV (jv 3) qy) qe)))
     (qf (yF PassesOwn.never (qp (Um hu) (jv 5) (qW qe) (qA _)) (qh (jk (jm PySem.F.plainAttrs_list PySem.F.slot_list_append PySem.F.type_list_append jR (jv 6) (qb (jm PySem.F.plainAttrs_list PySem.F.slot_list_pop PySem.F.type_list_pop yw (jv 5) (qb (qQ hT GT r1 (by rfl) (qb (jv 1) (qb (qm qH (by rfl) B.len boot_len (qb (jv 5) qe)) qe))) qe)) qe)))))
     (qh (jk (jm PySem.F.plainAttrs_list PySem.F.slot_list_append PySem.F.type_list_append jR (jv 2) (qb (jm PySem.F.plainAttrs_str PySem.F.slot_str_join PySem.F.type_str_join jG qy (qb (jv 6) qe)) qe))))))))
     (qh (qF (jv 2)))),?_⟩
   have le:=g.le
   have lps:=g.rows.1
   refine⟨by show 0<=sizeLine;exact Nat.zero_le _,λW fW=>?_⟩
   have nWd:W≠d:=λe=>by rw[e,hd]at fW;cases fW
   refine⟨_,rfl,l,rfl,⟨_,.of (qk g.at_ fW)⟩,?_⟩
   have ld:l≠d:=λe=>by have:=g.at_;rw[e,hd]at this;cases this
   refine jM (K:=K) (a:=l) (xs:=ps.map V.ref) (λi σ' X=>(∃v3 v4 v5 v6,σ'=[some (.ref l),some (.ref d),some (.ref W),v3,v4,v5,v6])/\Fr H d X/\(∃n' t',X d=some (.dK (qP n' sd t')))/\∃us,vL (rs.take i) us/\X W=some (.lst ((us.map qB).map V.str)))
     ⟨⟨none,none,none,none,rfl⟩,Fr.refl.own fW,⟨n,t,qk hd fW⟩,[],⟨rfl,λi r r' e=>(nomatch e)⟩,qd⟩ (λi σ' X _ ⟨_,s,_⟩=>.of (s _ _ g.at_ ld)) ?_ ?_
   . rintro i x σ' X hx ⟨⟨v3,v4,v5,v6,rfl⟩,fr,⟨n1,t1,hd1⟩,us,pm,wX⟩
     obtain⟨p',q',r,rfl,er,hr',a,b⟩:=g.rows.item hx
     have hi:=(List.getElem?_eq_some_iff.mp er).1
     have nr:=g.good.nmr r hr'
     have fe:=zS g.good hr'
     have l8:=JY nr.1
     have aX:=fr _ _ a (λe=>by rw[e,hd]at a;cases a)
     have bX:=fr _ _ b (λe=>by rw[e,hd]at b;cases b)
     refine⟨p',_,rfl,.of aX,rfl,_,_,rfl,_,_,rfl,rfl,_,rfl,q',_,rfl,.inr (.of bX),λl1 f1=>?_⟩
     have fr1:Fr X d (upd X l1 (.lst (r.2.map V.str))):=Fr.refl.own f1
     have h1:upd X l1 (HO.lst (r.2.map V.str)) l1=some (.lst (r.2.map V.str)):=qd
     have n1d:l1≠d:=λe=>by rw[e,hd1]at f1;cases f1
     have n1W:l1≠W:=λe=>by rw[e,wX]at f1;cases f1
     have hd2:upd X l1 (HO.lst (r.2.map V.str)) d=some (.dK (qP n1 sd t1)):=qk hd1 f1
     have fl1:=fr.fresh hd1 f1
     have wX1:upd X l1 (HO.lst (r.2.map V.str)) W=some (.lst ((us.map qB).map V.str)):=qk wX f1
     have frH1:Fr H d (upd X l1 (.lst (r.2.map V.str))):=fr.own fl1
     generalize upd X l1 (HO.lst (r.2.map V.str))=X1 at fr1 h1 hd2 wX1 frH1
     refine⟨_,rfl,_,_,rfl,rfl,?_,by show 1<=sizeLine;decide,λl2 f2=>?_⟩
     . rw[YI]
       exact Nat.le_of_lt (ql (by show r.1.length+1<=1000;omega))
     rw[YI]
     have h2:upd X1 l2 (HO.lst [V.str (r.1++jV)]) l2=some (.lst ([r.1++jV].map V.str)):=qd
     have n2d:l2≠d:=λe=>by rw[e,hd2]at f2;cases f2
     have n2W:l2≠W:=λe=>by rw[e,wX1]at f2;cases f2
     have n21:l2≠l1:=λe=>by rw[e,h1]at f2;cases f2
     have h12:upd X1 l2 (HO.lst [V.str (r.1++jV)]) l1=some (.lst (r.2.map V.str)):=qk h1 f2
     have hd3:upd X1 l2 (HO.lst [V.str (r.1++jV)]) d=some (.dK (qP n1 sd t1)):=qk hd2 f2
     have fl2:=frH1.fresh hd2 f2
     have wX2:upd X1 l2 (HO.lst [V.str (r.1++jV)]) W=some (.lst ((us.map qB).map V.str)):=qk wX1 f2
     have frH2:Fr H d (upd X1 l2 (.lst [V.str (r.1++jV)])):=frH1.own fl2
     generalize upd X1 l2 (HO.lst [V.str (r.1++jV)])=X2 at h2 h12 hd3 wX2 frH2
     refine vP (λσ' Y=>σ'=[some (.ref l),some (.ref d),some (.ref W),some (.str r.1),some (.ref q'),some (.ref l1),some (.ref l2)]/\Fr H d Y/\Y W=some (.lst ((us.map qB).map V.str))/\∃(n' t':Int) (as bs:List Str),Y d=some (.dK (qP n' sd t'))/\Y l1=some (.lst (as.map V.str))/\Y l2=some (.lst (((r.1++jV)::bs).map V.str))/\(bs++as).Perm r.2)
       (λ_ Y=>match Y l1 with | some (.lst xs)=>xs.length | _=>0) ⟨rfl,frH2,wX2,n1,t1,r.2,[],hd3,h12,h2,List.Perm.refl _⟩ ?_ ?_
     . rintro σ' Y ⟨rfl,frY,wY,n2,t2,as,bs,hdY,y1,y2,pb⟩
       have ln:=pb.length_eq
       rw[List.length_append]at ln
       refine⟨_,rfl,by show 0<=sizeLine;exact Nat.zero_le _,λl0 f0=>?_⟩
       have s0:Same Y (upd Y l0 (.lst [])):=qj f0
       refine⟨l1,l0,_,rfl,rfl,.of (s0 _ _ y1),.of qd,_,rfl,?_⟩
       have fr0:Fr H d (upd Y l0 (.lst [])):=frY.own (frY.fresh hdY f0)
       generalize upd Y l0 (HO.lst [])=Y0 at s0 fr0
       have z1:=s0 _ _ y1
       have z2:=s0 _ _ y2
       have zd:=s0 _ _ hdY
       have zW:=s0 _ _ wY
       cases as with
       | nil=>
         refine jn ?_
         rw[List.append_nil]at pb
         have nr':W0 (r.1,bs):=⟨nr.1,λx hx=>nr.2 x (pb.mem_iff.mp hx)⟩
         have lb:bs.length=r.2.length:=pb.length_eq
         refine⟨_,rfl,.inl ⟨rfl,_,.of zW⟩,rfl,_,rfl,_,l2,(r.1++jV)::bs,rfl,rfl,.of z2,Zs (k:=2) (Nat.le_trans (Wa nr' (by show bs.length<=40;omega)) (by decide)) (by decide+kernel),?_⟩
         rw[Q0,WJ]
         have lu:=pm.1
         rw[List.length_take]at lu
         refine⟨W,_,_,rfl,rfl,zW,by rw[List.length_map,List.length_map];exact ql (by omega),⟨_,_,_,_,rfl⟩,fr0.own fW,⟨n2,t2,by rw[qg (Ne.symm nWd)];exact zd⟩,us++[(r.1,bs)],pm.snoc er rfl pb,?_⟩
         rw[qd,List.map_append,List.map_append]
         rfl
       | cons a0 ar=>
         have lp:0 < (a0::ar).length:=Nat.succ_pos _
         refine jo rfl ?_
         generalize a0::ar=as at*
         refine⟨_,rfl,.inl ⟨rfl,_,.of z2⟩,_,rfl,.inl ⟨rfl,_,.of z1⟩,_,rfl,_,rfl,l1,_,rfl,.inl (.of z1),d,_,n2,sd,t2,rfl,zd,by rw[List.length_map];omega,?_,λk0 n3 t3 k00 k01=>?_⟩
         . rw[List.length_map]
           exact Nat.lt_of_le_of_lt (show ((as.length:Nat):Int).natAbs<=40 by omega) (by decide)
         rw[List.length_map]at k01
         obtain⟨k,rfl⟩:∃k:Nat,k0=(k:Int):=⟨k0.toNat,by omega⟩
         have hk:k < as.length:=by omega
         have ea:(as.map V.str)[k]?=some (V.str as[k]):=by rw[List.getElem?_map,List.getElem?_eq_getElem hk];rfl
         have w1:upd Y0 d (.dK (qP n3 sd t3)) l1=some (.lst (as.map V.str)):=by rw[qg n1d];exact z1
         have w2:upd Y0 d (.dK (qP n3 sd t3)) l2=some (.lst (((r.1++jV)::bs).map V.str)):=by rw[qg n2d];exact z2
         have wd:upd Y0 d (.dK (qP n3 sd t3)) d=some (.dK (qP n3 sd t3)):=qd
         have wW:upd Y0 d (.dK (qP n3 sd t3)) W=some (.lst ((us.map qB).map V.str)):=by rw[qg nWd];exact zW
         have fr1':Fr H d (upd Y0 d (.dK (qP n3 sd t3))):=fr0.at_d
         generalize upd Y0 d (.dK (qP n3 sd t3))=Y1 at w1 w2 wd wW fr1'
         refine⟨l1,_,(k:Int),k,_,rfl,rfl,w1,by omega,by omega,?_,ea,?_⟩
         . rw[List.length_map]
           have:=seqIndex_of (k:=(k:Int)) (n:=as.length) (by omega) (by omega)
           rw[this]
           rfl
         rw[Y8]
         have u1:upd Y1 l1 (.lst ((as.eraseIdx k).map V.str)) l1=some (.lst ((as.eraseIdx k).map V.str)):=qd
         have u2:upd Y1 l1 (.lst ((as.eraseIdx k).map V.str)) l2=some (.lst (((r.1++jV)::bs).map V.str)):=by rw[qg n21];exact w2
         have ud:upd Y1 l1 (.lst ((as.eraseIdx k).map V.str)) d=some (.dK (qP n3 sd t3)):=by rw[qg (Ne.symm n1d)];exact wd
         have uW:upd Y1 l1 (.lst ((as.eraseIdx k).map V.str)) W=some (.lst ((us.map qB).map V.str)):=by rw[qg (Ne.symm n1W)];exact wW
         have fr2':Fr H d (upd Y1 l1 (.lst ((as.eraseIdx k).map V.str))):=fr1'.own fl1
         generalize upd Y1 l1 (.lst ((as.eraseIdx k).map V.str))=Y2 at u1 u2 ud uW fr2'
         have lk:=ln
         refine⟨l2,_,_,rfl,rfl,u2,?_,⟨rfl,fr2'.own fl2,?_,n3,t3,as.eraseIdx k,bs++[as[k]],?_,?_,?_,?_⟩,?_⟩
         . rw[List.length_map,List.length_cons]
           exact ql (by omega)
         . rw[qg (Ne.symm n2W)];exact uW
         . rw[qg (Ne.symm n2d)];exact ud
         . rw[qg (Ne.symm n21)];exact u1
         . rw[qd,List.map_cons,List.map_cons,List.map_append];rfl
         . rw[List.append_assoc]
           exact((Wz (List.getElem?_eq_getElem hk)).append_left bs).trans pb
         . show (match upd Y2 l2 (.lst (((r.1++jV)::bs).map V.str++[V.str as[k]])) l1 with | some (.lst xs)=>xs.length | _=>0) < (match Y l1 with | some (.lst xs)=>xs.length | _=>0)
           rw[qg (Ne.symm n21),u1,y1]
           show ((as.eraseIdx k).map V.str).length < (as.map V.str).length
           rw[List.length_map,List.length_map,List.length_eraseIdx,if_pos hk]
           omega
     . rintro σ' H' Q Q' g ⟨v,e,z,h⟩
       exact⟨v,e,z,λp hp=>let ⟨a,b,xs,e1,e2,s1,s2,k,e3,w⟩:=h p hp;⟨a,b,xs,e1,e2,s1,s2,k,e3,g _ _ w⟩⟩
   . rintro σ' X ⟨⟨v3,v4,v5,v6,rfl⟩,fr,⟨n1,t1,hd1⟩,us,pm,wX⟩
     rw[List.length_map,lps,List.take_of_length_le (Nat.le_refl _)]at pm
     exact⟨_,rfl,q W us n1 t1 X fW fr hd1 wX pm⟩
end
end Rh
set_option Elab.async false
set_option linter.all false
set_option maxRecDepth 100000
set_option maxHeartbeats 4000000
/-! LINES SPOILED. -/
namespace Rh
open PySem L2 PyProof.Rows
theorem ZZ (zs:List Str) (k:Nat):Jv (zs.map V.str) none (some (k:Int))=(zs.take k).map V.str:=by
 unfold Jv
 rw[HT.sIx_none,HT.sIx_nat,List.length_map,List.drop_zero,Nat.sub_zero,<-List.map_take]
 congr 1
 by_cases h:k<=zs.length
 . rw[Nat.min_eq_left h]
 . rw[Nat.min_eq_right (by omega),List.take_of_length_le (Nat.le_refl _),List.take_of_length_le (by omega)]
theorem Yy (zs:List Str) (k:Nat):Jv (zs.map V.str) (some (k:Int)) none=(zs.drop k).map V.str:=by
 unfold Jv
 rw[HT.sIx_none,HT.sIx_nat,List.length_map,<-List.map_drop,<-List.map_take]
 congr 1
 by_cases h:k<=zs.length
 . rw[Nat.min_eq_left h,List.take_of_length_le (by rw[List.length_drop];exact Nat.le_refl _)]
 . rw[Nat.min_eq_right (by omega),List.drop_of_length_le (Nat.le_refl _),List.drop_of_length_le (by omega),List.take_nil]
theorem Xp {k:Nat} {l:List Str} {i:Nat} {x:Str} (h:l[i]?=some x) (y:Str):tw k (l.set i y)+wt x=tw k l+wt y:=by
 obtain⟨hi,rfl⟩:=List.getElem?_eq_some_iff.mp h
 have e:=Va (k:=k) h
 rw[List.set_eq_take_append_cons_drop,if_pos hi,JL,jE]
 omega
theorem zz {n k:Nat} (h:k < n):xE n (k:Int)=some k:=by
 unfold xE
 rw[if_pos (by omega),if_pos (by omega)]
 rfl
theorem Z4 {zs:List Str} {j:Nat} {x:Str} (h:zs[j]?=some x):W7 (zs.map V.str) (j:Int)=some (V.str x):=Z1 (by rw[List.getElem?_map,h];rfl)
theorem Q9 {n:Nat} (h:n<=2000):((n:Nat):Int).natAbs < 2^200:=Nat.lt_of_le_of_lt (show ((n:Nat):Int).natAbs<=2000 by omega) (by decide)
def ui:Sp:=λvs H Q _=>∃(W d:Addr) (ls:List Str) (n sd t:Int),vs=[.ref W,.ref d]/\H W=some (.lst (ls.map V.str))/\H d=some (.dK (qP n sd t))/\0 < ls.length/\tw 1 ls<=540/\(∀x∈ls,wt x<=409)/\
 ∀(W':Addr) (ms:List Str) (n' t':Int) (H':Hp),Fr H d H'->H' d=some (.dK (qP n' sd t'))->H' W'=some (.lst (ms.map V.str))->tw 1 ms<=960->Q (.ref W') H'
section
variable {P:Program} {w:World} {K:PySem.W.Frag} {mg:Str->Option Value} {base:Heap}
abbrev nSL:List Str:=["_law_lines_here","_law_source_here","_law_at","_law_other","_law_words","_law_which","_law_way","_law_found"]
abbrev Rc:List Str:=["_law_lines_here","_law_source_here"]
theorem Vr:qC nSL Rc (qo Uc):=⟨rfl,rfl,rfl,by decide+kernel,rfl,by decide+kernel,by decide+kernel⟩
theorem Ka {f fT:Addr} {fd fdT:FuncData} (F:Qj K "_law_spoiled_lines" "_law_spoiled_lines" Uc f fd) (B:Zu mg) (G:QB mg) (hT:jC K mg "_law_take" JQ ["_law_source_here","_law_many"] fT fdT):qv P w K mg base jh 2 f fd Rc ui:=by
 have GT:qv P w K mg base jh 1 fT fdT ["_law_source_here","_law_many"] Jk:=QY hT.fn
 refine F.okJ Vr (λvs H Q E h=>?_) (λcdv A outer s H vs Q E hr h=>?_)
 . obtain⟨W,d,ls,n,sd,t,rfl,_⟩:=h
   rfl
 . obtain⟨W,d,ls,n,sd,t,rfl,hW,hd,pos,tl,wl,q⟩:=h
   have r1:qZ 1 _:=hr.mono (by decide)
   refine⟨_,qf (qr (i:=2) Vr.nd rfl (Or.inl rfl) (qQ hT GT r1 (by rfl) (qb (jv 1) (qb (qm qH (by rfl) B.len boot_len (qb (jv 0) qe)) qe))))
     (qf (qr (i:=3) Vr.nd rfl (Or.inl rfl) (qQ hT GT r1 (by rfl) (qb (jv 1) (qb (qm qH (by rfl) B.len boot_len (qb (jv 0) qe)) qe))))
     (qf (qr (i:=4) Vr.nd rfl (Or.inl rfl) (jm PySem.F.plainAttrs_str PySem.F.slot_str_split PySem.F.type_str_split Qo (qU je (jv 0) (jv 2) (λ_ _=>rfl)) (qb qy qe)))
     (qf (qr (i:=5) Vr.nd rfl (Or.inl rfl) (qQ hT GT r1 (by rfl) (qb (jv 1) (qb (qm qH (by rfl) B.len boot_len (qb (jv 4) qe)) qe))))
     (qf (qr (i:=6) Vr.nd rfl (Or.inl rfl) (qQ hT GT r1 (by rfl) (qb (jv 1) (qb qi qe))))
     (qf (qr (i:=7) Vr.nd rfl (Or.inl rfl) (jT Jw (by rfl) G.lst boot_list (qb (jv 0) qe)))
     (qf (qK (qp jz (jv 6) qi (qA _)) (qh (qF (qE Zy (qE Zy (qM jF (jv 7) qT (qS (jv 2))) (qW (qb (qU je (jv 7) (jv 3) (λ_ _=>rfl)) qe))) (qM jF (jv 7) (qS (jv 2)) qT)))) qu)
     (qf (qK (qp jz (jv 6) qi (qA _)) (qh (qF (qE Zy (qM jF (jv 7) qT (qS (jv 2))) (qM jF (jv 7) (qS (qE jD (jv 2) qi)) qT)))) qu)
     (qf (qK (qp jz (jv 6) qi (qA _)) (qf (zr (qU je (jv 0) (jv 3) (λ_ _=>rfl)) (zv (jv 7) (jv 2) Ja))
     (qh (zr (qU je (jv 0) (jv 2) (λ_ _=>rfl)) (zv (jv 7) (jv 3) Ja)))) qu)
     (qf (qK (qp jz (jv 6) qi (qA _)) (qh (zr (jm PySem.F.plainAttrs_str PySem.F.slot_str_join PySem.F.type_str_join jG qy (qb (qE Zy (qM jF (jv 4) qT (qS (qE jD (jv 5) qi))) (qM jF (jv 4) (qS (jv 5)) qT)) qe)) (zv (jv 7) (jv 2) Ja))) qu)
     (qf (qK (qp jz (jv 6) qi (qA _)) (qh (zr (jm PySem.F.plainAttrs_str PySem.F.slot_str_join PySem.F.type_str_join jG qy (qb (qE Zy (qM jF (jv 4) qT (qS (jv 5))) (qM jF (jv 4) (qS (qE jD (jv 5) qi)) qT)) qe)) (zv (jv 7) (jv 2) Ja))) qu)
     (qf (qK (qp jz (jv 6) qi (qA _)) (qf (zr (qE qV (qU je (jv 4) (jv 5) (λ_ _=>rfl)) qy) (zv (jv 4) (jv 5) Ja))
     (qh (zr (jm PySem.F.plainAttrs_str PySem.F.slot_str_join PySem.F.type_str_join jG qy (qb (jv 4) qe)) (zv (jv 7) (jv 2) Ja)))) qu)
     (qh (qF (jv 7)))))))))))))),?_⟩
   have len:=W9 (k:=1) (Nat.le_refl _) ls
   have nWd:W≠d:=λe=>by rw[e,hd]at hW;cases hW
   have ll:(ls.map V.str).length=ls.length:=List.length_map ..
   refine⟨_,rfl,_,rfl,W,_,rfl,.inl (.of hW),d,_,n,sd,t,rfl,hd,by rw[ll];omega,by rw[ll];exact Q9 (by omega),λa0 n1 t1 a00 a01=>?_⟩
   rw[ll]at a01
   obtain⟨a,rfl⟩:∃k:Nat,a0=(k:Int):=⟨a0.toNat,by omega⟩
   have ha:a < ls.length:=by omega
   have hd1:upd H d (.dK (qP n1 sd t1)) d=some (.dK (qP n1 sd t1)):=qd
   have hW1:upd H d (.dK (qP n1 sd t1)) W=some (.lst (ls.map V.str)):=by rw[qg nWd];exact hW
   have fr1:Fr H d (upd H d (.dK (qP n1 sd t1))):=Fr.refl.at_d
   generalize upd H d (.dK (qP n1 sd t1))=H1 at hd1 hW1 fr1
   refine⟨_,rfl,_,rfl,W,_,rfl,.inl (.of hW1),d,_,n1,sd,t1,rfl,hd1,by rw[ll];omega,by rw[ll];exact Q9 (by omega),λo0 n2 t2 o00 o01=>?_⟩
   rw[ll]at o01
   obtain⟨o,rfl⟩:∃k:Nat,o0=(k:Int):=⟨o0.toNat,by omega⟩
   have ho:o < ls.length:=by omega
   have hd2:upd H1 d (.dK (qP n2 sd t2)) d=some (.dK (qP n2 sd t2)):=qd
   have hW2:upd H1 d (.dK (qP n2 sd t2)) W=some (.lst (ls.map V.str)):=by rw[qg nWd];exact hW1
   have fr2:Fr H d (upd H1 d (.dK (qP n2 sd t2))):=fr1.at_d
   generalize upd H1 d (.dK (qP n2 sd t2))=H2 at hd2 hW2 fr2
   have ea:=List.getElem?_eq_getElem (l:=ls) ha
   have eo:=List.getElem?_eq_getElem (l:=ls) ho
   have wa:=wl _ (List.getElem_mem ha)
   have wo:=wl _ (List.getElem_mem ho)
   generalize ls[a]=xa at ea wa
   generalize ls[o]=xo at eo wo
   have la:=Ji xa
   refine⟨_,rfl,_,rfl,W,_,(a:Int),.str xa,rfl,rfl,.of hW2,Z4 ea,rfl,xa,_,rfl,rfl,by decide+kernel,by omega,λlw fw=>?_⟩
   rw[WJ]
   have tws:tw 2 (Txt.split xa QA)=wt xa+2:=kc xa 32
   have wne:=Qn xa QA
   generalize Txt.split xa QA=ws at tws wne
   have lws:=W9 (k:=2) (by decide) ws
   have pws:0 < ws.length:=List.length_pos_iff.mpr wne
   have h3:upd H2 lw (HO.lst (ws.map V.str)) lw=some (.lst (ws.map V.str)):=qd
   have hd3:upd H2 lw (HO.lst (ws.map V.str)) d=some (.dK (qP n2 sd t2)):=qk hd2 fw
   have hW3:upd H2 lw (HO.lst (ws.map V.str)) W=some (.lst (ls.map V.str)):=qk hW2 fw
   have nwd:lw≠d:=λe=>by rw[e,hd2]at fw;cases fw
   have fw0:=fr2.fresh hd2 fw
   have fr3:Fr H d (upd H2 lw (.lst (ws.map V.str))):=fr2.own fw0
   generalize upd H2 lw (HO.lst (ws.map V.str))=H3 at h3 hd3 hW3 fr3
   have lv:(ws.map V.str).length=ws.length:=List.length_map ..
   refine⟨_,rfl,_,rfl,lw,_,rfl,.inl (.of h3),d,_,n2,sd,t2,rfl,hd3,by rw[lv];omega,by rw[lv];exact Q9 (by omega),λk0 n4 t4 k00 k01=>?_⟩
   rw[lv]at k01
   obtain⟨k,rfl⟩:∃k:Nat,k0=(k:Int):=⟨k0.toNat,by omega⟩
   have hk:k < ws.length:=by omega
   have ek:=List.getElem?_eq_getElem (l:=ws) hk
   generalize ws[k]=wk at ek
   have hd4:upd H3 d (.dK (qP n4 sd t4)) d=some (.dK (qP n4 sd t4)):=qd
   have hW4:upd H3 d (.dK (qP n4 sd t4)) W=some (.lst (ls.map V.str)):=by rw[qg nWd];exact hW3
   have h4:upd H3 d (.dK (qP n4 sd t4)) lw=some (.lst (ws.map V.str)):=by rw[qg nwd];exact h3
   have fr4:Fr H d (upd H3 d (.dK (qP n4 sd t4))):=fr3.at_d
   generalize upd H3 d (.dK (qP n4 sd t4))=H4 at hd4 hW4 fr4 h4
   refine⟨_,rfl,d,6,n4,sd,t4,rfl,hd4,by decide,by decide,λy n5 t5 y0 y1=>?_⟩
   have hd5:upd H4 d (.dK (qP n5 sd t5)) d=some (.dK (qP n5 sd t5)):=qd
   have hW5:upd H4 d (.dK (qP n5 sd t5)) W=some (.lst (ls.map V.str)):=by rw[qg nWd];exact hW4
   have h5:upd H4 d (.dK (qP n5 sd t5)) lw=some (.lst (ws.map V.str)):=by rw[qg nwd];exact h4
   have fr5:Fr H d (upd H4 d (.dK (qP n5 sd t5))):=fr4.at_d
   generalize upd H4 d (.dK (qP n5 sd t5))=H5 at hd5 hW5 fr5 h5
   refine⟨_,rfl,W,_,rfl,.inl (.of hW5),λlf ff=>?_⟩
   have nfd:lf≠d:=λe=>by rw[e,hd5]at ff;cases ff
   have nfW:lf≠W:=λe=>by rw[e,hW5]at ff;cases ff
   have nfw:lf≠lw:=λe=>by rw[e,h5]at ff;cases ff
   have f6:upd H5 lf (HO.lst (ls.map V.str)) lf=some (.lst (ls.map V.str)):=qd
   have hd6:upd H5 lf (HO.lst (ls.map V.str)) d=some (.dK (qP n5 sd t5)):=qk hd5 ff
   have hW6:upd H5 lf (HO.lst (ls.map V.str)) W=some (.lst (ls.map V.str)):=qk hW5 ff
   have h6:upd H5 lf (HO.lst (ls.map V.str)) lw=some (.lst (ws.map V.str)):=qk h5 ff
   have ff0:=fr5.fresh hd5 ff
   have fr6:Fr H d (upd H5 lf (.lst (ls.map V.str))):=fr5.own ff0
   generalize upd H5 lf (HO.lst (ls.map V.str))=X at f6 hd6 hW6 h6 fr6
   have sz:∀{m:Nat},m<=2000->m<=sizeLine:=λh=>Nat.le_of_lt (Z6 h)
   have cut1:∀(l:List Str) (j:Nat),Jv (l.map V.str) (some ((j:Nat)+(1:Int))) none=(l.drop (j+1)).map V.str:=λl j=>Yy l (j+1)
   have cut2:∀(l:List Str) (j:Nat),Jv (l.map V.str) none (some ((j:Nat)+(1:Int)))=(l.take (j+1)).map V.str:=λl j=>ZZ l (j+1)
   have i0:∀(i j:Int),i≠j->decide (V.int i=V.int j)=false:=λi j h=>decide_eq_false λe=>h (V.int.inj e)
   have i1:∀(i:Int),decide (V.int i=V.int i)=true:=λi=>decide_eq_true rfl
   have gk:=Va (k:=2) ek
   have end_:∀(Y:Hp) (y:Str),Fr H d Y->Y d=some (.dK (qP n5 sd t5))->Y lf=some (.lst (ls.map V.str))->wt y<=wt xa+415->Q (.ref lf) (upd Y lf (.lst ((ls.map V.str).set a (.str y)))):=λY y frY dY fY hy=>by
     have e:=Xp (k:=1) ea y
     refine q lf (ls.set a y) n5 t5 _ (frY.own ff0) (by rw[qg (Ne.symm nfd)];exact dY) (by rw[qd,List.map_set]) (by omega)
   have:y=0\/y=1\/y=2\/y=3\/y=4\/y=5:=by omega
   rcases this with rfl | rfl | rfl | rfl | rfl | rfl
   . refine⟨_,rfl,rfl,_,rfl,jo (i1 0) ?_⟩
     refine⟨_,rfl,_,rfl,_,rfl,lf,_,rfl,.of f6,λp1 g1=>?_⟩
     rw[ZZ]
     have u1:=qj (o:=HO.lst ((ls.take a).map V.str)) g1
     have v1:upd X p1 (HO.lst ((ls.take a).map V.str)) p1=some (.lst ((ls.take a).map V.str)):=qd
     generalize upd X p1 (HO.lst ((ls.take a).map V.str))=X1 at u1 v1
     refine⟨_,rfl,_,rfl,lf,_,(o:Int),.str xo,rfl,rfl,.of (u1 _ _ f6),Z4 eo,by show 1<=sizeLine;decide,λp2 g2=>?_⟩
     have u2:=qj (o:=HO.lst [V.str xo]) g2
     have v2:upd X1 p2 (HO.lst [V.str xo]) p2=some (.lst [V.str xo]):=qd
     generalize upd X1 p2 (HO.lst [V.str xo])=X2 at u2 v2
     refine⟨p1,p2,_,_,rfl,rfl,u2 _ _ v1,v2,sz (by rw[List.length_map,List.length_take];show _+1<=_;omega),λp3 g3=>?_⟩
     have u3:=qj (o:=HO.lst ((ls.take a).map V.str++[V.str xo])) g3
     have v3:upd X2 p3 (HO.lst ((ls.take a).map V.str++[V.str xo])) p3=some (.lst ((ls.take a).map V.str++[V.str xo])):=qd
     generalize upd X2 p3 (HO.lst ((ls.take a).map V.str++[V.str xo]))=X3 at u3 v3
     refine⟨_,rfl,_,rfl,_,rfl,lf,_,rfl,.of (u3 _ _ (u2 _ _ (u1 _ _ f6))),λp4 g4=>?_⟩
     rw[Yy]
     have u4:=qj (o:=HO.lst ((ls.drop a).map V.str)) g4
     have v4:upd X3 p4 (HO.lst ((ls.drop a).map V.str)) p4=some (.lst ((ls.drop a).map V.str)):=qd
     generalize upd X3 p4 (HO.lst ((ls.drop a).map V.str))=X4 at u4 v4
     refine⟨p3,p4,_,_,rfl,rfl,u4 _ _ v3,v4,sz (by rw[List.length_append,List.length_map,List.length_map,List.length_take,List.length_drop];show _+1+_<=_;omega),λp5 g5=>?_⟩
     have u5:=qj (o:=HO.lst ((ls.take a).map V.str++[V.str xo]++(ls.drop a).map V.str)) g5
     have us:=(((u1.trans u2).trans u3).trans u4).trans u5
     refine q p5 (ls.take a++[xo]++ls.drop a) n5 t5 _ (fr6.same us) (us _ _ hd6) (by rw[List.map_append,List.map_append];exact qd) ?_
     have e1:=Xo 1 ls a
     have e2:tw 1 [xo]=wt xo+1:=by rw[jE];rfl
     rw[JL,JL,e2]
     omega
   . refine⟨_,rfl,rfl,_,rfl,qJ (i0 1 0 (by decide)) ?_⟩
     refine⟨_,rfl,rfl,_,rfl,jo (i1 1) ?_⟩
     refine⟨_,rfl,_,rfl,_,rfl,lf,_,rfl,.of f6,λp1 g1=>?_⟩
     rw[ZZ]
     have u1:=qj (o:=HO.lst ((ls.take a).map V.str)) g1
     have v1:upd X p1 (HO.lst ((ls.take a).map V.str)) p1=some (.lst ((ls.take a).map V.str)):=qd
     generalize upd X p1 (HO.lst ((ls.take a).map V.str))=X1 at u1 v1
     refine⟨_,rfl,_,rfl,_,_,rfl,rfl,_,rfl,lf,_,rfl,.of (u1 _ _ f6),λp4 g4=>?_⟩
     rw[cut1]
     have u4:=qj (o:=HO.lst ((ls.drop (a+1)).map V.str)) g4
     have v4:upd X1 p4 (HO.lst ((ls.drop (a+1)).map V.str)) p4=some (.lst ((ls.drop (a+1)).map V.str)):=qd
     generalize upd X1 p4 (HO.lst ((ls.drop (a+1)).map V.str))=X4 at u4 v4
     refine⟨p1,p4,_,_,rfl,rfl,u4 _ _ v1,v4,sz (by rw[List.length_map,List.length_map,List.length_take,List.length_drop];omega),λp5 g5=>?_⟩
     have u5:=qj (o:=HO.lst ((ls.take a).map V.str++(ls.drop (a+1)).map V.str)) g5
     have us:=(u1.trans u4).trans u5
     refine q p5 (ls.take a++ls.drop (a+1)) n5 t5 _ (fr6.same us) (us _ _ hd6) (by rw[List.map_append];exact qd) ?_
     have e1:=Va (k:=1) ea
     rw[JL]
     omega
   . refine⟨_,rfl,rfl,_,rfl,qJ (i0 2 0 (by decide)) ?_⟩
     refine⟨_,rfl,rfl,_,rfl,qJ (i0 2 1 (by decide)) ?_⟩
     refine⟨_,rfl,rfl,_,rfl,jo (i1 2) ?_⟩
     refine⟨_,rfl,_,rfl,W,_,(o:Int),.str xo,rfl,rfl,.of hW6,Z4 eo,_,rfl,_,rfl,lf,_,(a:Int),a,rfl,rfl,f6,zz (by rw[ll];exact ha),?_⟩
     have hW7:upd X lf (.lst ((ls.map V.str).set a (.str xo))) W=some (.lst (ls.map V.str)):=by rw[qg (Ne.symm nfW)];exact hW6
     have hd7:upd X lf (.lst ((ls.map V.str).set a (.str xo))) d=some (.dK (qP n5 sd t5)):=by rw[qg (Ne.symm nfd)];exact hd6
     have f7:upd X lf (.lst ((ls.map V.str).set a (.str xo))) lf=some (.lst ((ls.set a xo).map V.str)):=by rw[qd,List.map_set]
     have fr7:Fr H d (upd X lf (.lst ((ls.map V.str).set a (.str xo)))):=fr6.own ff0
     generalize upd X lf (.lst ((ls.map V.str).set a (.str xo)))=X7 at hW7 hd7 f7 fr7
     refine⟨_,rfl,_,rfl,W,_,(a:Int),.str xa,rfl,rfl,.of hW7,Z4 ea,_,rfl,_,rfl,lf,_,(o:Int),o,rfl,rfl,f7,zz (by rw[List.length_map,List.length_set];exact ho),?_⟩
     have hd8:upd X7 lf (.lst (((ls.set a xo).map V.str).set o (.str xa))) d=some (.dK (qP n5 sd t5)):=by rw[qg (Ne.symm nfd)];exact hd7
     have f8:upd X7 lf (.lst (((ls.set a xo).map V.str).set o (.str xa))) lf=some (.lst (((ls.set a xo).set o xa).map V.str)):=by simp only[qd,List.map_set]
     have fr8:Fr H d (upd X7 lf (.lst (((ls.set a xo).map V.str).set o (.str xa)))):=fr7.own ff0
     generalize upd X7 lf (.lst (((ls.set a xo).map V.str).set o (.str xa)))=X8 at hd8 f8 fr8
     refine⟨_,rfl,rfl,_,rfl,qJ (i0 2 3 (by decide)) ?_⟩
     refine⟨_,rfl,rfl,_,rfl,qJ (i0 2 4 (by decide)) ?_⟩
     refine⟨_,rfl,rfl,_,rfl,qJ (i0 2 5 (by decide)) ?_⟩
     refine⟨_,rfl,q lf _ n5 t5 X8 fr8 hd8 f8 ?_⟩
     have e1:=Xp (k:=1) ea xo
     have e3:(ls.set a xo)[o]?=some xo:=by
       rw[List.getElem?_set]
       split
       . rfl
       . exact eo
     have e2:=Xp (k:=1) e3 xa
     omega
   . refine⟨_,rfl,rfl,_,rfl,qJ (i0 3 0 (by decide)) ?_⟩
     refine⟨_,rfl,rfl,_,rfl,qJ (i0 3 1 (by decide)) ?_⟩
     refine⟨_,rfl,rfl,_,rfl,qJ (i0 3 2 (by decide)) ?_⟩
     refine⟨_,rfl,rfl,_,rfl,jo (i1 3) ?_⟩
     refine⟨rfl,_,rfl,_,rfl,_,_,rfl,rfl,_,rfl,lw,_,rfl,.of h6,λp1 g1=>?_⟩
     rw[cut2]
     have u1:=qj (o:=HO.lst ((ws.take (k+1)).map V.str)) g1
     have v1:upd X p1 (HO.lst ((ws.take (k+1)).map V.str)) p1=some (.lst ((ws.take (k+1)).map V.str)):=qd
     generalize upd X p1 (HO.lst ((ws.take (k+1)).map V.str))=X1 at u1 v1
     refine⟨_,rfl,_,rfl,_,rfl,lw,_,rfl,.of (u1 _ _ h6),λp4 g4=>?_⟩
     rw[Yy]
     have u4:=qj (o:=HO.lst ((ws.drop k).map V.str)) g4
     have v4:upd X1 p4 (HO.lst ((ws.drop k).map V.str)) p4=some (.lst ((ws.drop k).map V.str)):=qd
     generalize upd X1 p4 (HO.lst ((ws.drop k).map V.str))=X4 at u4 v4
     refine⟨p1,p4,_,_,rfl,rfl,u4 _ _ v1,v4,sz (by rw[List.length_map,List.length_map,List.length_take,List.length_drop];omega),λp5 g5=>?_⟩
     have u5:=qj (o:=HO.lst ((ws.take (k+1)).map V.str++(ws.drop k).map V.str)) g5
     have v5:upd X4 p5 (HO.lst ((ws.take (k+1)).map V.str++(ws.drop k).map V.str)) p5=some (.lst ((ws.take (k+1)++ws.drop k).map V.str)):=by rw[List.map_append];exact qd
     generalize upd X4 p5 (HO.lst ((ws.take (k+1)).map V.str++(ws.drop k).map V.str))=X5 at u5 v5
     have us:=(u1.trans u4).trans u5
     have te:tw 2 (ws.take (k+1)++ws.drop k)=tw 2 ws+(wt wk+2):=by
       have e1:=Xo 2 ws k
       have e2:tw 2 [wk]=wt wk+2:=by rw[jE];rfl
       rw[jp ek,JL,JL,e2]
       omega
     have tj:wt (Str.join QA (ws.take (k+1)++ws.drop k))<=tw (cw 32) (ws.take (k+1)++ws.drop k):=QV (c:=32) (ws.take (k+1)++ws.drop k)
     rw[show cw 32=2 from rfl,te]at tj
     refine⟨_,p5,_,rfl,rfl,.of v5,Zs (k:=2) (by rw[te];omega) (by decide+kernel),?_⟩
     rw[Q0]
     refine⟨_,rfl,_,rfl,lf,_,(a:Int),a,rfl,rfl,us _ _ f6,zz (by rw[ll];exact ha),?_⟩
     refine⟨_,rfl,rfl,_,rfl,qJ (i0 3 4 (by decide)) ?_⟩
     refine⟨_,rfl,rfl,_,rfl,qJ (i0 3 5 (by decide)) ?_⟩
     exact⟨_,rfl,end_ X5 _ (fr6.same us) (us _ _ hd6) (us _ _ f6) (by omega)⟩
   . refine⟨_,rfl,rfl,_,rfl,qJ (i0 4 0 (by decide)) ?_⟩
     refine⟨_,rfl,rfl,_,rfl,qJ (i0 4 1 (by decide)) ?_⟩
     refine⟨_,rfl,rfl,_,rfl,qJ (i0 4 2 (by decide)) ?_⟩
     refine⟨_,rfl,rfl,_,rfl,qJ (i0 4 3 (by decide)) ?_⟩
     refine⟨_,rfl,rfl,_,rfl,jo (i1 4) ?_⟩
     refine⟨rfl,_,rfl,_,rfl,_,rfl,lw,_,rfl,.of h6,λp1 g1=>?_⟩
     rw[ZZ]
     have u1:=qj (o:=HO.lst ((ws.take k).map V.str)) g1
     have v1:upd X p1 (HO.lst ((ws.take k).map V.str)) p1=some (.lst ((ws.take k).map V.str)):=qd
     generalize upd X p1 (HO.lst ((ws.take k).map V.str))=X1 at u1 v1
     refine⟨_,rfl,_,rfl,_,_,rfl,rfl,_,rfl,lw,_,rfl,.of (u1 _ _ h6),λp4 g4=>?_⟩
     rw[cut1]
     have u4:=qj (o:=HO.lst ((ws.drop (k+1)).map V.str)) g4
     have v4:upd X1 p4 (HO.lst ((ws.drop (k+1)).map V.str)) p4=some (.lst ((ws.drop (k+1)).map V.str)):=qd
     generalize upd X1 p4 (HO.lst ((ws.drop (k+1)).map V.str))=X4 at u4 v4
     refine⟨p1,p4,_,_,rfl,rfl,u4 _ _ v1,v4,sz (by rw[List.length_map,List.length_map,List.length_take,List.length_drop];omega),λp5 g5=>?_⟩
     have u5:=qj (o:=HO.lst ((ws.take k).map V.str++(ws.drop (k+1)).map V.str)) g5
     have v5:upd X4 p5 (HO.lst ((ws.take k).map V.str++(ws.drop (k+1)).map V.str)) p5=some (.lst ((ws.take k++ws.drop (k+1)).map V.str)):=by rw[List.map_append];exact qd
     generalize upd X4 p5 (HO.lst ((ws.take k).map V.str++(ws.drop (k+1)).map V.str))=X5 at u5 v5
     have us:=(u1.trans u4).trans u5
     have te:tw 2 (ws.take k++ws.drop (k+1))<=tw 2 ws:=by rw[JL];omega
     have tj:wt (Str.join QA (ws.take k++ws.drop (k+1)))<=tw (cw 32) (ws.take k++ws.drop (k+1)):=QV (c:=32) (ws.take k++ws.drop (k+1))
     rw[show cw 32=2 from rfl]at tj
     refine⟨_,p5,_,rfl,rfl,.of v5,Zs (k:=2) (by omega) (by decide+kernel),?_⟩
     rw[Q0]
     refine⟨_,rfl,_,rfl,lf,_,(a:Int),a,rfl,rfl,us _ _ f6,zz (by rw[ll];exact ha),?_⟩
     refine⟨_,rfl,rfl,_,rfl,qJ (i0 4 5 (by decide)) ?_⟩
     exact⟨_,rfl,end_ X5 _ (fr6.same us) (us _ _ hd6) (us _ _ f6) (by omega)⟩
   . refine⟨_,rfl,rfl,_,rfl,qJ (i0 5 0 (by decide)) ?_⟩
     refine⟨_,rfl,rfl,_,rfl,qJ (i0 5 1 (by decide)) ?_⟩
     refine⟨_,rfl,rfl,_,rfl,qJ (i0 5 2 (by decide)) ?_⟩
     refine⟨_,rfl,rfl,_,rfl,qJ (i0 5 3 (by decide)) ?_⟩
     refine⟨_,rfl,rfl,_,rfl,qJ (i0 5 4 (by decide)) ?_⟩
     refine⟨_,rfl,rfl,_,rfl,jo (i1 5) ?_⟩
     have z8:(Str.ofString "zzzzzzzz").length=8:=by decide+kernel
     have w8:wt (Str.ofString "zzzzzzzz")=8:=by decide+kernel
     have lk:=Ji wk
     refine⟨_,rfl,_,rfl,lw,_,(k:Int),.str wk,rfl,rfl,.of h6,Z4 ek,_,_,rfl,rfl,sz (by omega),_,rfl,_,rfl,lw,_,(k:Int),k,rfl,rfl,h6,zz (by rw[lv];exact hk),?_⟩
     have hd7:upd X lw (.lst ((ws.map V.str).set k (.str (wk++Str.ofString "zzzzzzzz")))) d=some (.dK (qP n5 sd t5)):=by rw[qg (Ne.symm nwd)];exact hd6
     have h7:upd X lw (.lst ((ws.map V.str).set k (.str (wk++Str.ofString "zzzzzzzz")))) lw=some (.lst ((ws.set k (wk++Str.ofString "zzzzzzzz")).map V.str)):=by rw[qd,List.map_set]
     have f7:upd X lw (.lst ((ws.map V.str).set k (.str (wk++Str.ofString "zzzzzzzz")))) lf=some (.lst (ls.map V.str)):=by rw[qg nfw];exact f6
     have fr7:Fr H d (upd X lw (.lst ((ws.map V.str).set k (.str (wk++Str.ofString "zzzzzzzz"))))):=fr6.own fw0
     generalize upd X lw (.lst ((ws.map V.str).set k (.str (wk++Str.ofString "zzzzzzzz"))))=X7 at hd7 h7 f7 fr7
     have te:=Xp (k:=2) ek (wk++Str.ofString "zzzzzzzz")
     rw[vO,w8]at te
     have tj:wt (Str.join QA (ws.set k (wk++Str.ofString "zzzzzzzz")))<=tw (cw 32) (ws.set k (wk++Str.ofString "zzzzzzzz")):=QV (c:=32) (ws.set k (wk++Str.ofString "zzzzzzzz"))
     rw[show cw 32=2 from rfl]at tj
     refine⟨rfl,_,rfl,_,lw,_,rfl,rfl,.of h7,Zs (k:=2) (by omega) (by decide+kernel),?_⟩
     rw[Q0]
     refine⟨_,rfl,_,rfl,lf,_,(a:Int),a,rfl,rfl,f7,zz (by rw[ll];exact ha),?_⟩
     exact⟨_,rfl,end_ X7 _ fr7 hd7 f7 (by omega)⟩
end
end Rh
set_option Elab.async false
set_option linter.all false
set_option maxRecDepth 100000
set_option maxHeartbeats 4000000
/-! TEXTS SPOILED. -/
namespace Rh
open PySem L2 PyProof.Rows
theorem Xz (z:Str) {r:Int} (h0:0<=r) (h1:r < z.length):∃c,W7 z.cps.toList r=some c:=by
 have e:r=((r.toNat:Nat):Int):=by omega
 have hi:r.toNat < z.cps.toList.length:=by rw[<-jy];omega
 exact⟨_,by rw[e];exact Z1 (List.getElem?_eq_getElem hi)⟩
theorem j0 (a b:Str):(a++b).length=a.length+b.length:=Str.length_append a b
theorem kO {l:List Str} {m:Nat} (h:∀x∈l,x.length<=m):(l.map (·.length)).sum<=m*l.length:=by
 induction l with
 | nil=>exact Nat.le_refl _
 | cons x l ih=>
   have a:=h x List.mem_cons_self
   have b:=ih λy hy=>h y (List.mem_cons_of_mem _ hy)
   rw[List.map_cons,List.sum_cons,List.length_cons,Nat.mul_succ]
   omega
theorem VD {l:List Str} {m k:Nat} {sep:Str} (h:∀x∈l,x.length<=m) (hs:sep.length<=k):(l.map (·.length)).sum+l.length*sep.length<=(m+k)*l.length/\(Txt.join sep l).length<=(m+k)*l.length:=by
 have a:=kO h
 have b:l.length*sep.length<=l.length*k:=Nat.mul_le_mul_left _ hs
 have c:(l.map (·.length)).sum+l.length*sep.length<=(m+k)*l.length:=by rw[Nat.add_mul,Nat.mul_comm k];omega
 refine⟨c,Nat.le_trans ?_ c⟩
 rw[Q0]
 exact StrLaws.join_length_le sep l
abbrev kz:Str:=Str.ofString "ab z: \n::  A09_-/()[].,;~!?<>+*=#'\"{}"
theorem ZL:kz.length=37:=by decide+kernel
abbrev uz:Str:=Str.ofString "abcdefghijklmno"
theorem XV:uz.length=15:=by decide+kernel
def K2:Sp:=λvs H Q _=>∃(z:Str) (d:Addr) (n sd t:Int),vs=[.str z,.ref d]/\H d=some (.dK (qP n sd t))/\wt z<=960/\∀(H':Hp) (z':Str) (n' t':Int),Fr H d H'->H' d=some (.dK (qP n' sd t'))->z'.length<=1000->Q (.str z') H'
def K3:Sp:=λvs H Q _=>∃(d:Addr) (n sd t:Int),vs=[.ref d]/\H d=some (.dK (qP n sd t))/\∀(H':Hp) (z':Str) (n' t':Int),Fr H d H'->H' d=some (.dK (qP n' sd t'))->z'.length<=1000->Q (.str z') H'
theorem nd3:(["_law_k","_law_signs","_law_source_here"]:List Str).Nodup:=by decide+kernel
section
variable {P:Program} {w:World} {K:PySem.W.Frag} {mg:Str->Option Value} {base:Heap}
abbrev nSp:List Str:=["_law_text","_law_source_here","_law_signs","_law_at","_law_sign","_law_way","_law_some"]
abbrev Rb:List Str:=["_law_text","_law_source_here"]
theorem U0:qC nSp Rb (qo xZ):=⟨rfl,rfl,rfl,by decide+kernel,rfl,by decide+kernel,by decide+kernel⟩
theorem Gn {f fT:Addr} {fd fdT:FuncData} (F:Qj K "_law_spoiled" "_law_spoiled" xZ f fd) (B:Zu mg) (hT:jC K mg "_law_take" JQ ["_law_source_here","_law_many"] fT fdT):qv P w K mg base jh 2 f fd Rb K2:=by
 have GT:qv P w K mg base jh 1 fT fdT ["_law_source_here","_law_many"] Jk:=QY hT.fn
 refine F.okJ U0 (λvs H Q E h=>?_) (λcdv A outer s H vs Q E hr h=>?_)
 . obtain⟨z,d,n,sd,t,rfl,_⟩:=h
   rfl
 . obtain⟨z,d,n,sd,t,rfl,hd,wz,q⟩:=h
   have r1:qZ 1 _:=hr.mono (by decide)
   refine⟨_,qf (qr (i:=2) U0.nd rfl (Or.inr rfl) qy)
     (qf (qr (i:=3) U0.nd rfl (Or.inl rfl) (qQ hT GT r1 (by rfl) (qb (jv 1) (qb (qE jD (qm jf (by rfl) B.len boot_len (qb (jv 0) qe)) (qi)) qe))))
     (qf (qr (i:=4) U0.nd rfl (Or.inl rfl) (qU zy (jv 2) (qQ hT GT r1 (by rfl) (qb (jv 1) (qb (qm jf (by rfl) B.len boot_len (qb (jv 2) qe)) qe))) (λ_ _=>rfl)))
     (qf (qr (i:=5) U0.nd rfl (Or.inl rfl) (qQ hT GT r1 (by rfl) (qb (jv 1) (qb qi qe))))
     (qf (qK (qp jz (jv 5) qi (qA _)) (qh (qF (qE qV (qE qV (qM Qw (jv 0) qT (qS (jv 3))) (jv 4)) (qM Qw (jv 0) (qS (jv 3)) qT)))) qu)
     (qf (qK (qp jz (jv 5) qi (qA _)) (qh (qF (qE qV (qM Qw (jv 0) qT (qS (jv 3))) (qM Qw (jv 0) (qS (qE jD (jv 3) (qi))) qT)))) qu)
     (qf (qK (qp jz (jv 5) qi (qA _)) (qh (qF (qE qV (qE qV (qM Qw (jv 0) qT (qS (jv 3))) (jv 4)) (qM Qw (jv 0) (qS (qE jD (jv 3) (qi))) qT)))) qu)
     (qf (qK (qp jz (jv 5) qi (qA _)) (qf (qr (i:=6) U0.nd rfl (Or.inl rfl) (qW (qb (qE qV (jv 0) (qy)) (qb (qE qV (qy) (jv 0)) (qb (qE qV (jv 0) (qy)) (Kr 0 (qb (yP PySem.F.plainAttrs_str PySem.F.slot_str_upper PySem.F.type_str_upper yv (jv 0)) qe)))))))
     (qh (qF (qU je (jv 6) (qQ hT GT r1 (by rfl) (qb (jv 1) (qb qi qe))) (λ_ _=>rfl))))) qu)
     (qf (qK (qp jz (jv 5) qi (qA _)) (qh (qF (jm PySem.F.plainAttrs_str PySem.F.slot_str_join PySem.F.type_str_join jG qy (qb (Qp (N':=["_law_k","_law_signs","_law_source_here"]) (ix:=[none,some 2,some 1]) rfl ⟨rfl,rfl,rfl,rfl,rfl⟩ (jS (by rfl) B.rng (qb (qQ hT GT r1 (by rfl) (qb (jv 1) (qb qi qe))) qe)) (λC s2 H2 fp pins=>⟨qz (i:=0) nd3 rfl (Or.inl rfl),jt,qU zy (jv 1) (qQ hT GT r1 (by rfl) (qb (jv 2) (qb (qm jf (by rfl) B.len boot_len (qb (jv 1) qe)) qe))) (λ_ _=>rfl)⟩)) qe)))) qu)
     (qh (qF (jv 0))))))))))),?_⟩
   have lz:=Ji z
   have hz':z.length<=sizeLine:=Nat.le_of_lt (ql (by omega))
   have sl:kz.length<=sizeLine:=by rw[ZL];decide
   refine⟨_,rfl,_,rfl,z,rfl,hz',_,_,rfl,rfl,d,((z.length+1:Nat):Int),n,sd,t,rfl,hd,by omega,Q9 (by omega),λa0 n1 t1 a00 a01=>?_⟩
   obtain⟨a,rfl⟩:∃k:Nat,a0=(k:Int):=⟨a0.toNat,by omega⟩
   have ha:a<=z.length:=by omega
   refine⟨_,rfl,_,rfl,_,rfl,kz,rfl,sl,d,((kz.length:Nat):Int),n1,sd,t1,rfl,qd,by rw[ZL];decide,Q9 (by rw[ZL];decide),λr2 n2 t2 r20 r21=>?_⟩
   obtain⟨c,hc⟩:=Xz kz r20 r21
   refine⟨kz,r2,c,rfl,rfl,sl,hc,?_⟩
   refine⟨_,rfl,d,6,n2,sd,t2,rfl,qd,by decide,by decide,λy n3 t3 y0 y1=>?_⟩
   have hd3:upd (upd (upd H d (.dK (qP n1 sd t1))) d (.dK (qP n2 sd t2))) d (.dK (qP n3 sd t3)) d=some (.dK (qP n3 sd t3)):=qd
   have fr3:Fr H d (upd (upd (upd H d (.dK (qP n1 sd t1))) d (.dK (qP n2 sd t2))) d (.dK (qP n3 sd t3))):=Fr.refl.at_d.at_d.at_d
   generalize upd (upd (upd H d (.dK (qP n1 sd t1))) d (.dK (qP n2 sd t2))) d (.dK (qP n3 sd t3))=X at hd3 fr3
   have c1:(⟨#[c]⟩:Str).length=1:=rfl
   have x1:=yz z a
   have x2:=WI z a
   have x3:(Txt.slice z (some ((a:Nat)+(1:Int))) none).length=z.length - (a+1):=WI z (a+1)
   have sz:∀{m:Nat},m<=1000->m<=sizeLine:=λh=>Nat.le_of_lt (ql h)
   refine⟨_,rfl,rfl,_,rfl,J6 (λ_=>?_) (λ_=>?_)⟩
   . exact⟨_,rfl,_,rfl,_,rfl,z,rfl,by omega,_,rfl,_,_,rfl,rfl,sz (by omega),_,rfl,_,rfl,_,rfl,z,rfl,by omega,_,_,rfl,rfl,sz (by rw[j0];omega),q _ _ n3 t3 fr3 hd3 (by rw[j0,j0];omega)⟩
   refine⟨_,rfl,rfl,_,rfl,J6 (λ_=>?_) (λ_=>?_)⟩
   . exact⟨_,rfl,_,rfl,_,rfl,z,rfl,by omega,_,rfl,_,rfl,_,_,rfl,rfl,_,rfl,z,rfl,by omega,_,_,rfl,rfl,sz (by omega),q _ _ n3 t3 fr3 hd3 (by rw[j0];omega)⟩
   refine⟨_,rfl,rfl,_,rfl,J6 (λ_=>?_) (λ_=>?_)⟩
   . exact⟨_,rfl,_,rfl,_,rfl,z,rfl,by omega,_,rfl,_,_,rfl,rfl,sz (by omega),_,rfl,_,rfl,_,_,rfl,rfl,_,rfl,z,rfl,by omega,_,_,rfl,rfl,sz (by rw[j0];omega),q _ _ n3 t3 fr3 hd3 (by rw[j0,j0];omega)⟩
   refine⟨_,rfl,rfl,_,rfl,J6 (λ_=>?_) (λ_=>?_)⟩
   . have n1:(Str.ofString "\n").length=1:=by decide+kernel
     have s1:(Str.ofString " ").length=1:=by decide+kernel
     have ul:=UQ (z:=z) (by omega)
     have rl:=x5 z
     refine⟨_,rfl,_,_,rfl,rfl,sz (by omega),_,rfl,_,_,rfl,rfl,sz (by omega),_,rfl,_,_,rfl,rfl,sz (by omega),?_⟩
     refine⟨z,rfl,by omega,by decide+kernel,by decide+kernel,by decide+kernel,by decide+kernel,_,rfl,rfl,z,rfl,rfl,by omega,by show 6<=sizeLine;decide,λp1 f1=>?_⟩
     have nd:p1≠d:=λe=>by rw[e,hd3]at f1;cases f1
     have al:∀x∈[z++Str.ofString "\n",Str.ofString "\n"++z,z++Str.ofString " ",Str.ofString " "++z,Txt.replace z (Str.ofString " ") (Str.ofString "  "),Txt.upper z],x.length<=1000:=λx hx=>by
       simp only[List.mem_cons,List.not_mem_nil,or_false]at hx
       rcases hx with rfl | rfl | rfl | rfl | rfl | rfl
       . rw[j0];omega
       . rw[j0];omega
       . rw[j0];omega
       . rw[j0];omega
       . omega
       . omega
     have h4:upd X p1 (HO.lst [V.str (z++Str.ofString "\n"),.str (Str.ofString "\n"++z),.str (z++Str.ofString " "),.str (Str.ofString " "++z),.str (Txt.replace z (Str.ofString " ") (Str.ofString "  ")),.str (Txt.upper z)]) p1=some (.lst ([z++Str.ofString "\n",Str.ofString "\n"++z,z++Str.ofString " ",Str.ofString " "++z,Txt.replace z (Str.ofString " ") (Str.ofString "  "),Txt.upper z].map V.str)):=qd
     have hd4:upd X p1 (HO.lst [V.str (z++Str.ofString "\n"),.str (Str.ofString "\n"++z),.str (z++Str.ofString " "),.str (Str.ofString " "++z),.str (Txt.replace z (Str.ofString " ") (Str.ofString "  ")),.str (Txt.upper z)]) d=some (.dK (qP n3 sd t3)):=qk hd3 f1
     have fr4:Fr H d (upd X p1 (HO.lst [V.str (z++Str.ofString "\n"),.str (Str.ofString "\n"++z),.str (z++Str.ofString " "),.str (Str.ofString " "++z),.str (Txt.replace z (Str.ofString " ") (Str.ofString "  ")),.str (Txt.upper z)])):=fr3.own (fr3.fresh hd3 f1)
     generalize upd X p1 (HO.lst [V.str (z++Str.ofString "\n"),.str (Str.ofString "\n"++z),.str (z++Str.ofString " "),.str (Str.ofString " "++z),.str (Txt.replace z (Str.ofString " ") (Str.ofString "  ")),.str (Txt.upper z)])=X4 at h4 hd4 fr4
     have l6:[z++Str.ofString "\n",Str.ofString "\n"++z,z++Str.ofString " ",Str.ofString " "++z,Txt.replace z (Str.ofString " ") (Str.ofString "  "),Txt.upper z].length=6:=rfl
     generalize [z++Str.ofString "\n",Str.ofString "\n"++z,z++Str.ofString " ",Str.ofString " "++z,Txt.replace z (Str.ofString " ") (Str.ofString "  "),Txt.upper z]=L at al h4 l6
     refine⟨_,rfl,_,rfl,d,6,n3,sd,t3,rfl,hd4,by decide,by decide,λr5 n5 t5 r50 r51=>?_⟩
     obtain⟨k,rfl⟩:∃k:Nat,r5=(k:Int):=⟨r5.toNat,by omega⟩
     have hk:k < L.length:=by omega
     exact⟨p1,L.map V.str,(k:Int),.str L[k],rfl,rfl,.of (by rw[qg nd];exact h4),Z4 (List.getElem?_eq_getElem hk),q _ _ n5 t5 fr4.at_d qd (al _ (List.getElem_mem hk))⟩
   refine⟨_,rfl,rfl,_,rfl,J6 (λ_=>?_) (λ_=>?_)⟩
   . refine⟨rfl,_,rfl,d,12,n3,sd,t3,rfl,hd3,by decide,by decide,λm0 n4 t4 m00 m01=>?_⟩
     obtain⟨m,rfl⟩:∃k:Nat,m0=(k:Int):=⟨m0.toNat,by omega⟩
     have hd4:upd X d (.dK (qP n4 sd t4)) d=some (.dK (qP n4 sd t4)):=qd
     have fr4:Fr H d (upd X d (.dK (qP n4 sd t4))):=fr3.at_d
     generalize upd X d (.dK (qP n4 sd t4))=X4 at hd4 fr4
     refine⟨m,rfl,by omega,by omega,λD hD=>?_⟩
     have nDd:D≠d:=λe=>by rw[e,hd4]at hD;cases hD
     have fD:=fr4.fresh hd4 hD
     refine zA (λi σ' H'=>∃(v:Option V) (n' t':Int) (ws:List Str),σ'=[v,some (.str kz),some (.ref d)]/\H' d=some (.dK (qP n' sd t'))/\H' D=some (.lst (ws.map V.str))/\ws.length=i/\(∀x∈ws,x.length<=1)/\Fr H d H')
       ⟨none,n4,t4,[],rfl,qk hd4 hD,qd,rfl,λx hx=>(nomatch hx),fr4.own fD⟩ ?_ ?_
     . rintro i σ' H' hi ⟨v,n',t',ws,rfl,hd',hD',hl,hw,fr⟩
       have hi:i < m:=by simpa using hi
       refine⟨_,rfl,_,rfl,_,rfl,kz,rfl,sl,d,((kz.length:Nat):Int),n',sd,t',rfl,hd',by rw[ZL];decide,Q9 (by rw[ZL];decide),λr n3 t3 r0 r1=>?_⟩
       obtain⟨c,hc⟩:=Xz kz r0 r1
       refine⟨kz,r,c,rfl,rfl,sl,hc,_,(by rw[qg nDd];exact hD'),?_,?_⟩
       . rw[List.length_map,hl]
         exact ql (by omega)
       . refine⟨_,n3,t3,ws++[⟨#[c]⟩],rfl,?_,?_,?_,?_,?_⟩
         . rw[qg (Ne.symm nDd)];exact qd
         . rw[List.map_append];exact qd
         . rw[List.length_append,hl];rfl
         . intro x hx
           rcases List.mem_append.mp hx with hx | hx
           . exact hw x hx
           . rw[List.mem_singleton.mp hx];exact Nat.le_refl _
         . exact(fr.at_d).own fD
     rintro σ' H1 ⟨v,n1,t1,ws,rfl,hd1,hD1,hl1,hw1,fr1⟩
     have hl1:ws.length=m:=by simpa using hl1
     have e2:(Str.ofString "").length<=0:=by decide+kernel
     obtain⟨j1,j2⟩:=VD hw1 e2
     exact⟨Str.ofString "",D,ws,rfl,rfl,.of hD1,by omega,q _ _ n1 t1 fr1 hd1 (by omega)⟩
   . exact⟨_,rfl,q _ _ n3 t3 fr3 hd3 (by omega)⟩
abbrev nGr:List Str:=["_law_source_here","_law_letters","_law_many","_law_roads","_law_lines_here","_law_k","_law_words","_law_j"]
theorem Wo:qC nGr ["_law_source_here"] (qo zR):=⟨rfl,rfl,rfl,by decide+kernel,rfl,by decide+kernel,by decide+kernel⟩
theorem Go {f fT:Addr} {fd fdT:FuncData} (F:Qj K "_law_great" "_law_great" zR f fd) (B:Zu mg) (hT:jC K mg "_law_take" JQ ["_law_source_here","_law_many"] fT fdT):qv P w K mg base jh 2 f fd ["_law_source_here"] K3:=by
 have GT:qv P w K mg base jh 1 fT fdT ["_law_source_here","_law_many"] Jk:=QY hT.fn
 refine F.okJ Wo (λvs H Q E h=>?_) (λcdv A outer s H vs Q E hr h=>?_)
 . obtain⟨d,n,sd,t,rfl,_⟩:=h
   rfl
 . obtain⟨d,n,sd,t,rfl,hd,q⟩:=h
   have r1:qZ 1 _:=hr.mono (by decide)
   refine⟨_,qf (qr (i:=1) Wo.nd rfl (Or.inl rfl) (qy))
     (qf (qr (i:=2) Wo.nd rfl (Or.inl rfl) (qE jD (qi) (qQ hT GT r1 (by rfl) (qb (jv 0) (qb qi qe)))))
     (qf (qr (i:=3) Wo.nd rfl (Or.inl rfl) (qE jD (qi) (qQ hT GT r1 (by rfl) (qb (jv 0) (qb qi qe)))))
     (qf (qr (i:=4) Wo.nd rfl (Or.inl rfl) (qW qe))
     (qf (jw PassesOwn.never rfl (jS (by rfl) B.rng (qb (jv 2) qe)) (qz (i:=5) Wo.nd rfl (Or.inl rfl))
       (qf (qr (i:=6) Wo.nd rfl (Or.inl rfl) (qW (qb (qE qV (qU zy (jv 1) (jv 5) (λ_ _=>rfl)) (qy)) qe)))
     (qf (jw PassesOwn.never rfl (jS (by rfl) B.rng (qb (jv 3) qe)) (qz (i:=7) Wo.nd rfl (Or.inl rfl))
       (qh (qK (qp jz (qE QK (jv 7) (qi)) (jv 5) (qA _)) (qh (jk (jm PySem.F.plainAttrs_list PySem.F.slot_list_append PySem.F.type_list_append jR (jv 6) (qb (qU zy (jv 1) (qE QK (qE jD (qE Uo (jv 7) (qi)) (jv 5)) (qi)) (λ_ _=>rfl)) qe)))) qu)))
     (qh (jk (jm PySem.F.plainAttrs_list PySem.F.slot_list_append PySem.F.type_list_append jR (jv 4) (qb (jm PySem.F.plainAttrs_str PySem.F.slot_str_join PySem.F.type_str_join jG qy (qb (jv 6) qe)) qe)))))))
     (qh (qF (jm PySem.F.plainAttrs_str PySem.F.slot_str_join PySem.F.type_str_join jG qy (qb (jv 4) qe)))))))),?_⟩
   have sl:uz.length<=sizeLine:=by rw[XV];decide
   refine⟨_,rfl,d,2,n,sd,t,rfl,hd,by decide,by decide,λm0 n1 t1 m00 m01=>⟨_,_,rfl,rfl,?_⟩⟩
   obtain⟨m,em,m1⟩:∃m:Nat,14+m0=(m:Int)/\m<=15:=⟨(14+m0).toNat,by omega,by omega⟩
   rw[show (λi j:Int=>V.int (i+j)) 14 m0=V.int (m:Int) from congrArg V.int em]
   refine⟨_,rfl,d,3,n1,sd,t1,rfl,qd,by decide,by decide,λk0 n2 t2 k00 k01=>⟨_,_,rfl,rfl,?_⟩⟩
   obtain⟨rd,er,rd1⟩:∃m:Nat,39+k0=(m:Int)/\m<=41:=⟨(39+k0).toNat,by omega,by omega⟩
   rw[show (λi j:Int=>V.int (i+j)) 39 k0=V.int (rd:Int) from congrArg V.int er]
   have hd2:upd (upd H d (.dK (qP n1 sd t1))) d (.dK (qP n2 sd t2)) d=some (.dK (qP n2 sd t2)):=qd
   have fr2:Fr H d (upd (upd H d (.dK (qP n1 sd t1))) d (.dK (qP n2 sd t2))):=Fr.refl.at_d.at_d
   generalize upd (upd H d (.dK (qP n1 sd t1))) d (.dK (qP n2 sd t2))=X at hd2 fr2
   refine⟨by show 0<=sizeLine;exact Nat.zero_le _,λL fL=>?_⟩
   have fL0:=fr2.fresh hd2 fL
   have nLd:L≠d:=λe=>by rw[e,hd2]at fL;cases fL
   refine⟨_,rfl,m,rfl,by omega,by omega,?_⟩
   refine QE (lo:=0) (n:=m) (λi σ' Y=>(∃v5 v6 v7,σ'=[some (.ref d),some (.str uz),some (.int m),some (.int rd),some (.ref L),v5,v6,v7])/\Fr H d Y/\Y d=some (.dK (qP n2 sd t2))/\∃ls:List Str,Y L=some (.lst (ls.map V.str))/\ls.length=i/\∀x∈ls,x.length<=12)
     ⟨⟨none,none,none,rfl⟩,fr2.own fL0,qk hd2 fL,[],qd,rfl,λx hx=>(nomatch hx)⟩ ?_ ?_
   . rintro i σ' Y hi ⟨⟨v5,v6,v7,rfl⟩,frY,dY,ls,hL,ll,wl⟩
     rw[Int.zero_add]
     obtain⟨c,hc⟩:=Xz uz (r:=(i:Int)) (by omega) (by rw[XV];omega)
     have c1:(⟨#[c]⟩:Str).length=1:=rfl
     have co1:(Str.ofString ":").length=1:=by decide+kernel
     refine⟨_,rfl,_,rfl,uz,(i:Int),c,rfl,rfl,sl,hc,_,_,rfl,rfl,Nat.le_of_lt (ql (by omega)),by show 1<=sizeLine;decide,λlw fw=>?_⟩
     have fw0:=frY.fresh dY fw
     have nwd:lw≠d:=λe=>by rw[e,dY]at fw;cases fw
     have nwL:lw≠L:=λe=>by rw[e,hL]at fw;cases fw
     refine⟨_,rfl,rd,rfl,by omega,by omega,?_⟩
     refine QE (lo:=0) (n:=rd) (λj σ' Z=>(∃v7,σ'=[some (.ref d),some (.str uz),some (.int m),some (.int rd),some (.ref L),some (.int i),some (.ref lw),v7])/\Fr H d Z/\Z d=some (.dK (qP n2 sd t2))/\Z L=some (.lst (ls.map V.str))/\∃ws:List Str,Z lw=some (.lst (ws.map V.str))/\ws.length<=1+(j+13 - i) / 14/\∀x∈ws,x.length<=2)
       ⟨⟨_,rfl⟩,frY.own fw0,qk dY fw,qk hL fw,[(⟨#[c]⟩:Str)++Str.ofString ":"],qd,by show 1<=_;omega,λx hx=>by rw[List.mem_singleton.mp hx,j0];omega⟩ ?_ ?_
     . rintro j σ' Z hj ⟨⟨v7',rfl⟩,frZ,dZ,hLZ,ws,hwZ,lws,wws⟩
       rw[Int.zero_add]
       have lw5:ws.length<=5:=by omega
       refine⟨_,rfl,_,_,rfl,rfl,(by show (0:Int) < 14;decide),_,rfl,rfl,_,rfl,?_⟩
       by_cases e:j % 14=i
       . refine jo (decide_eq_true (by show V.int ((j:Int) % 14)=V.int (i:Int);congr 1;omega)) ?_
         obtain⟨c',hc'⟩:=Xz uz (r:=((j:Int) / 14+(i:Int)) % 14) (by omega) (by rw[XV];omega)
         refine⟨_,rfl,.inl ⟨rfl,_,.of hwZ⟩,_,rfl,_,rfl,_,_,rfl,rfl,⟨by decide,by decide⟩,_,rfl,_,_,rfl,rfl,_,_,rfl,rfl,(by show (0:Int) < 14;decide),uz,_,c',rfl,rfl,sl,hc',?_⟩
         refine⟨lw,_,_,rfl,rfl,hwZ,by rw[List.length_map];exact ql (by omega),⟨_,rfl⟩,frZ.own fw0,by rw[qg (Ne.symm nwd)];exact dZ,by rw[qg (Ne.symm nwL)];exact hLZ,ws++[⟨#[c']⟩],by rw[qd,List.map_append];rfl,?_,λx hx=>?_⟩
         . rw[List.length_append,List.length_singleton]
           omega
         . rcases List.mem_append.mp hx with hx | hx
           . exact wws x hx
           . rw[List.mem_singleton.mp hx];show 1<=2;decide
       . refine qJ (decide_eq_false λh=>e ?_) ?_
         . have:(j:Int) % 14=(i:Int):=V.int.inj h
           omega
         . exact⟨⟨_,rfl⟩,frZ,dZ,hLZ,ws,hwZ,by omega,wws⟩
     . rintro σ' Z ⟨⟨v7',rfl⟩,frZ,dZ,hLZ,ws,hwZ,lws,wws⟩
       have lws4:ws.length<=4:=by omega
       have s1:(Str.ofString " ").length<=1:=by decide+kernel
       obtain⟨j1,j2⟩:=VD wws s1
       refine⟨_,rfl,.inl ⟨rfl,_,.of hLZ⟩,rfl,_,rfl,_,lw,ws,rfl,rfl,.of hwZ,by omega,?_⟩
       refine⟨L,_,_,rfl,rfl,hLZ,by rw[List.length_map];exact ql (by omega),⟨_,_,_,rfl⟩,frZ.own fL0,by rw[qg (Ne.symm nLd)];exact dZ,ls++[Txt.join (Str.ofString " ") ws],by rw[qd,List.map_append];rfl,by rw[List.length_append,ll];rfl,λx hx=>?_⟩
       rcases List.mem_append.mp hx with hx | hx
       . exact wl x hx
       . rw[List.mem_singleton.mp hx];omega
   . rintro σ' Y ⟨⟨v5,v6,v7,rfl⟩,frY,dY,ls,hL,ll,wl⟩
     have n1:(Str.ofString "\n").length<=1:=by decide+kernel
     obtain⟨j1,j2⟩:=VD wl n1
     exact⟨rfl,_,rfl,_,L,ls,rfl,rfl,.of hL,by omega,q _ _ n2 t2 frY dY (by omega)⟩
end
end Rh
set_option Elab.async false
set_option linter.all false
set_option maxRecDepth 100000
set_option maxHeartbeats 4000000
/-! THE LAW k04. -/
namespace Rh
open PySem L2 PyProof.Rows
theorem GA {r:Int} (h0:0<=r) (h1:r < 3):∃mo:Nat,W7 [V.int 5,.int 9,.int 14] r=some (.int (mo:Int))/\0 < mo/\mo<=14:=by
 have:r=0\/r=1\/r=2:=by omega
 rcases this with rfl | rfl | rfl
 . exact⟨5,rfl,by decide,by decide⟩
 . exact⟨9,rfl,by decide,by decide⟩
 . exact⟨14,rfl,by decide,by decide⟩
theorem GH {n jj:Int} (h0:0<=n) (h:(if (if (30:Int) < n then (30:Int) else n) > 4 then (if (30:Int) < n then (30:Int) else n) else 4)=jj):-(2^62)<=jj/\jj < 2^62:=by
 subst h
 split<;>split<;>omega
theorem Zb {K:PySem.W.Frag} {H H':Hp} {p d:Addr} {ns:List Int} {kvs:List (ja×V)} (h:SqL K H p (ns.map V.int)) (hd:H d=some (.dK kvs)) (f:Fr H d H'):SqL K H' p (ns.map V.int):=by
 rcases h with (h | ⟨o,h⟩) | h
 . exact .inl (.inl (f _ _ h (λe=>by rw[e,hd]at h;cases h)))
 . exact .inl (.inr ⟨o,f _ _ h (λe=>by rw[e,hd]at h;cases h)⟩)
 . exact .inr h
theorem VJ {H:Hp} {d:Addr} {o:HO}:Fr H d (upd H d o):=λb u hb nb=>by rw[qg nb];exact hb
theorem Yq {H H':Hp} {d b:Addr} {o:HO} {kv:List (ja×V)} (fr:Fr H d H') (hd:H d=some (.dK kv)) (hb:H b=some o) (no:∀kv,o≠.dK kv):H' b=some o:=fr _ _ hb λe=>by
 rw[e,hd]at hb
 exact no _ (Option.some.inj hb).symm
theorem qL.fr {H H':Hp} {d:Addr} {kv:List (ja×V)} {ps:List Addr} {rs:jK} (a:qL H ps rs) (fr:Fr H d H') (hd:H d=some (.dK kv)):qL H' ps rs:=⟨a.1,λi p r e1 e2=>let ⟨u,x,y⟩:=a.2 i p r e1 e2;⟨u,Yq fr hd x (λ_ z=>nomatch z),Yq fr hd y (λ_ z=>nomatch z)⟩⟩
structure Sm (d:PyData) (k L:Nat):Prop where
 sh:d.showable=true
 nd:d.hasDict=false
 dp:d.depth<=k
 ln:d.shown.length<=L
theorem uI {d e:PyData} {k L M:Nat} (a:Sm d k L) (b:Sm e k M):Sm (.tuple [d,e]) (k+1) (L+M+7):=by
 refine⟨?_,?_,?_,?_⟩
 . show (d.showable&&(e.showable&&true))=true
   rw[a.sh,b.sh];rfl
 . show (d.hasDict || (e.hasDict || false))=false
   rw[a.nd,b.nd];rfl
 . have:=a.dp
   have:=b.dp
   simp only[PyData.depth,PyData.depthAll]
   omega
 . show (tupleText [d.shown,e.shown]).length<=_
   have h1:=tupleText_len_le [d.shown,e.shown]
   have:=a.ln
   have:=b.ln
   simp only[List.map_cons,List.map_nil,List.sum_cons,List.sum_nil,List.length_cons,List.length_nil]at h1
   omega
theorem Vp {k L:Nat}:∀{ds:List PyData},(∀d∈ds,Sm d k L)->PyData.showableAll ds=true/\PyData.hasDictAll ds=false/\PyData.depthAll ds<=k/\((PyData.shownAll ds).map (·.length)).sum<=L*ds.length/\(PyData.shownAll ds).length=ds.length
 | [],_=>⟨rfl,rfl,Nat.zero_le _,Nat.zero_le _,rfl⟩
 | d::ds,h=>by
   obtain⟨a,b,c,e,f⟩:=Vp λy hy=>h y (List.mem_cons_of_mem _ hy)
   have g:=h d List.mem_cons_self
   refine⟨?_,?_,?_,?_,?_⟩
   . rw[PyData.showableAll,g.sh,a];rfl
   . rw[PyData.hasDictAll,g.nd,b];rfl
   . rw[PyData.depthAll]
     have:=g.dp
     omega
   . rw[PyData.shownAll,List.map_cons,List.sum_cons,List.length_cons,Nat.mul_add]
     have:=g.ln
     omega
   . rw[PyData.shownAll,List.length_cons,List.length_cons,f]
theorem ku {k L:Nat} {ds:List PyData} (h:∀d∈ds,Sm d k L):Sm (.list ds) (k+1) (L*ds.length+2*ds.length+3):=by
 obtain⟨a,b,c,e,f⟩:=Vp h
 refine⟨a,b,?_,?_⟩
 . simp only[PyData.depth]
   omega
 . show (listText (PyData.shownAll ds)).length<=_
   have h1:=listText_len_le (PyData.shownAll ds)
   rw[f]at h1
   omega
theorem uJ {k L:Nat} {ds:List PyData} (h:∀d∈ds,Sm d k L):Sm (.tuple ds) (k+1) (L*ds.length+2*ds.length+3):=by
 obtain⟨a,b,c,e,f⟩:=Vp h
 refine⟨a,b,?_,?_⟩
 . simp only[PyData.depth]
   omega
 . show (tupleText (PyData.shownAll ds)).length<=_
   have h1:=tupleText_len_le (PyData.shownAll ds)
   rw[f]at h1
   omega
theorem Sm.more {d:PyData} {k L k' L':Nat} (h:Sm d k L) (a:k<=k') (b:L<=L'):Sm d k' L':=⟨h.sh,h.nd,Nat.le_trans h.dp a,Nat.le_trans h.ln b⟩
theorem uK {z:Str} (h:∀c∈z.cps.toList,c<=122) (l:z.length<=8):Sm (.str z) 0 82:=by
 refine⟨rfl,rfl,Nat.le_refl _,?_⟩
 have h1:=StrLaws.reprText_len z λc hc=>Nat.lt_of_le_of_lt (h c hc) (by decide)
 show (reprText z).length<=82
 omega
theorem ZJ {z:Str} (h:qw z=true):Sm (.str z) 0 82:=uK (QL h).1 (QL h).2.1
theorem uP {rs:jK} (r:Str×List Str):(jQ rs r).length<=rs.length:=by
 unfold jQ
 refine Nat.le_trans (List.length_filter_le _ _) ?_
 rw[List.length_map]
 exact Nat.le_refl _
theorem x6 {rs:jK} (g:qG rs) {r:Str×List Str}:∀z∈jQ rs r,qw z=true:=λz hz=>by
 obtain⟨r',h1,h2⟩:=kP hz
 rw[<-h2];exact g.nm r' h1
theorem xW {rs:jK} (g:qG rs) (le:rs.length<=14):Sm (.list ((told rs).map WS)) 3 30000:=by
 have h1:∀d∈(told rs).map WS,Sm d 2 1500:=λd hd=>by
   obtain⟨r,hr,rfl⟩:=List.mem_map.mp hd
   obtain⟨r0,hr0,rfl⟩:=List.mem_map.mp hr
   have l1:=uP (rs:=rs) r0
   have a:=uJ (k:=0) (L:=82) (ds:=(jQ rs r0).map PyData.str) λd hd=>by
     obtain⟨z,hz,rfl⟩:=List.mem_map.mp hd
     exact ZJ (x6 g z hz)
   rw[List.length_map]at a
   exact(uI (k:=1) ((ZJ (g.nm r0 hr0)).more (by omega) (Nat.le_refl _)) (a.more (by omega) (show _<=1400 by omega))).more (by omega) (by omega)
 have h2:=ku h1
 have l2:((told rs).map WS).length=rs.length:=by
   unfold told
   rw[List.length_map,List.length_map]
 rw[l2]at h2
 exact h2.more (by omega) (by omega)
def V6 (K:PySem.W.Frag):Sp:=λvs H Q _=>∃(a:Addr) (ns:List Int),vs=[.ref a]/\SqL K H a (ns.map V.int)/\ns.length<=63/\∀H',Q (.bl true) H'
theorem jO.kp {H H':Hp} {l:Addr} {ps:List Addr} {rs:jK} (g:jO H l ps rs) (k:QC H H'):jO H' l ps rs:=⟨k _ _ g.at_ (λ_ z=>nomatch z),⟨g.rows.1,λi p r e1 e2=>let ⟨u,x,y⟩:=g.rows.2 i p r e1 e2;⟨u,k _ _ x (λ_ z=>nomatch z),k _ _ y (λ_ z=>nomatch z)⟩⟩,g.good,g.pos,g.le⟩
theorem jO.frd {H H':Hp} {l d:Addr} {ps:List Addr} {rs:jK} {kv:List (ja×V)} (g:jO H l ps rs) (fr:Fr H d H') (hd:H d=some (.dK kv)):jO H' l ps rs:=⟨Yq fr hd g.at_ (λ_ z=>nomatch z),g.rows.fr fr hd,g.good,g.pos,g.le⟩
theorem Gs {D:QS} {σ:L2.St} {H:Hp} (h:D.nx σ H):JM D σ H:=h
theorem wF (z:Str):neL [V.str z] [V.str z]=false:=by
 unfold neL
 simp [vM]
/-! ### what repr wants -/
theorem Vo {n:Nat} (h:n<=1000):Sm (.int (n:Int)) 0 5000:=by
 have:∀n:Nat,n<=1000->(PyData.int (n:Int)).showable=true/\(PyData.int (n:Int)).shown.length<=5000:=by decide+kernel
 exact⟨(this n h).1,rfl,Nat.zero_le _,(this n h).2⟩
theorem kt (r:Zk):Sm (.str r.tag) 0 5000:=by
 have h:∀s∈[Str.ofString "ground",Str.ofString "many",Str.ofString "twice",Str.ofString "place",Str.ofString "text"],(PyData.str s).shown.length<=5000:=by decide+kernel
 cases r<;>exact⟨rfl,rfl,Nat.zero_le _,h _ (by simp [Zk.tag])⟩
theorem K4:Sm (.str (Str.ofString "good")) 0 5000:=⟨rfl,rfl,Nat.zero_le _,by decide+kernel⟩
structure Xm (ds:List PyData):Prop where
 sh:(PyData.list ds).showable=true
 nd:(PyData.list ds).hasDict=false
 dp:(PyData.list ds).depth<=60
 ln:(PyData.list ds).shown.length<=sizeLine
theorem Vv {ds:List PyData} (h:∀d∈ds,Sm d 3 30000) (l:ds.length<=5):Xm ds:=by
 have a:=ku h
 have b:30000*ds.length+2*ds.length+3<=200000:=by omega
 exact⟨a.sh,a.nd,Nat.le_trans a.dp (by decide),Nat.le_trans a.ln (Nat.le_trans b (by decide))⟩
theorem uQ {rs:jK} {x:Zk} (nm:∀r∈rs,W0 r) (l:rs.length<=1000) (rd:QX rs<=1000) (h:YK rs x):Sm x.dat 0 5000:=by
 have m1:∀z∈rs.map (·.1),qw z=true:=λz hz=>by
   obtain⟨r,hr,rfl⟩:=List.mem_map.mp hz
   exact(nm r hr).1
 rcases h with ⟨_,rfl⟩ | ⟨_,⟨i,z,e,_,_,rfl⟩ | ⟨_,k,r',e,_,i,z,e2,_,_,⟨_,rfl⟩ | ⟨_,_,rfl⟩⟩ | ⟨_,_,_,rfl⟩⟩
 . exact Vo l
 . exact(ZJ (m1 z (List.mem_of_getElem? e))).more (Nat.le_refl _) (by decide)
 . exact(ZJ ((nm r' (List.mem_of_getElem? e)).2 z (List.mem_of_getElem? e2))).more (Nat.le_refl _) (by decide)
 . exact(ZJ ((nm r' (List.mem_of_getElem? e)).2 z (List.mem_of_getElem? e2))).more (Nat.le_refl _) (by decide)
 . exact Vo rd
theorem kN {z:Str} {rs:jK} (h:QP (Txt.split z Qe) rs) (l:z.length<=1000):QX rs<=1000:=by
 have h1:∀qs:jK,(∀r∈qs,W0 r)->QX qs<=((qs.map qB).map (·.length)).sum:=λqs=>by
   induction qs with
   | nil=>intro _;exact Nat.le_refl _
   | cons r qs ih=>
     intro h
     have a:=ih λy hy=>h y (List.mem_cons_of_mem _ hy)
     have b:=zt (c:=32) ((r.1++jV)::r.2)
     have b:r.2.length+1<=(qB r).length+1:=b
     unfold QX at a ⊢
     rw[List.map_cons,List.sum_cons,List.map_cons,List.map_cons,List.sum_cons]
     omega
 have h2:=h1 rs h.2
 have h3:z.length=((rs.map qB).map (·.length)).sum+((rs.map qB).length - 1)*1:=by
   rw[<-StrLaws.join_split z Qe,h.1,<-Q0]
   exact size_glued Qe (rs.map qB)
 omega
theorem ky {rs:jK} (g:qG rs) (l:rs.length<=14):wt (ZK rs)<=540:=by
 have h1:wt (Str.join Qe ((told rs).map qB))<=tw (cw 10) ((told rs).map qB):=QV (c:=10) ((told rs).map qB)
 have h2:=ZR (Q8 g)
 have h3:=(Qf g).few
 have h3:QX (told rs)<=40:=h3
 have h4:(told rs).length=rs.length:=List.length_map ..
 rw[show cw 10=1 from rfl]at h1
 show wt (Str.join Qe ((told rs).map qB))<=_
 omega
theorem wM {rs:jK} (g:qG rs) (l:rs.length<=14):Xm (JB rs):=by
 refine Vv (λd hd=>?_) (by show 3<=5;decide)
 simp only[JB,List.mem_cons,List.not_mem_nil,or_false]at hd
 rcases hd with rfl | rfl | rfl
 . exact K4.more (by decide) (by decide)
 . exact xW g l
 . have w:=ky g l
   have lw:=Ji (ZK rs)
   have h1:=StrLaws.reprText_len (ZK rs) λc hc=>Nat.lt_of_lt_of_le (Xt (Nat.lt_of_le_of_lt w (by decide)) c hc) (by decide)
   refine⟨rfl,rfl,Nat.zero_le _,?_⟩
   show (reprText (ZK rs)).length<=30000
   omega
/-- how a text is told -/
theorem Wf {z:Str} (l:z.length<=1000):Xm (tv z)/\((∃tag d,tv z=[.str tag,d]/\tag≠Str.ofString "good")\/(∃rs,qG rs/\0 < rs.length/\rs.length<=14/\tv z=JB rs)):=by
 have ntag:∀r:Zk,r.tag≠Str.ofString "good":=λr=>by
   have h:∀s∈[Str.ofString "ground",Str.ofString "many",Str.ofString "twice",Str.ofString "place",Str.ofString "text"],s≠Str.ofString "good":=by decide+kernel
   cases r<;>exact h _ (by simp [Zk.tag])
 rcases UD (Txt.split z Qe) _ (Nat.le_refl _) with ⟨rs,ar⟩ | ⟨i,fb⟩
 . rw[List.take_length]at ar
   rw[ZH ar]
   rcases Zx λr hr=>(ar.2 r hr).1 with ⟨r,hx,ep⟩ | ⟨gd,le,ep⟩
   . rw[ep]
     refine⟨Vv (λd hd=>?_) (by show 2<=5;decide),.inl ⟨_,_,rfl,ntag r⟩⟩
     simp only[List.mem_cons,List.not_mem_nil,or_false]at hd
     rcases hd with rfl | rfl
     . exact(kt r).more (by decide) (by decide)
     . exact(uQ ar.2 (zf ar l) (kN ar l) hx).more (by decide) (by decide)
   . rw[ep]
     refine⟨wM gd le,.inr ⟨rs,gd,?_,le,rfl⟩⟩
     have ll:(Txt.split z Qe).length=rs.length:=by rw[ar.1,List.length_map]
     rw[<-ll]
     exact List.length_pos_iff.mpr (Qn _ _)
 . rw[Xq fb]
   obtain⟨l0,e0,_⟩:=fb.1
   have h1:=(List.getElem?_eq_some_iff.mp e0).1
   have h2:=QH z 10
   have h2:(Txt.split z Qe).length<=z.length+1:=h2
   refine⟨Vv (λd hd=>?_) (by show 2<=5;decide),.inl ⟨_,_,rfl,ntag (.text i)⟩⟩
   simp only[List.mem_cons,List.not_mem_nil,or_false]at hd
   rcases hd with rfl | rfl
   . exact(kt (.text i)).more (by decide) (by decide)
   . exact(Vo (by omega)).more (by decide) (by decide)
theorem We:tv (Str.ofString "")=[.str (Str.ofString "text"),.int ((0:Nat):Int)]:=by
 have e1:Txt.split (Str.ofString "") Qe=[Str.ofString ""]:=by decide+kernel
 have e2:(Txt.split (Str.ofString "") jV).length=1:=by decide+kernel
 refine Xq ⟨⟨Str.ofString "",by rw[e1];rfl,λ⟨r,h⟩=>?_⟩,λj l h=>absurd h (Nat.not_lt_zero _)⟩
 rw[jP h]at e2
 cases e2
theorem uB {rs:jK} (g:qG rs) (pos:0 < rs.length) (l:rs.length<=14):tv (ZK rs)=JB rs:=by
 have lt:(told rs).length=rs.length:=List.length_map ..
 rw[ZH (z:=ZK rs) (zD (Q8 g) (λe=>by rw[e]at lt;exact absurd lt (by show ¬0=_;omega))),zh (Qf g) (by omega)]
 unfold JB ZK
 rw[UT g]
theorem WN {K:PySem.W.Frag} {H:Hp} {xs:List V} {rs:jK} (h:DVs K H xs (JB rs)):∃lr,xs=[.str (Str.ofString "good"),.ref lr,.str (ZK rs)]:=by
 unfold JB at h
 cases h with
 | cons h1 h=>
   cases h1
   cases h with
   | cons h2 h=>
     cases h with
     | cons h3 h=>
       cases h3
       cases h
       cases h2 with
       | lst q _=>exact⟨_,rfl⟩
theorem xO {K:PySem.W.Frag} {H:Hp} {xs:List V} {tag:Str} {d:PyData} (h:DVs K H xs [.str tag,d]):∃v,xs=[.str tag,v]:=by
 cases h with
 | cons h1 h=>
   cases h1
   cases h with
   | cons h2 h=>
     cases h
     exact⟨_,rfl⟩
/-- a list shown -/
theorem uO {K:PySem.W.Frag} {H:Hp} {l:Addr} {xs:List V} {ds:List PyData} {Q:VK} (hl:H l=some (.lst xs)) (dv:DVs K H xs ds) (r:Xm ds) (q:Q (.str (PyData.list ds).shown) H):kY K [.ref l] H Q:=
 ⟨l,.list ds,rfl,.lst (.of hl) dv,r.sh,r.nd,r.dp,r.ln,q⟩
theorem YY {K:PySem.W.Frag} {σ:L2.St} {H:Hp} {l:Addr} {xs:List V} {ds:List PyData} {Q:VK} (hl:H l=some (.lst xs)) (dv:DVs K H xs ds) (r:Xm ds) (q:Q (.str (PyData.list ds).shown) H):jJ σ H (λys H1=>kY K (V.ref l::ys) H1 Q):=uO hl dv r q
section
variable {P:Program} {w:World} {K:PySem.W.Frag} {mg:Str->Option Value} {base:Heap}
abbrev RT:List Str:=["_law_script","_law_k","_law_source_here","_law_rows_here","_law_lines_here","_law_told","_law_text","_law_due_here","_law_thing"]
theorem JN:qC RT ["_law_script"] (qo XB):=⟨rfl,rfl,rfl,by decide+kernel,rfl,by decide+kernel,by decide+kernel⟩
structure G5 (K:PySem.W.Frag) (mg:Str->Option Value):Prop where
 cell:∃f fd,jC K mg "_law_cell_at" Uf ["_law_script","_law_k"] f fd
 source:∃f fd,jC K mg "_law_source" zP ["_law_cell"] f fd
 take:∃f fd,jC K mg "_law_take" JQ ["_law_source_here","_law_many"] f fd
 names:∃f fd,jC K mg "_law_names" Ya ["_law_source_here","_law_many"] f fd
 leads:∃f fd,jC K mg "_law_leads" Yb Yg f fd
 rows:∃f fd,jC K mg "_law_rows" Ub ["_law_source_here","_law_most"] f fd
 need:∃f fd,jC K mg "need_rows" Zp ["rows"] f fd
 shr:∃f fd,jC K mg "show_row" QI ["row"] f fd
 shg:∃f fd,jC K mg "show_ground" YV ["ground"] f fd
 isl:∃f fd,jC K mg "is_line" Zd ["line"] f fd
 rof:∃f fd,jC K mg "row_of" zb ["line"] f fd
 rdg:∃f fd,jC K mg "read_ground" Wp ["text"] f fd
 lis:∃f fd,jC K mg "_law_is_name" YW ["_law_word"] f fd
 lro:∃f fd,jC K mg "_law_row" Wq ["_law_line"] f fd
 made:∃f fd,jC K mg "_law_made" Yc ["_law_rows_here"] f fd
 read:∃f fd,jC K mg "_law_read" XC ["_law_text"] f fd
 due:∃f fd,jC K mg "_law_due" Ud ["_law_text"] f fd
 form:∃f fd,jC K mg "_law_form" XD ["_law_rows_here"] f fd
 lines:∃f fd,jC K mg "_law_lines" zQ Re f fd
 spl:∃f fd,jC K mg "_law_spoiled_lines" Uc Rc f fd
 sp:∃f fd,jC K mg "_law_spoiled" xZ Rb f fd
 gr:∃f fd,jC K mg "_law_great" zR ["_law_source_here"] f fd
theorem Ke {f CG D fRw:Addr} {c:C4} {fd fdRw:FuncData} (F:Qj K "law" "law" XB f fd) (B:Zu mg) (G:QB mg) (T:Q6 K mg) (N:XZ K mg) (hcl:∃fI fdI,ua K mg CG fI fdI) (hRw:KJ K CG "rows" "Ground.rows" JU ["self"] fRw fdRw) (X4:xD K mg D c) (Z:w5 K mg D c) (L:G5 K mg) (rep:mg "repr"=none):qv P w K mg base jh 10 f fd ["_law_script"] (V6 K):=by
 obtain⟨fO,fdO,hO⟩:=L.cell
 obtain⟨fL,fdL,hL⟩:=L.source
 obtain⟨fT,fdT,hT⟩:=L.take
 obtain⟨fN,fdN,hN⟩:=L.names
 obtain⟨fD,fdD,hD⟩:=L.leads
 obtain⟨fR,fdR,hR⟩:=L.rows
 obtain⟨fW,fdW,hW⟩:=L.need
 obtain⟨f1,fd1,h1⟩:=L.shr
 obtain⟨f2,fd2,h2⟩:=L.shg
 obtain⟨f3,fd3,h3⟩:=L.isl
 obtain⟨f4,fd4,h4⟩:=L.rof
 obtain⟨f5,fd5,h5⟩:=L.rdg
 obtain⟨f6,fd6,h6⟩:=L.lis
 obtain⟨f7,fd7,h7⟩:=L.lro
 obtain⟨f8,fd8,h8⟩:=L.made
 obtain⟨fRd,fdRd,hRd⟩:=L.read
 obtain⟨fDu,fdDu,hDu⟩:=L.due
 obtain⟨fF,fdF,hF⟩:=L.form
 obtain⟨fLn,fdLn,hLn⟩:=L.lines
 obtain⟨fSL,fdSL,hSL⟩:=L.spl
 obtain⟨fSp,fdSp,hSp⟩:=L.sp
 obtain⟨fGr,fdGr,hGr⟩:=L.gr
 obtain⟨fNm,fdNm,hNm⟩:=N.nm
 have GO:qv P w K mg base jh 1 fO fdO ["_law_script","_law_k"] (kr K):=wA hO.fn B
 have GL:qv P w K mg base jh 1 fL fdL ["_law_cell"] Wl:=vc hL.fn B
 have GT:qv P w K mg base jh 1 fT fdT ["_law_source_here","_law_many"] Jk:=QY hT.fn
 have GR:qv P w K mg base jh 3 fR fdR ["_law_source_here","_law_most"] kj:=wf hR.fn B G hT hN hD
 have GRd:qv P w K mg base jh 9 fRd fdRd ["_law_text"] (kn K):=ym hRd.fn B G T N hcl hRw h1 h2 hW hNm h3 h4 h5 X4 Z
 have GM:qv P w K mg base jh 8 f8 fd8 ["_law_rows_here"] (Vm K):=wu h8.fn B G T N hcl hRw h1 h2 hW X4 Z
 have GDu:qv P w K mg base jh 9 fDu fdDu ["_law_text"] (um K):=Kg hDu.fn B G T h6 h7 h8 GM
 have GF:qv P w K mg base jh 1 fF fdF ["_law_rows_here"] V7:=yo hF.fn
 have GLn:qv P w K mg base jh 2 fLn fdLn Re V4:=yn hLn.fn B G hT
 have GSL:qv P w K mg base jh 2 fSL fdSL Rc ui:=Ka hSL.fn B G hT
 have GSp:qv P w K mg base jh 2 fSp fdSp Rb K2:=Gn hSp.fn B hT
 have GGr:qv P w K mg base jh 2 fGr fdGr ["_law_source_here"] K3:=Go hGr.fn B hT
 refine F.okJ JN (λvs H Q E z=>?_) (λcdv A outer s H vs Q E hr z=>?_)
 . obtain⟨a,ns,rfl,_⟩:=z
   rfl
 . obtain⟨a,ns,rfl,hq,hlen,k⟩:=z
   have r1:qZ 1 _:=hr.mono (by decide)
   have r2:qZ 2 _:=hr.mono (by decide)
   have r3:qZ 3 _:=hr.mono (by decide)
   refine⟨_,qf (jw PassesOwn.never rfl (jS (by rfl) B.rng (qb (qm (Xf rfl) (by rfl) B.max boot_max (qb qi (qb (qm (vH rfl) (by rfl) B.min boot_min (qb (qm qH (by rfl) B.len boot_len (qb (jv 0) qe)) (qb qi qe))) qe))) qe)) (qz (i:=1) JN.nd rfl (Or.inl rfl))
       (qf (qr (i:=2) JN.nd rfl (Or.inl rfl) (qQ hL GL r1 (by rfl) (qb (qQ hO GO r1 (by rfl) (qb (jv 0) (qb (jv 1) qe))) qe)))
     (qf (qr (i:=3) JN.nd rfl (Or.inl rfl) (qQ hR GR r3 (by rfl) (qb (jv 2) (qb (qU je (qW (qb qi (qb qi (qb qi qe)))) (qQ hT GT r1 (by rfl) (qb (jv 2) (qb qi qe))) (λ_ _=>rfl)) qe))))
     (qf (qr (i:=4) JN.nd rfl (Or.inl rfl) (qQ hLn GLn r2 (by rfl) (qb (jv 3) (qb (jv 2) qe))))
     (qf (qr (i:=5) JN.nd rfl (Or.inl rfl) (qQ hRd GRd hr (by rfl) (qb (jm PySem.F.plainAttrs_str PySem.F.slot_str_join PySem.F.type_str_join jG qy (qb (jv 4) qe)) qe)))
     (qf (qK (JW.pt (QZ (zq (yQ (jv 5))) (j7 (qp (u8 hr.units0) (qM jF (jv 5) (qS qi) qT) (qW (qb (qQ hF GF r1 (by rfl) (qb (jv 3) qe)) qe)) (qA _))))) jl qu)
     (qf (qK (qp jz (qQ hT GT r1 (by rfl) (qb (jv 2) (qb qi qe))) qi (qA _)) (qh (qr (i:=4) JN.nd rfl (Or.inl rfl) (qQ hSL GSL r2 (by rfl) (qb (jv 4) (qb (jv 2) qe))))) qu)
     (qf (qr (i:=6) JN.nd rfl (Or.inl rfl) (qQ hSp GSp r2 (by rfl) (qb (jm PySem.F.plainAttrs_str PySem.F.slot_str_join PySem.F.type_str_join jG qy (qb (jv 4) qe)) (qb (jv 2) qe))))
     (qf (qK (qp jz (qQ hT GT r1 (by rfl) (qb (jv 2) (qb qi qe))) qi (qA _)) (qh (qr (i:=6) JN.nd rfl (Or.inl rfl) (qQ hGr GGr r2 (by rfl) (qb (jv 2) qe)))) qu)
     (qf (qr (i:=7) JN.nd rfl (Or.inl rfl) (qQ hDu GDu hr (by rfl) (qb (jv 6) qe)))
     (qf (qK (qp Yh (qm (QF hr.gd hr.units) (by rfl) rep boot_repr (qb (qQ hRd GRd hr (by rfl) (qb (jv 6) qe)) qe)) (qm (QF hr.gd hr.units) (by rfl) rep boot_repr (qb (jv 7) qe)) (qA _)) jl qu)
     (qh (qK (JW.pt (Qt (qp jz (qU je (jv 7) (qi) (λ_ _=>rfl)) qy (qA _)) (j8 (qp Yh (qm (QF hr.gd hr.units) (by rfl) rep boot_repr (qb (qQ hRd GRd hr (by rfl) (qb (qU je (jv 7) (qi) (λ_ _=>rfl)) qe)) qe)) (qm (QF hr.gd hr.units) (by rfl) rep boot_repr (qb (jv 7) qe)) (qA _))))) jl qu)))))))))))))
     (qf (jw PassesOwn.never rfl (qY (qW (qb Yv (qb qi (qb Qq (qb (qW (qb qy qe)) (qb (Q5 (qb qy qe)) (qb Jf (qb qy qe))))))))) (qz (i:=8) JN.nd rfl (Or.inl rfl))
       (qh (qK (qp Yh (qm (QF hr.gd hr.units) (by rfl) rep boot_repr (qb (qQ hRd GRd hr (by rfl) (qb (jv 8) qe)) qe)) (qm (QF hr.gd hr.units) (by rfl) rep boot_repr (qb (qW (qb qy (qb qi qe))) qe)) (qA _)) jl qu)))
     (qh (qF Qq))),?_⟩
   refine⟨_,rfl,a,_,rfl,.inl hq,_,_,rfl,_,_,rfl,?_⟩
   generalize hj:(if (if (30:Int) < ((ns.map V.int).length:Int) then (30:Int) else ((ns.map V.int).length:Int)) > 4 then (if (30:Int) < ((ns.map V.int).length:Int) then (30:Int) else ((ns.map V.int).length:Int)) else 4)=jj
   have jb:=GH (by omega) hj
   refine⟨jj,rfl,jb.1,jb.2,?_⟩
   refine QE (λi σ H'=>∃v1 v2 v3 v4 v5 v6 v7,σ=[some (.ref a),v1,v2,v3,v4,v5,v6,v7,none]/\SqL K H' a (ns.map V.int)) ⟨_,_,_,_,_,_,_,rfl,hq⟩ ?_ ?_
   . rintro i σ H' hi ⟨v1,v2,v3,v4,v5,v6,v7,rfl,hq2⟩
     refine⟨_,rfl,_,rfl,a,ns,_,rfl,hq2,by omega,λc0=>⟨c0,rfl,λd n sd hd=>?_⟩⟩
     have hq3:=hq2.keep (qj (o:=.dK (qP n sd 0)) hd).keep
     have hd3:upd H' d (.dK (qP n sd 0)) d=some (.dK (qP n sd 0)):=qd
     generalize upd H' d (.dK (qP n sd 0))=H3 at hq3 hd3
     refine⟨_,rfl,by show 3<=sizeLine;decide,λlp hlp=>?_⟩
     have s4:=qj (o:=HO.lst [V.int 5,.int 9,.int 14]) hlp
     have h4:upd H3 lp (.lst [V.int 5,.int 9,.int 14]) lp=some (.lst [V.int 5,.int 9,.int 14]):=qd
     generalize upd H3 lp (.lst [V.int 5,.int 9,.int 14])=H4 at s4 h4
     have hd4:=s4 _ _ hd3
     refine⟨_,rfl,d,3,n,sd,0,rfl,hd4,by decide,by decide,λr' n3 t3 r0' r1'=>?_⟩
     obtain⟨mo,em,m0,m14⟩:=GA r0' r1'
     have hd5:upd H4 d (.dK (qP n3 sd t3)) d=some (.dK (qP n3 sd t3)):=qd
     have fr5:Fr H4 d (upd H4 d (.dK (qP n3 sd t3))):=Fr.refl.at_d
     generalize upd H4 d (.dK (qP n3 sd t3))=H5 at hd5 fr5
     have hq5:=Zb (hq3.keep s4.keep) hd4 fr5
     refine⟨lp,_,r',_,rfl,rfl,.of (Yq fr5 hd4 h4 (λ_ z=>nomatch z)),em,d,mo,n3,sd,t3,rfl,hd5,m0,m14,λl ps rs n' t' H7 hl hl7 rat good pos le hd7 fr7=>?_⟩
     have hq7:=Zb hq5 hd5 fr7
     have le:=Nat.le_trans le m14
     have g7:jO H7 l ps rs:=⟨hl7,rat,good,pos,le⟩
     refine⟨_,rfl,_,rfl,l,d,ps,rs,n',sd,t',rfl,g7,hd7,λW rs' n8 t8 H8 fW fr8 hd8 hW8 pm=>?_⟩
     have hq8:=Zb hq7 hd7 fr8
     have g8:=g7.frd fr8 hd7
     have gd':=pm.good good
     have le':rs'.length<=14:=by rw[<-pm.1];exact le
     have ne':rs'≠[]:=λe=>by have:=pm.1;rw[e]at this;exact absurd this (by show ¬_=0;omega)
     have tl:=ZR gd'.nmr
     have few:QX rs'<=40:=gd'.few
     have tl:tw 1 (rs'.map qB)<=540:=by omega
     have wl:∀x∈rs'.map qB,wt x<=409:=λx hx=>by
       obtain⟨r,hr',rfl⟩:=List.mem_map.mp hx
       have:=zT (gd'.nmr r hr')
       have:=zS gd' hr'
       omega
     have pl:0 < (rs'.map qB).length:=by rw[List.length_map,<-pm.1];exact pos
     have ar:=zD gd'.nmr ne'
     have wj:wt (Str.join Qe (rs'.map qB))<=tw (cw 10) (rs'.map qB):=QV (c:=10) (rs'.map qB)
     rw[show cw 10=1 from rfl]at wj
     have lj:=Ji (Str.join Qe (rs'.map qB))
     refine⟨rfl,_,rfl,_,W,rs'.map qB,rfl,rfl,.of hW8,Zs (k:=1) (by omega) (by decide+kernel),?_⟩
     rw[Q0,yD]
     refine⟨_,rfl,.inl ⟨_,rfl,by omega,λH9 L1 xs k9 hL1 dv=>?_⟩⟩
     rw[ZH ar,zh gd' le']at dv
     obtain⟨lr,rfl⟩:=WN dv
     have hq9:=hq8.keep k9
     have g9:=g8.kp k9
     have hd9:=k9 _ _ hd8 (λ_ z=>nomatch z)
     have hW9:=k9 _ _ hW8 (λ_ z=>nomatch z)
     have hu:=hr.units0
     refine⟨_,rfl,_,rfl,jn ⟨_,rfl,2,rfl,L1,_,rfl,.of hL1,λp1 f1=>?_⟩⟩
     rw[show Jv [V.str (Str.ofString "good"),.ref lr,.str (ZK rs')] (some 2) none=[.str (ZK rs')] from rfl]
     have s10:=qj (o:=HO.lst [V.str (ZK rs')]) f1
     have y10:upd H9 p1 (HO.lst [V.str (ZK rs')]) p1=some (.lst [V.str (ZK rs')]):=qd
     generalize upd H9 p1 (HO.lst [V.str (ZK rs')])=H10 at s10 y10
     refine⟨_,rfl,l,ps,rs,rfl,g9.mono s10,λH11 s11=>⟨by show 1<=sizeLine;decide,λp2 f2=>?_⟩⟩
     have s12:=qj (o:=HO.lst [V.str (ZK rs)]) f2
     have y12:upd H11 p2 (HO.lst [V.str (ZK rs)]) p2=some (.lst [V.str (ZK rs)]):=qd
     generalize upd H11 p2 (HO.lst [V.str (ZK rs)])=H12 at s12 y12
     have esh:ZK rs'=ZK rs:=by unfold ZK;rw[pm.told]
     rw[esh]at y10
     refine⟨p1,p2,_,_,rfl,rfl,.of (s12 _ _ (s11 _ _ y10)),.of y12,rfl,rfl,_,rfl,qJ (wF _) ?_⟩
     have s92:=(s10.trans s11).trans s12
     have hq12:=hq9.keep s92.keep
     have hd12:=s92 _ _ hd9
     have hW12:=s92 _ _ hW9
     clear s92 s10 s11 s12 y10 y12
     -- lines spoiled
     refine Gs ?_
     dsimp only[List.set]
     refine Yw (λ_ X=>SqL K X a (ns.map V.int)/\(∃n t,X d=some (.dK (qP n sd t)))/\X W=some (.lst ((rs'.map qB).map V.str)))
       (λσ' X=>∃W' ms,σ'=[some (.ref a),some (.int (0+(i:Int))),some (.ref d),some (.ref l),some (.ref W'),some (.ref L1),v6,v7,none]/\SqL K X a (ns.map V.int)/\(∃n t,X d=some (.dK (qP n sd t)))/\X W'=some (.lst (ms.map V.str))/\tw 1 ms<=960)
       (λQ kk=>⟨_,rfl,d,3,n8,sd,t8,rfl,hd12,by decide,by decide,λr13 n13 t13 _ _=>⟨rfl,_,rfl,kk _ _ ⟨Zb hq12 hd12 VJ,⟨n13,t13,qd⟩,Yq VJ hd12 hW12 (λ_ z=>nomatch z)⟩⟩⟩) ?_ ?_ ?_
     . rintro X ⟨hqX,⟨nX,tX,hdX⟩,hWX⟩ D' kk
       exact⟨_,rfl,_,rfl,W,d,rs'.map qB,nX,sd,tX,rfl,hWX,hdX,pl,tl,wl,λW' ms n' t' X' fr' hd' hW' tm=>kk _ _ ⟨W',ms,rfl,Zb hqX hdX fr',⟨n',t',hd'⟩,hW',tm⟩⟩
     . rintro X ⟨hqX,hdX,hWX⟩
       exact⟨W,_,rfl,hqX,hdX,hWX,by omega⟩
     rintro σ' X ⟨W',ms,rfl,hqX,⟨nX,tX,hdX⟩,hWX,tm⟩
     have wm:wt (Str.join Qe ms)<=tw (cw 10) ms:=QV (c:=10) ms
     rw[show cw 10=1 from rfl]at wm
     refine⟨rfl,_,rfl,_,W',ms,rfl,rfl,.of hWX,Zs (k:=1) (by omega) (by decide+kernel),?_⟩
     rw[Q0]
     refine⟨_,rfl,Str.join Qe ms,d,nX,sd,tX,rfl,hdX,by omega,λX1 z0 n14 t14 fr14 hd14 lz0=>?_⟩
     have hq14:=Zb hqX hdX fr14
     -- or a great one
     refine ZW ?_
     dsimp only[List.set]
     refine Yw (λ_ Y=>SqL K Y a (ns.map V.int)/\∃n t,Y d=some (.dK (qP n sd t)))
       (λσ' Y=>∃z,σ'=[some (.ref a),some (.int (0+(i:Int))),some (.ref d),some (.ref l),some (.ref W'),some (.ref L1),some (.str z),v7,none]/\SqL K Y a (ns.map V.int)/\z.length<=1000)
       (λQ kk=>⟨_,rfl,d,8,n14,sd,t14,rfl,hd14,by decide,by decide,λr15 n15 t15 _ _=>⟨rfl,_,rfl,kk _ _ ⟨Zb hq14 hd14 VJ,⟨n15,t15,qd⟩⟩⟩⟩) ?_ ?_ ?_
     . rintro Y ⟨hqY,⟨nY,tY,hdY⟩⟩ D' kk
       exact⟨_,rfl,d,nY,sd,tY,rfl,hdY,λY' z n' t' fr' hd' lz=>kk _ _ ⟨z,rfl,Zb hqY hdY fr',lz⟩⟩
     . rintro Y ⟨hqY,_⟩
       exact⟨z0,rfl,hqY,lz0⟩
     rintro σ' Y ⟨z,rfl,hqY,lz⟩
     obtain⟨ro,tc⟩:=Wf lz
     refine⟨_,rfl,z,rfl,lz,λY1 L2 xs2 k1 hL2 dv2=>?_⟩
     have hqY1:=hqY.keep k1
     refine⟨_,rfl,.str z,rfl,.inl ⟨z,rfl,lz,λY2 L3 xs3 k2 hL3 dv3=>?_⟩⟩
     have hqY2:=hqY1.keep k2
     have hL2':=k2 _ _ hL2 (λ_ z=>nomatch z)
     have dv2':=dvs_keepS k2 dv2
     refine YY hL3 dv3 ro ?_
     refine⟨_,rfl,?_⟩
     refine YY hL2' dv2' ro ?_
     refine⟨rfl,_,rfl,qJ (by rw[decide_eq_true rfl];rfl) ?_⟩
     rcases tc with ⟨tag,dd,et,nt⟩ | ⟨us,gu,pu,lu,et⟩
     . rw[et]at dv2'
       obtain⟨v,rfl⟩:=xO dv2'
       refine⟨_,rfl,L2,_,0,.str tag,rfl,rfl,.of hL2',rfl,rfl,_,rfl,qJ (decide_eq_false λe=>nt (V.str.inj e)) ?_⟩
       exact jn ⟨_,_,_,_,_,_,_,rfl,hqY2⟩
     . rw[et]at dv2' ro
       obtain⟨lr2,rfl⟩:=WN dv2'
       have ws:=ky gu lu
       have lws:=Ji (ZK us)
       refine⟨_,rfl,L2,_,0,.str (Str.ofString "good"),rfl,rfl,.of hL2',rfl,rfl,_,rfl,jo (decide_eq_true rfl) ?_⟩
       refine⟨_,rfl,L2,_,2,.str (ZK us),rfl,rfl,.of hL2',rfl,_,rfl,.inl ⟨_,rfl,by omega,λY3 L4 xs4 k3 hL4 dv4=>?_⟩⟩
       rw[uB gu pu lu]at dv4
       have hL2'':=k3 _ _ hL2' (λ_ z=>nomatch z)
       refine YY hL4 dv4 ro ?_
       refine⟨_,rfl,?_⟩
       refine YY hL2'' (dvs_keepS k3 dv2') ro ?_
       refine⟨rfl,_,rfl,qJ (by rw[decide_eq_true rfl];rfl) ?_⟩
       exact⟨_,_,_,_,_,_,_,rfl,hqY2.keep k3⟩
   . rintro σ H' ⟨v1,v2,v3,v4,v5,v6,v7,rfl,hq2⟩
     refine⟨by show 1<=sizeLine;decide,λl1 hl1=>⟨by show 1<=sizeLine;decide,λt1 ht1=>λdd hdd=>⟨by show 7<=sizeLine;decide,λLL hLL=>?_⟩⟩⟩
     have x1:=qj (o:=HO.lst [V.str (Str.ofString "a:")]) hl1
     have y1:upd H' l1 (.lst [V.str (Str.ofString "a:")]) l1=some (.lst [V.str (Str.ofString "a:")]):=qd
     generalize upd H' l1 (.lst [V.str (Str.ofString "a:")])=J1 at x1 y1 ht1 hdd hLL ⊢
     have x2:=qj (o:=HO.tup [V.str (Str.ofString "a:")]) ht1
     have y2:upd J1 t1 (.tup [V.str (Str.ofString "a:")]) t1=some (.tup [V.str (Str.ofString "a:")]):=qd
     generalize upd J1 t1 (.tup [V.str (Str.ofString "a:")])=J2 at x2 y2 hdd hLL ⊢
     have x3:=qj (o:=HO.dK []) hdd
     have y3:upd J2 dd (.dK []) dd=some (.dK []):=qd
     generalize upd J2 dd (.dK [])=J3 at x3 y3 hLL ⊢
     have x7:=qj (o:=HO.lst [V.non,.int 5,.bl true,.ref l1,.ref t1,.ref dd,.str (Str.ofString "")]) hLL
     have y7:upd J3 LL (.lst [V.non,.int 5,.bl true,.ref l1,.ref t1,.ref dd,.str (Str.ofString "")]) LL=some (.lst [V.non,.int 5,.bl true,.ref l1,.ref t1,.ref dd,.str (Str.ofString "")]):=qd
     generalize upd J3 LL (.lst [V.non,.int 5,.bl true,.ref l1,.ref t1,.ref dd,.str (Str.ofString "")])=J7 at x7 y7 ⊢
     have x37:=x3.trans x7
     have x27:=x2.trans x37
     have ro:Xm [.str (Str.ofString "text"),.int ((0:Nat):Int)]:=by
       have:=(Wf (z:=Str.ofString "") (by decide+kernel)).1
       rw[We]at this
       exact this
     have things:∀x∈[V.non,.int 5,.bl true,.ref l1,.ref t1,.ref dd,.str (Str.ofString "")],∀X,QC J7 X->∀R:VK,(∀X' L xs,QC X X'->X' L=some (.lst xs)->DVs K X' xs [.str (Str.ofString "text"),.int ((0:Nat):Int)]->R (.ref L) X')->kn K [x] X R E0:=by
       intro x hx X kX R hR
       have tw0:∀{X':Hp},DVs K X' [V.str (Str.ofString "text"),.int 0] [.str (Str.ofString "text"),.int ((0:Nat):Int)]:=.cons (.str _) (.cons (.int _) .nil)
       have kk:∀{b:Addr} {o:HO},J7 b=some o->(∀φ,o≠.ext φ)->X b=some o:=λh nx=>kX _ _ h nx
       simp only[List.mem_cons,List.not_mem_nil,or_false]at hx
       rcases hx with rfl | rfl | rfl | rfl | rfl | rfl | rfl
       . exact⟨_,rfl,.inr ⟨_,.non,rfl,λX' L k' h'=>hR X' L _ k' h' tw0⟩⟩
       . exact⟨_,rfl,.inr ⟨_,.int 5,rfl,λX' L k' h'=>hR X' L _ k' h' tw0⟩⟩
       . exact⟨_,rfl,.inr ⟨_,.bl true,rfl,λX' L k' h'=>hR X' L _ k' h' tw0⟩⟩
       . exact⟨_,rfl,.inr ⟨_,.lst (kk (x27 _ _ y1) (λ_ z=>nomatch z)) (.cons (.str _) .nil),rfl,λX' L k' h'=>hR X' L _ k' h' tw0⟩⟩
       . exact⟨_,rfl,.inr ⟨_,.tup (kk (x37 _ _ y2) (λ_ z=>nomatch z)) (by show 1<=900;decide) (.cons (.str _ (by decide+kernel)) .nil),rfl,λX' L k' h'=>hR X' L _ k' h' tw0⟩⟩
       . exact⟨_,rfl,.inr ⟨_,.dct (kk (x7 _ _ y3) (λ_ z=>nomatch z)),rfl,λX' L k' h'=>hR X' L _ k' h' tw0⟩⟩
       . exact⟨_,rfl,.inl ⟨_,rfl,by decide+kernel,λX' L xs k' h' dv=>hR X' L xs k' h' (by rw[We]at dv;exact dv)⟩⟩
     refine⟨LL,rfl,⟨_,.of y7⟩,?_⟩
     refine jM (K:=K) (a:=LL) (xs:=[V.non,.int 5,.bl true,.ref l1,.ref t1,.ref dd,.str (Str.ofString "")]) (λi σ' X=>∃v8,σ'=[some (.ref a),v1,v2,v3,v4,v5,v6,v7,v8]/\QC J7 X) ⟨_,rfl,λ_ _ h _=>h⟩ (λi σ' X _ ⟨_,_,kX⟩=>.of (kX _ _ y7 (λ_ z=>nomatch z))) ?_ ?_
     . rintro i x σ' X hx ⟨v8,rfl,kX⟩
       refine⟨_,rfl,?_⟩
       refine Vy ?_
       refine things x (List.mem_of_getElem? hx) X kX _ ?_
       intro X' L3 xs3 k11 hL3 dv3
       refine YY hL3 dv3 ro ?_
       refine⟨by show 2<=sizeLine;decide,λL4 hL4=>?_⟩
       refine YY (xs:=[V.str (Str.ofString "text"),.int 0]) (ds:=[.str (Str.ofString "text"),.int ((0:Nat):Int)]) qd (.cons (.str _) (.cons (.int _) .nil)) ro ?_
       refine⟨rfl,_,rfl,qJ (by rw[decide_eq_true rfl];rfl) ?_⟩
       exact⟨_,rfl,(kX.trans k11).trans (qj hL4).keep⟩
     . rintro σ' X ⟨v8,rfl,kX⟩
       exact k X
end
end Rh
set_option Elab.async false
set_option linter.all false
set_option maxRecDepth 100000
set_option maxHeartbeats 4000000
namespace Rh
open PySem L2 PyProof.Rows 
theorem kss {K:PySem.W.Frag}:PySem.W.kitOne K (.type "str") (.type "str")=some true:=by kernel_rfl
theorem ktt {K:PySem.W.Frag}:PySem.W.kitOne K (.type "tuple") (.type "tuple")=some true:=by kernel_rfl
theorem kll {K:PySem.W.Frag}:PySem.W.kitOne K (.type "list") (.type "list")=some true:=by kernel_rfl
section
variable {K:PySem.W.Frag}
/-- a def as the head tells it -/
def MF (K:PySem.W.Frag) (n q:Str) (s:Stmt) (f:Addr):Prop:=∃fd,Qj K n q s f fd
theorem MF.mk' {x qual:Str} {st:Stmt} {f:Addr} {oc:Value} {od an:Option Addr} {osl:Array (Option Value)} {kV doc pm cdv ct:Value} (l:K.lookup f=some ⟨oc,od,.func (PySem.W.fnOf x qual (Qz st) (jZ st) (qo st) .none kV doc pm an cdv ct),osl⟩) (c:PySem.W.codeIn K cdv qual=true) (k:PySem.W.keepIn K (.ref f)=true):MF K x qual st f:=⟨_,VI l c k⟩
def HF (K:PySem.W.Frag) (n:Str) (s:Stmt) (f:Addr):Prop:=PySem.W.nsIn K mainGlobals n=some (some (.ref f))/\MF K n n s f
theorem HF.mk' {x:Str} {st:Stmt} {f:Addr} {oc:Value} {od an:Option Addr} {osl:Array (Option Value)} {kV doc pm cdv ct:Value} (a:PySem.W.nsIn K mainGlobals x=some (some (.ref f))) (l:K.lookup f=some ⟨oc,od,.func (PySem.W.fnOf x x (Qz st) (jZ st) (qo st) .none kV doc pm an cdv ct),osl⟩) (c:PySem.W.codeIn K cdv x=true) (k:PySem.W.keepIn K (.ref f)=true):HF K x st f:=⟨a,_,VI l c k⟩
theorem HF.has {h:Heap} {mg:Str->Option Value} {n:Str} {s:Stmt} {f:Addr} {ps:List Str} (l:HF K n s f) (X:K.In h) (G:h.Ns mainGlobals mg) (b:∀{fd},Qj K n n s f fd->jX K fd ps []):∃fd,jC K mg n s ps f fd:=let ⟨a,fd,F⟩:=l;⟨fd,F,PySem.W.mg_of X G a,b F⟩
end
def KZ (es:Array DictEntry):Bool:=es.all λe=>match e.key with | .str _ _=>true | _=>false
theorem xV {es:Array DictEntry} (h:KZ es=true):StrKeys es:=by
 intro e he
 have q:=Array.all_eq_true'.mp h e he
 revert q
 cases hk:e.key<;>intro q<;>first | exact⟨_,_,rfl⟩ | (dsimp only at q;cases q)
section
variable {K:PySem.W.Frag} {mg:Str->Option Value} {D C f:Addr} {x qual fld:Str} {st:Stmt}
theorem Yx {h:Heap} {fd:FuncData} {nm q:Str} {N:Addr} {bs:List Value} {hdct:Bool} {sn:List Str} {sub:List Value} {ab:Bool} {col:Option Bool} {dd:Option Addr} {k0 k1 k2 k3 k5:Option Value}
   (X:K.In h) (G:h.Ns mainGlobals mg) (tl:∀h:Heap,K.In h->OwnTail h qR (.ref D::qR)) (F:Qj K "__init__" qual st f fd) (b:jX K fd ["self",fld] [])
   (a1:PySem.W.nsIn K mainGlobals x=some (some (.ref C)))
   (a2:K.lookup C=some (excClassObj nm q C N bs (.ref D::qR) hdct sn sub ab col dd k0 k1 k2 k3 k5 "ValueError.__new__"))
   (a3:PySem.W.findIn K (.ref C) "__init__"=some (some (.ref f))) (a4:PySem.W.isFn K (.ref f)=true) (a5:PySem.W.keepIn K (.ref C)=true)
   (a6:PySem.W.findIn K (.ref C) "__getattribute__"=some (some (.builtin "BaseException.__getattribute__"))) (a7:PySem.W.findIn K (.ref C) "__getattr__"=some none)
   (a8:PySem.W.findIn K (.ref C) "__setattr__"=some (some (.builtin "object.__setattr__"))) (a9:PySem.W.hasDictIn K C=true)
   (a10:PySem.W.mroIn K C (.type "BaseException")=some true) (a11:PySem.W.mroIn K C (.type "object")=some true)
   (a12:PySem.W.findIn K (.ref C) "__class__"=some (some (.builtin "object.__class__"))) (a13:PySem.W.findIn K (.ref C) fld=some none):X6 K mg D x qual st fld C f fd:=
 ⟨⟨a6,a7,a8,a9,⟨_,by unfold PySem.W.clsIn;rw[a2],rfl⟩,a10,a11,a12⟩,⟨⟨nm,q,N,bs,hdct,sn,sub,ab,col,dd,k0,k1,k2,k3,k5,a2⟩,tl,a3,a4,a5⟩,PySem.W.mg_of X G a1,a13,F,b⟩
end
theorem all_mk {l:PySem.W.OpenLaw} {w:World} {K:PySem.W.Frag} {h:Heap} {mg:Str->Option Value} {fa:Addr} (X:K.In h) (G:h.Ns mainGlobals mg) (hfa:mg "law"=some (.ref fa))
   {fO fL fT fN fD fR fA1 fA2 fA3 fA4 fA5 fA6 fA7 fA8 fE1 fE2 fE3 fE4 fE5 fF1 fF2 fF3 fF4 fF5 fF6 fF7 fF8 fF9 fF10 fCGi fCGW CNoGround fNoGround CNoPlace fNoPlace CTwice fTwice CTooMany fTooMany CNoText fNoText:Addr}
   {fLAW:Addr} {odLAW anLAW:Option Addr} {slLAW:Array (Option Value)} {ocLAW kVLAW dcLAW pmLAW cdLAW ctLAW:Value}
   {CG:Addr}
   {tm1:Tok}
   {tm2:Tok}
   {tm3:Tok}
   {tm4:Tok}
   {D:Addr} {nmHE qHE:Str} {NHE:Addr} {bsHE subHE:List Value} {hdctHE abHE:Bool} {snHE:List Str} {colHE:Option Bool} {ddHE:Option Addr} {kaHE kbHE kcHE kdHE keHE:Option Value} {oHN:Value} {dHN:Option Addr} {es:Array DictEntry} {ep:Nat} {slHN:Array (Option Value)}
   {nmNoGround qNoGround:Str} {NNoGround:Addr} {bsNoGround subNoGround:List Value} {hdctNoGround abNoGround:Bool} {snNoGround:List Str} {colNoGround:Option Bool} {ddNoGround:Option Addr} {kaNoGround kbNoGround kcNoGround kdNoGround keNoGround:Option Value}
   {nmNoPlace qNoPlace:Str} {NNoPlace:Addr} {bsNoPlace subNoPlace:List Value} {hdctNoPlace abNoPlace:Bool} {snNoPlace:List Str} {colNoPlace:Option Bool} {ddNoPlace:Option Addr} {kaNoPlace kbNoPlace kcNoPlace kdNoPlace keNoPlace:Option Value}
   {nmTwice qTwice:Str} {NTwice:Addr} {bsTwice subTwice:List Value} {hdctTwice abTwice:Bool} {snTwice:List Str} {colTwice:Option Bool} {ddTwice:Option Addr} {kaTwice kbTwice kcTwice kdTwice keTwice:Option Value}
   {nmTooMany qTooMany:Str} {NTooMany:Addr} {bsTooMany subTooMany:List Value} {hdctTooMany abTooMany:Bool} {snTooMany:List Str} {colTooMany:Option Bool} {ddTooMany:Option Addr} {kaTooMany kbTooMany kcTooMany kdTooMany keTooMany:Option Value}
   {nmNoText qNoText:Str} {NNoText:Addr} {bsNoText subNoText:List Value} {hdctNoText abNoText:Bool} {snNoText:List Str} {colNoText:Option Bool} {ddNoText:Option Addr} {kaNoText kbNoText kcNoText kdNoText keNoText:Option Value}
   (lO:HF K "_law_cell_at" Uf fO)
   (lL:HF K "_law_source" zP fL)
   (lT:HF K "_law_take" JQ fT)
   (lN:HF K "_law_names" Ya fN)
   (lD:HF K "_law_leads" Yb fD)
   (lR:HF K "_law_rows" Ub fR)
   (lA1:HF K "is_name" QW fA1)
   (lA2:HF K "is_tuple_of_names" ZN fA2)
   (lA3:HF K "is_row" Zw fA3)
   (lA4:HF K "need_form" Wr fA4)
   (lA5:HF K "need_own_names" kI fA5)
   (lA6:HF K "need_ends" Ws fA6)
   (lA7:HF K "need_few_roads" kJ fA7)
   (lA8:HF K "need_rows" Zp fA8)
   (lE1:HF K "show_row" QI fE1)
   (lE2:HF K "show_ground" YV fE2)
   (lE3:HF K "is_line" Zd fE3)
   (lE4:HF K "row_of" zb fE4)
   (lE5:HF K "read_ground" Wp fE5)
   (lF1:HF K "_law_is_name" YW fF1)
   (lF2:HF K "_law_row" Wq fF2)
   (lF3:HF K "_law_made" Yc fF3)
   (lF4:HF K "_law_read" XC fF4)
   (lF5:HF K "_law_due" Ud fF5)
   (lF6:HF K "_law_form" XD fF6)
   (lF7:HF K "_law_lines" zQ fF7)
   (lF8:HF K "_law_spoiled_lines" Uc fF8)
   (lF9:HF K "_law_spoiled" xZ fF9)
   (lF10:HF K "_law_great" zR fF10)
   (aLAW:PySem.W.nsIn K mainGlobals "law"=some (some (.ref fLAW)))
   (lLAW:K.lookup fLAW=some ⟨ocLAW,odLAW,.func (PySem.W.fnOf "law" "law" (Qz XB) (jZ XB) (qo XB) .none kVLAW dcLAW pmLAW anLAW cdLAW ctLAW),slLAW⟩)
   (cLAW:PySem.W.codeIn K cdLAW "law"=true)
   (kLAW:PySem.W.keepIn K (.ref fLAW)=true)
   (nCG:PySem.W.nsIn K mainGlobals "Ground"=some (some (.ref CG)))
   (pgCG:PySem.W.plainGet K CG Str.empty=true)
   (hdCG:PySem.W.hasDictIn K CG=true)
   (poCG:PySem.W.plainOver K CG=true)
   (saCG:PySem.W.findIn K (.ref CG) "__setattr__"=some (some (.builtin "object.__setattr__")))
   (mkCG:PySem.W.makesIn K CG=true)
   (inCG:PySem.W.findIn K (.ref CG) "__init__"=some (some (.ref fCGi)))
   (fiCG:PySem.W.isFn K (.ref fCGi)=true)
   (kcCG:PySem.W.keepIn K (.ref CG)=true)
   (noCG:PySem.W.findIn K (.ref CG) "order"=some none)
   (nrCG:PySem.W.findIn K (.ref CG) "roads"=some none)
   (lCGi:MF K "__init__" "Ground.__init__" Vs fCGi)
   (atCGW:PySem.W.findIn K (.ref CG) "rows"=some (some (.ref fCGW)))
   (fnCGW:PySem.W.isFn K (.ref fCGW)=true)
   (lCGW:MF K "rows" "Ground.rows" JU fCGW)
   (zlen:PySem.W.nsIn K mainGlobals "len"=some none)
   (zmax:PySem.W.nsIn K mainGlobals "max"=some none)
   (zmin:PySem.W.nsIn K mainGlobals "min"=some none)
   (zint:PySem.W.nsIn K mainGlobals "int"=some none)
   (zrange:PySem.W.nsIn K mainGlobals "range"=some none)
   (zisinstance:PySem.W.nsIn K mainGlobals "isinstance"=some none)
   (zstr:PySem.W.nsIn K mainGlobals "str"=some none)
   (zall:PySem.W.nsIn K mainGlobals "all"=some none)
   (zenumerate:PySem.W.nsIn K mainGlobals "enumerate"=some none)
   (zsum:PySem.W.nsIn K mainGlobals "sum"=some none)
   (zsorted:PySem.W.nsIn K mainGlobals "sorted"=some none)
   (zlist:PySem.W.nsIn K mainGlobals "list"=some none)
   (zreversed:PySem.W.nsIn K mainGlobals "reversed"=some none)
   (zset:PySem.W.nsIn K mainGlobals "set"=some none)
   (ztuple:PySem.W.nsIn K mainGlobals "tuple"=some none)
   (zrepr:PySem.W.nsIn K mainGlobals "repr"=some none)
   (m1:PySem.W.nsIn K mainGlobals "LETTERS"=some (some (.str "abcdefghijklmnopqrstuvwxyz" tm1)))
   (m2:PySem.W.nsIn K mainGlobals "LONGEST_NAME"=some (some (.int 8 tm2)))
   (m3:PySem.W.nsIn K mainGlobals "MOST_PLACES"=some (some (.int 14 tm3)))
   (m4:PySem.W.nsIn K mainGlobals "MOST_ROADS"=some (some (.int 40 tm4)))
   (aHE:PySem.W.nsIn K mainGlobals "HeapError"=some (some (.ref D)))
   (oHE:K.lookup D=some (excClassObj nmHE qHE D NHE bsHE qR hdctHE snHE subHE abHE colHE ddHE kaHE kbHE kcHE kdHE keHE "ValueError.__new__"))
   (nHE:K.lookup NHE=some ⟨oHN,dHN,.dict es ep,slHN⟩)
   (skHE:KZ es=true)
   (niHE:nsFind es (Str.ofString "__init__")=none)
   (a1NoGround:PySem.W.nsIn K mainGlobals "NoGround"=some (some (.ref CNoGround)))
   (a2NoGround:K.lookup CNoGround=some (excClassObj nmNoGround qNoGround CNoGround NNoGround bsNoGround (.ref D::qR) hdctNoGround snNoGround subNoGround abNoGround colNoGround ddNoGround kaNoGround kbNoGround kcNoGround kdNoGround keNoGround "ValueError.__new__"))
   (a3NoGround:PySem.W.findIn K (.ref CNoGround) "__init__"=some (some (.ref fNoGround)))
   (a4NoGround:PySem.W.isFn K (.ref fNoGround)=true)
   (lNoGround:MF K "__init__" "NoGround.__init__" Jb fNoGround)
   (a5NoGround:PySem.W.keepIn K (.ref CNoGround)=true)
   (a6NoGround:PySem.W.findIn K (.ref CNoGround) "__getattribute__"=some (some (.builtin "BaseException.__getattribute__")))
   (a7NoGround:PySem.W.findIn K (.ref CNoGround) "__getattr__"=some none)
   (a8NoGround:PySem.W.findIn K (.ref CNoGround) "__setattr__"=some (some (.builtin "object.__setattr__")))
   (a9NoGround:PySem.W.hasDictIn K CNoGround=true)
   (a10NoGround:PySem.W.mroIn K CNoGround (.type "BaseException")=some true)
   (a11NoGround:PySem.W.mroIn K CNoGround (.type "object")=some true)
   (a12NoGround:PySem.W.findIn K (.ref CNoGround) "__class__"=some (some (.builtin "object.__class__")))
   (a13NoGround:PySem.W.findIn K (.ref CNoGround) "row"=some none)
   (a1NoPlace:PySem.W.nsIn K mainGlobals "NoPlace"=some (some (.ref CNoPlace)))
   (a2NoPlace:K.lookup CNoPlace=some (excClassObj nmNoPlace qNoPlace CNoPlace NNoPlace bsNoPlace (.ref D::qR) hdctNoPlace snNoPlace subNoPlace abNoPlace colNoPlace ddNoPlace kaNoPlace kbNoPlace kcNoPlace kdNoPlace keNoPlace "ValueError.__new__"))
   (a3NoPlace:PySem.W.findIn K (.ref CNoPlace) "__init__"=some (some (.ref fNoPlace)))
   (a4NoPlace:PySem.W.isFn K (.ref fNoPlace)=true)
   (lNoPlace:MF K "__init__" "NoPlace.__init__" JR fNoPlace)
   (a5NoPlace:PySem.W.keepIn K (.ref CNoPlace)=true)
   (a6NoPlace:PySem.W.findIn K (.ref CNoPlace) "__getattribute__"=some (some (.builtin "BaseException.__getattribute__")))
   (a7NoPlace:PySem.W.findIn K (.ref CNoPlace) "__getattr__"=some none)
   (a8NoPlace:PySem.W.findIn K (.ref CNoPlace) "__setattr__"=some (some (.builtin "object.__setattr__")))
   (a9NoPlace:PySem.W.hasDictIn K CNoPlace=true)
   (a10NoPlace:PySem.W.mroIn K CNoPlace (.type "BaseException")=some true)
   (a11NoPlace:PySem.W.mroIn K CNoPlace (.type "object")=some true)
   (a12NoPlace:PySem.W.findIn K (.ref CNoPlace) "__class__"=some (some (.builtin "object.__class__")))
   (a13NoPlace:PySem.W.findIn K (.ref CNoPlace) "found"=some none)
   (a1Twice:PySem.W.nsIn K mainGlobals "Twice"=some (some (.ref CTwice)))
   (a2Twice:K.lookup CTwice=some (excClassObj nmTwice qTwice CTwice NTwice bsTwice (.ref D::qR) hdctTwice snTwice subTwice abTwice colTwice ddTwice kaTwice kbTwice kcTwice kdTwice keTwice "ValueError.__new__"))
   (a3Twice:PySem.W.findIn K (.ref CTwice) "__init__"=some (some (.ref fTwice)))
   (a4Twice:PySem.W.isFn K (.ref fTwice)=true)
   (lTwice:MF K "__init__" "Twice.__init__" z9 fTwice)
   (a5Twice:PySem.W.keepIn K (.ref CTwice)=true)
   (a6Twice:PySem.W.findIn K (.ref CTwice) "__getattribute__"=some (some (.builtin "BaseException.__getattribute__")))
   (a7Twice:PySem.W.findIn K (.ref CTwice) "__getattr__"=some none)
   (a8Twice:PySem.W.findIn K (.ref CTwice) "__setattr__"=some (some (.builtin "object.__setattr__")))
   (a9Twice:PySem.W.hasDictIn K CTwice=true)
   (a10Twice:PySem.W.mroIn K CTwice (.type "BaseException")=some true)
   (a11Twice:PySem.W.mroIn K CTwice (.type "object")=some true)
   (a12Twice:PySem.W.findIn K (.ref CTwice) "__class__"=some (some (.builtin "object.__class__")))
   (a13Twice:PySem.W.findIn K (.ref CTwice) "found"=some none)
   (a1TooMany:PySem.W.nsIn K mainGlobals "TooMany"=some (some (.ref CTooMany)))
   (a2TooMany:K.lookup CTooMany=some (excClassObj nmTooMany qTooMany CTooMany NTooMany bsTooMany (.ref D::qR) hdctTooMany snTooMany subTooMany abTooMany colTooMany ddTooMany kaTooMany kbTooMany kcTooMany kdTooMany keTooMany "ValueError.__new__"))
   (a3TooMany:PySem.W.findIn K (.ref CTooMany) "__init__"=some (some (.ref fTooMany)))
   (a4TooMany:PySem.W.isFn K (.ref fTooMany)=true)
   (lTooMany:MF K "__init__" "TooMany.__init__" JP fTooMany)
   (a5TooMany:PySem.W.keepIn K (.ref CTooMany)=true)
   (a6TooMany:PySem.W.findIn K (.ref CTooMany) "__getattribute__"=some (some (.builtin "BaseException.__getattribute__")))
   (a7TooMany:PySem.W.findIn K (.ref CTooMany) "__getattr__"=some none)
   (a8TooMany:PySem.W.findIn K (.ref CTooMany) "__setattr__"=some (some (.builtin "object.__setattr__")))
   (a9TooMany:PySem.W.hasDictIn K CTooMany=true)
   (a10TooMany:PySem.W.mroIn K CTooMany (.type "BaseException")=some true)
   (a11TooMany:PySem.W.mroIn K CTooMany (.type "object")=some true)
   (a12TooMany:PySem.W.findIn K (.ref CTooMany) "__class__"=some (some (.builtin "object.__class__")))
   (a13TooMany:PySem.W.findIn K (.ref CTooMany) "found"=some none)
   (a1NoText:PySem.W.nsIn K mainGlobals "NoText"=some (some (.ref CNoText)))
   (a2NoText:K.lookup CNoText=some (excClassObj nmNoText qNoText CNoText NNoText bsNoText (.ref D::qR) hdctNoText snNoText subNoText abNoText colNoText ddNoText kaNoText kbNoText kcNoText kdNoText keNoText "ValueError.__new__"))
   (a3NoText:PySem.W.findIn K (.ref CNoText) "__init__"=some (some (.ref fNoText)))
   (a4NoText:PySem.W.isFn K (.ref fNoText)=true)
   (lNoText:MF K "__init__" "NoText.__init__" ZO fNoText)
   (a5NoText:PySem.W.keepIn K (.ref CNoText)=true)
   (a6NoText:PySem.W.findIn K (.ref CNoText) "__getattribute__"=some (some (.builtin "BaseException.__getattribute__")))
   (a7NoText:PySem.W.findIn K (.ref CNoText) "__getattr__"=some none)
   (a8NoText:PySem.W.findIn K (.ref CNoText) "__setattr__"=some (some (.builtin "object.__setattr__")))
   (a9NoText:PySem.W.hasDictIn K CNoText=true)
   (a10NoText:PySem.W.mroIn K CNoText (.type "BaseException")=some true)
   (a11NoText:PySem.W.mroIn K CNoText (.type "object")=some true)
   (a12NoText:PySem.W.findIn K (.ref CNoText) "__class__"=some (some (.builtin "object.__class__")))
   (a13NoText:PySem.W.findIn K (.ref CNoText) "row"=some none)
   (spc:PySem.W.specialIn K (.builtin "object.__class__") "__get__"=some (some (.builtin "getset_descriptor.__get__")))
   (tks:PySem.W.takesIn K (.builtin "object.__class__")=some true)
   (w1:PySem.W.kitOne K (.ref CNoText) (.ref D)=some true)
   (w2:PySem.W.kitOne K (.ref CNoText) (.ref CNoGround)=some false)
   (n0:CTooMany≠CNoText)
   (n1:CTwice≠CNoText)
   (n2:CNoPlace≠CNoText)
   (n3:D≠CNoText)
   (n4:CTwice≠CTooMany)
   (n5:CNoPlace≠CTooMany)
   (n6:D≠CTooMany)
   (n7:CNoPlace≠CTwice)
   (n8:D≠CTwice)
   :
   ∃fd:FuncData,(∀(s:Shared) (v:Value),BindsTo s fd ⟨[v],[]⟩ [("_law_script",v)])/\∀base:Heap,K.In base->base.Ns mainGlobals mg->qv l.prog w K mg base jh 10 fa fd ["_law_script"] (V6 K):=by
 have e:=hfa.symm.trans (PySem.W.mg_of X G aLAW)
 cases e
 obtain⟨_,hO⟩:=lO.has (ps:=["_law_script","_law_k"]) X G λF=>F.binds λ_ _ _ _ _ _ us hl=>by obtain⟨_,_,rfl⟩:=ZA hl;rfl
 obtain⟨_,hL⟩:=lL.has (ps:=["_law_cell"]) X G λF=>F.binds λ_ _ _ _ _ _ us hl=>by obtain⟨_,rfl⟩:=QQ hl;rfl
 obtain⟨_,hT⟩:=lT.has (ps:=["_law_source_here","_law_many"]) X G λF=>F.binds λ_ _ _ _ _ _ us hl=>by obtain⟨_,_,rfl⟩:=ZA hl;rfl
 obtain⟨_,hN⟩:=lN.has (ps:=["_law_source_here","_law_many"]) X G λF=>F.binds λ_ _ _ _ _ _ us hl=>by obtain⟨_,_,rfl⟩:=ZA hl;rfl
 obtain⟨_,hD⟩:=lD.has (ps:=["_law_source_here","_law_many","_law_shape","_law_low"]) X G λF=>F.binds λ_ _ _ _ _ _ us hl=>by obtain⟨_,_,_,_,rfl⟩:=RV hl;rfl
 obtain⟨_,hR⟩:=lR.has (ps:=["_law_source_here","_law_most"]) X G λF=>F.binds λ_ _ _ _ _ _ us hl=>by obtain⟨_,_,rfl⟩:=ZA hl;rfl
 obtain⟨_,hA1⟩:=lA1.has (ps:=["thing"]) X G λF=>F.binds λ_ _ _ _ _ _ us hl=>by obtain⟨_,rfl⟩:=QQ hl;rfl
 obtain⟨_,hA2⟩:=lA2.has (ps:=["thing"]) X G λF=>F.binds λ_ _ _ _ _ _ us hl=>by obtain⟨_,rfl⟩:=QQ hl;rfl
 obtain⟨_,hA3⟩:=lA3.has (ps:=["thing"]) X G λF=>F.binds λ_ _ _ _ _ _ us hl=>by obtain⟨_,rfl⟩:=QQ hl;rfl
 obtain⟨_,hA4⟩:=lA4.has (ps:=["rows"]) X G λF=>F.binds λ_ _ _ _ _ _ us hl=>by obtain⟨_,rfl⟩:=QQ hl;rfl
 obtain⟨_,hA5⟩:=lA5.has (ps:=["order"]) X G λF=>F.binds λ_ _ _ _ _ _ us hl=>by obtain⟨_,rfl⟩:=QQ hl;rfl
 obtain⟨_,hA6⟩:=lA6.has (ps:=["ends","order"]) X G λF=>F.binds λ_ _ _ _ _ _ us hl=>by obtain⟨_,_,rfl⟩:=ZA hl;rfl
 obtain⟨_,hA7⟩:=lA7.has (ps:=["rows"]) X G λF=>F.binds λ_ _ _ _ _ _ us hl=>by obtain⟨_,rfl⟩:=QQ hl;rfl
 obtain⟨_,hA8⟩:=lA8.has (ps:=["rows"]) X G λF=>F.binds λ_ _ _ _ _ _ us hl=>by obtain⟨_,rfl⟩:=QQ hl;rfl
 obtain⟨_,hE1⟩:=lE1.has (ps:=["row"]) X G λF=>F.binds λ_ _ _ _ _ _ us hl=>by obtain⟨_,rfl⟩:=QQ hl;rfl
 obtain⟨_,hE2⟩:=lE2.has (ps:=["ground"]) X G λF=>F.binds λ_ _ _ _ _ _ us hl=>by obtain⟨_,rfl⟩:=QQ hl;rfl
 obtain⟨_,hE3⟩:=lE3.has (ps:=["line"]) X G λF=>F.binds λ_ _ _ _ _ _ us hl=>by obtain⟨_,rfl⟩:=QQ hl;rfl
 obtain⟨_,hE4⟩:=lE4.has (ps:=["line"]) X G λF=>F.binds λ_ _ _ _ _ _ us hl=>by obtain⟨_,rfl⟩:=QQ hl;rfl
 obtain⟨_,hE5⟩:=lE5.has (ps:=["text"]) X G λF=>F.binds λ_ _ _ _ _ _ us hl=>by obtain⟨_,rfl⟩:=QQ hl;rfl
 obtain⟨_,hF1⟩:=lF1.has (ps:=["_law_word"]) X G λF=>F.binds λ_ _ _ _ _ _ us hl=>by obtain⟨_,rfl⟩:=QQ hl;rfl
 obtain⟨_,hF2⟩:=lF2.has (ps:=["_law_line"]) X G λF=>F.binds λ_ _ _ _ _ _ us hl=>by obtain⟨_,rfl⟩:=QQ hl;rfl
 obtain⟨_,hF3⟩:=lF3.has (ps:=["_law_rows_here"]) X G λF=>F.binds λ_ _ _ _ _ _ us hl=>by obtain⟨_,rfl⟩:=QQ hl;rfl
 obtain⟨_,hF4⟩:=lF4.has (ps:=["_law_text"]) X G λF=>F.binds λ_ _ _ _ _ _ us hl=>by obtain⟨_,rfl⟩:=QQ hl;rfl
 obtain⟨_,hF5⟩:=lF5.has (ps:=["_law_text"]) X G λF=>F.binds λ_ _ _ _ _ _ us hl=>by obtain⟨_,rfl⟩:=QQ hl;rfl
 obtain⟨_,hF6⟩:=lF6.has (ps:=["_law_rows_here"]) X G λF=>F.binds λ_ _ _ _ _ _ us hl=>by obtain⟨_,rfl⟩:=QQ hl;rfl
 obtain⟨_,hF7⟩:=lF7.has (ps:=["_law_rows_here","_law_source_here"]) X G λF=>F.binds λ_ _ _ _ _ _ us hl=>by obtain⟨_,_,rfl⟩:=ZA hl;rfl
 obtain⟨_,hF8⟩:=lF8.has (ps:=["_law_lines_here","_law_source_here"]) X G λF=>F.binds λ_ _ _ _ _ _ us hl=>by obtain⟨_,_,rfl⟩:=ZA hl;rfl
 obtain⟨_,hF9⟩:=lF9.has (ps:=["_law_text","_law_source_here"]) X G λF=>F.binds λ_ _ _ _ _ _ us hl=>by obtain⟨_,_,rfl⟩:=ZA hl;rfl
 obtain⟨_,hF10⟩:=lF10.has (ps:=["_law_source_here"]) X G λF=>F.binds λ_ _ _ _ _ _ us hl=>by obtain⟨_,rfl⟩:=QQ hl;rfl
 have FLAW:=VI (st:=XB) lLAW cLAW kLAW
 obtain⟨_,FiCG⟩:=lCGi
 have clCG:ua K mg CG fCGi _:=⟨⟨pgCG,hdCG,poCG,saCG⟩,⟨mkCG,inCG,fiCG,kcCG⟩,PySem.W.mg_of X G nCG,noCG,nrCG,FiCG,FiCG.binds (ps:=["self","rows"]) λ_ _ _ _ _ _ us hl=>by obtain⟨_,_,rfl⟩:=ZA hl;rfl⟩
 obtain⟨_,FCGW⟩:=lCGW
 have mCGW:KJ K CG "rows" "Ground.rows" JU ["self"] fCGW _:=⟨FCGW,⟨atCGW,fnCGW,FCGW.kp⟩,FCGW.binds (ps:=["self"]) λ_ _ _ _ _ _ us hl=>by obtain⟨_,rfl⟩:=QQ hl;rfl⟩
 have tl:∀h:Heap,K.In h->OwnTail h qR (.ref D::qR):=λh X=>.own (X _ _ oHE) ⟨_,es,ep,X _ _ nHE,rfl,xV skHE,λ_=>rfl⟩ niHE .base
 have ccD:KE K D:=⟨qR,⟨_,_,_,_,_,_,_,_,_,_,_,_,_,_,_,oHE⟩,rfl⟩
 obtain⟨_,FNoGround⟩:=lNoGround
 have xNoGround:X6 K mg D "NoGround" "NoGround.__init__" Jb "row" CNoGround fNoGround _:=Yx X G tl FNoGround (FNoGround.binds (ps:=["self","row"]) λ_ _ _ _ _ _ us hl=>by obtain⟨_,_,rfl⟩:=ZA hl;rfl) a1NoGround a2NoGround a3NoGround a4NoGround a5NoGround a6NoGround a7NoGround a8NoGround a9NoGround a10NoGround a11NoGround a12NoGround a13NoGround
 obtain⟨_,FNoPlace⟩:=lNoPlace
 have xNoPlace:X6 K mg D "NoPlace" "NoPlace.__init__" JR "found" CNoPlace fNoPlace _:=Yx X G tl FNoPlace (FNoPlace.binds (ps:=["self","found"]) λ_ _ _ _ _ _ us hl=>by obtain⟨_,_,rfl⟩:=ZA hl;rfl) a1NoPlace a2NoPlace a3NoPlace a4NoPlace a5NoPlace a6NoPlace a7NoPlace a8NoPlace a9NoPlace a10NoPlace a11NoPlace a12NoPlace a13NoPlace
 obtain⟨_,FTwice⟩:=lTwice
 have xTwice:X6 K mg D "Twice" "Twice.__init__" z9 "found" CTwice fTwice _:=Yx X G tl FTwice (FTwice.binds (ps:=["self","found"]) λ_ _ _ _ _ _ us hl=>by obtain⟨_,_,rfl⟩:=ZA hl;rfl) a1Twice a2Twice a3Twice a4Twice a5Twice a6Twice a7Twice a8Twice a9Twice a10Twice a11Twice a12Twice a13Twice
 obtain⟨_,FTooMany⟩:=lTooMany
 have xTooMany:X6 K mg D "TooMany" "TooMany.__init__" JP "found" CTooMany fTooMany _:=Yx X G tl FTooMany (FTooMany.binds (ps:=["self","found"]) λ_ _ _ _ _ _ us hl=>by obtain⟨_,_,rfl⟩:=ZA hl;rfl) a1TooMany a2TooMany a3TooMany a4TooMany a5TooMany a6TooMany a7TooMany a8TooMany a9TooMany a10TooMany a11TooMany a12TooMany a13TooMany
 obtain⟨_,FNoText⟩:=lNoText
 have xNoText:X6 K mg D "NoText" "NoText.__init__" ZO "row" CNoText fNoText _:=Yx X G tl FNoText (FNoText.binds (ps:=["self","row"]) λ_ _ _ _ _ _ us hl=>by obtain⟨_,_,rfl⟩:=ZA hl;rfl) a1NoText a2NoText a3NoText a4NoText a5NoText a6NoText a7NoText a8NoText a9NoText a10NoText a11NoText a12NoText a13NoText
 have B:Zu mg:=⟨PySem.W.mg_none_of X G zlen,PySem.W.mg_none_of X G zmax,PySem.W.mg_none_of X G zmin,PySem.W.mg_none_of X G zint,PySem.W.mg_none_of X G zrange⟩
 have Gk:QB mg:=⟨PySem.W.mg_none_of X G zsorted,PySem.W.mg_none_of X G zlist,PySem.W.mg_none_of X G zreversed,PySem.W.mg_none_of X G zset,PySem.W.mg_none_of X G ztuple⟩
 have T:Q6 K mg:=⟨PySem.W.mg_none_of X G zisinstance,PySem.W.mg_none_of X G zstr,PySem.W.mg_none_of X G zall,PySem.W.mg_none_of X G zenumerate,PySem.W.mg_none_of X G zsum,⟨_,PySem.W.mg_of X G m1⟩,⟨_,PySem.W.mg_of X G m2⟩,⟨_,PySem.W.mg_of X G m3⟩,⟨_,PySem.W.mg_of X G m4⟩,kss,ktt,kll⟩
 have Nn:XZ K mg:=⟨⟨_,_,hA1⟩,⟨_,_,hA2⟩,⟨_,_,hA3⟩,⟨_,_,hA4⟩,⟨_,_,hA5⟩,⟨_,_,hA6⟩,⟨_,_,hA7⟩⟩
 have X4:xD K mg D ⟨CNoGround,CTooMany,CTwice,CNoPlace,CNoText⟩:=⟨⟨_,_,xNoGround⟩,⟨_,_,xTooMany⟩,⟨_,_,xTwice⟩,⟨_,_,xNoPlace⟩,⟨_,_,xNoText⟩⟩
 have Z:w5 K mg D ⟨CNoGround,CTooMany,CTwice,CNoPlace,CNoText⟩:=⟨PySem.W.mg_of X G aHE,w1,w2,n0,n1,n2,n3,n4,n5,n6,n7,n8,spc,tks⟩
 have L:G5 K mg:=⟨⟨_,_,hO⟩,⟨_,_,hL⟩,⟨_,_,hT⟩,⟨_,_,hN⟩,⟨_,_,hD⟩,⟨_,_,hR⟩,⟨_,_,hA8⟩,⟨_,_,hE1⟩,⟨_,_,hE2⟩,⟨_,_,hE3⟩,⟨_,_,hE4⟩,⟨_,_,hE5⟩,⟨_,_,hF1⟩,⟨_,_,hF2⟩,⟨_,_,hF3⟩,⟨_,_,hF4⟩,⟨_,_,hF5⟩,⟨_,_,hF6⟩,⟨_,_,hF7⟩,⟨_,_,hF8⟩,⟨_,_,hF9⟩,⟨_,_,hF10⟩⟩
 exact⟨PySem.W.fnOf "law" "law" (Qz XB) (jZ XB) (qo XB) .none kVLAW dcLAW pmLAW anLAW cdLAW ctLAW,λs v=>.of_eq rfl,λbase _ _=>Ke FLAW B Gk T Nn ⟨_,_,clCG⟩ mCGW X4 Z L (PySem.W.mg_none_of X G zrepr)⟩
theorem walk {l:PySem.W.OpenLaw} {q:Program} {loose:List Str} {XP:(Str->Option Value)->Heap->Prop} {YP:World->Heap->Prop} {d:DefRec} {K:Params->PySem.W.Frag} (hn:l.most=some 63) (hdf:d.params.defaults=[])
   (hY:∀(w:World) (h:Heap),YP w h->(K w.params).In h)
   (F:∀(w:World) (mg:Str->Option Value) (fa:Addr) (h:Heap),(K w.params).In h->h.Ns mainGlobals mg->mg d.name=some (.ref fa)->
     ∃fd:FuncData,(∀(s:Shared) (u:Value),BindsTo s fd ⟨[u],[]⟩ [("_law_script",u)])/\∀base:Heap,(K w.params).In base->base.Ns mainGlobals mg->qv l.prog w (K w.params) mg base jh 10 fa fd ["_law_script"] (V6 (K w.params))):
   PySem.W.WalkO q loose XP YP l.row.toRowW d [] (λf vs=>PySem.call f vs):=
 L2.walk_of (n:=63) (k:=10) (x:="_law_script") (CX:=λ_=>jh) (sp:=λw=>V6 (K w.params)) hn (by decide) hdf ⟨rfl,by decide,by decide,rfl⟩ hY F (λ_ _ a ns hl _ hS=>⟨a,ns,rfl,hS,hl,λ_=>rfl⟩) λ_ _ _ _ _ z=>z
end Rh
open PySem PySem.W PyProof.Rows
def PySem.W.Fast.tw5128801737810914715 : Unit := ()
def PySem.W.Fast.tw861502493610598483 : Unit := ()
def PySem.W.Fast.tw9325782499559507614 : Unit := ()
def PySem.W.Fast.tw13797646191491285992 : Unit := ()
def PySem.W.Fast.tw7774113678449685934 : Unit := ()
def PySem.W.Fast.tw6634786070242135112 : Unit := ()
def PySem.W.Fast.tw17426987436379436081 : Unit := ()
def PySem.W.Fast.tw2648963287430406096 : Unit := ()
def PySem.W.Fast.tw2407462832516094465 : Unit := ()
def PySem.W.Fast.tw16945406819829945896 : Unit := ()
def PySem.W.Fast.tw20248706157231231 : Unit := ()
def PySem.W.Fast.tw14575388751658381831 : Unit := ()
def PySem.W.Fast.tw12176265147828701554 : Unit := ()
def PySem.W.Fast.tw15805137534098808535 : Unit := ()
def PySem.W.Fast.tw4841897428166931638 : Unit := ()
def PySem.W.Fast.tw9615563845995560447 : Unit := ()
def PySem.W.Fast.tw17678831435119133177 : Unit := ()
def PySem.W.Fast.tw15303473004702368417 : Unit := ()
def PySem.W.Fast.tw14537775516033599862 : Unit := ()
def PySem.W.Fast.tw8966131664815694762 : Unit := ()
def PySem.W.Fast.tw2244103112122482387 : Unit := ()
def PySem.W.Fast.tw13861969467909019144 : Unit := ()
def PySem.W.Fast.tw11738243743197964597 : Unit := ()
def PySem.W.Fast.tw6472337539984862722 : Unit := ()
def PySem.W.Fast.tw2595585439558603231 : Unit := ()
def PySem.W.Fast.tw2399617604181995578 : Unit := ()
def PySem.W.Fast.tw10294078964567370430 : Unit := ()
def PySem.W.Fast.tw6056707288978253535 : Unit := ()
def PySem.W.Fast.tw8422229294311615681 : Unit := ()
def PySem.W.Fast.tw8535803893964050539 : Unit := ()
def PySem.W.Fast.tw772564365185477556 : Unit := ()
def PySem.W.Fast.tw12147665669636231765 : Unit := ()
def PySem.W.Fast.tw17464319187374939960 : Unit := ()
def PySem.W.Fast.tw13462424878891718212 : Unit := ()
def PySem.W.Fast.tw28018229315631829 : Unit := ()
def PySem.W.Fast.tw10199421320940215857 : Unit := ()
def PySem.W.Fast.tw10879749546641988924 : Unit := ()
def PySem.W.Fast.tw258204147387103276 : Unit := ()
def PySem.W.Fast.tw14611616552423853409 : Unit := ()
def PySem.W.Fast.tw10510056951384868246 : Unit := ()
def PySem.W.Fast.tw1599053048872161195 : Unit := ()
def PySem.W.Fast.tw4015202173357781934 : Unit := ()
def PySem.W.Fast.tw3671519592330383864 : Unit := ()
def PySem.W.Fast.tw14391293386007564604 : Unit := ()
def PySem.W.Fast.tw6420159726195949164 : Unit := ()
def PySem.W.Fast.tw18146532975450069615 : Unit := ()
def PySem.W.Fast.tw15590096980072825465 : Unit := ()
def PySem.W.Fast.tw17435391645217708394 : Unit := ()
def PySem.W.Fast.tw4562827626845409882 : Unit := ()
def PySem.W.Fast.tw11692469974320434101 : Unit := ()
def PySem.W.Fast.tw15401437161963490237 : Unit := ()
def PySem.W.Fast.tw13674586047789940208 : Unit := ()
def PySem.W.Fast.tw2570914705882880060 : Unit := ()
def PySem.W.Fast.tw14520296925931582552 : Unit := ()
def PySem.W.Fast.tw13946496683202179788 : Unit := ()
def PySem.W.Fast.tw9784134513789038367 : Unit := ()
def PySem.W.Fast.tw8737599933303070863 : Unit := ()
def PySem.W.Fast.tw15539815450414544023 : Unit := ()
def PySem.W.Fast.tw1979317910248211280 : Unit := ()
def PySem.W.Fast.tw16955839230299176341 : Unit := ()
def PySem.W.Fast.tw13956191218907399338 : Unit := ()
def PySem.W.Fast.tw7478123994339007903 : Unit := ()
def PySem.W.Fast.tw14022695629967993375 : Unit := ()
def PySem.W.Fast.tw15173544498738437827 : Unit := ()
def PySem.W.Fast.tw1717767836212652739 : Unit := ()
def PySem.W.Fast.tw2080317491765294665 : Unit := ()
def PySem.W.Fast.tw17187875760726034783 : Unit := ()
def PySem.W.Fast.tw4804111812005502284 : Unit := ()
def PySem.W.Fast.tw384561282630992784 : Unit := ()
def PySem.W.Fast.tw5994696166404524948 : Unit := ()
def PySem.W.Fast.tw7480016910919988345 : Unit := ()
def PySem.W.Fast.tw16864618592142003386 : Unit := ()
def PySem.W.Fast.tw1205274952441263945 : Unit := ()
def PySem.W.Fast.tw4480162626587320490 : Unit := ()
def PySem.W.Fast.tw4884199854448574 : Unit := ()
def PySem.W.Fast.tw9536688357841153863 : Unit := ()
def PySem.W.Fast.tw12768989823518198380 : Unit := ()
def PySem.W.Fast.tw16108870410212019532 : Unit := ()
def PySem.W.Fast.tw5344687154915797982 : Unit := ()
def PySem.W.Fast.tw14689541978594310382 : Unit := ()
def PySem.W.Fast.tw10295913840692754127 : Unit := ()
def PySem.W.Fast.tw5002640475654186023 : Unit := ()
def PySem.W.Fast.tw3270257207059953099 : Unit := ()
def PySem.W.Fast.tw10624116801336726872 : Unit := ()
def PySem.W.Fast.tw12903330217458380548 : Unit := ()
def PySem.W.Fast.tw5667099127317398114 : Unit := ()
def PySem.W.Fast.tw1915925776726481438 : Unit := ()
def PySem.W.Fast.tw9689729476882780088 : Unit := ()
def PySem.W.Fast.tw6968137755033780318 : Unit := ()
def PySem.W.Fast.tw443766864951011646 : Unit := ()
def PySem.W.Fast.tw16919654943277366748 : Unit := ()
def PySem.W.Fast.tw8080008513338510535 : Unit := ()
def PySem.W.Fast.tw6858818405166986180 : Unit := ()
def PySem.W.Fast.tw5537553045615171315 : Unit := ()
def PySem.W.Fast.tw18101783494082082527 : Unit := ()
def PySem.W.Fast.tw4436474186459923750 : Unit := ()
def PySem.W.Fast.tw6030501089693204938 : Unit := ()
def PySem.W.Fast.tw12459912946257978736 : Unit := ()
def PySem.W.Fast.tw1840220198017710270 : Unit := ()
def PySem.W.Fast.tw9387514328989991554 : Unit := ()
def PySem.W.Fast.tw7000281897963312321 : Unit := ()
def PySem.W.Fast.tw5622701340561072331 : Unit := ()
def PySem.W.Fast.tw4309217394794523951 : Unit := ()
def PySem.W.Fast.tw12770481643036789091 : Unit := ()
def PySem.W.Fast.tw8047209995159408440 : Unit := ()
def PySem.W.Fast.tw3300257896294614128 : Unit := ()
set_option maxRecDepth 100000
set_option maxHeartbeats 0
open_top hd for PySem.Challenge.rw_ringheaps_k04_whole_any_ground_text
set_option maxRecDepth 100000 in
set_option maxHeartbeats 0 in
theorem PySem.Challenge.cw_ringheaps_k04_whole_any_ground_text_holds : PySem.Challenge.rw_ringheaps_k04_whole_any_ground_text.Holds := by
 refine hd ?_
 k_fill
 refine Rh.walk (l:=PySem.Challenge.rw_ringheaps_k04_whole_any_ground_text) rfl rfl (λw h Y=>PySem.W.kIn_of Y) ?F
 case F=>
   intro w mg fa h KX G hmg
   refine' Rh.all_mk KX G hmg ?_ ?_ ?_ ?_ ?_ ?_ ?_ ?_ ?_ ?_ ?_ ?_ ?_ ?_ ?_ ?_ ?_ ?_ ?_ ?_ ?_ ?_ ?_ ?_ ?_ ?_ ?_ ?_ ?_ ?_ ?_ ?_ ?_ ?_ ?_ ?_ ?_ ?_ ?_ ?_ ?_ ?_ ?_ ?_ ?_ ?_ ?_ ?_ ?_ ?_ ?_ ?_ ?_ ?_ ?_ ?_ ?_ ?_ ?_ ?_ ?_ ?_ ?_ ?_ ?_ ?_ ?_ ?_ ?_ ?_ ?_ ?_ ?_ ?_ ?_ ?_ ?_ ?_ ?_ ?_ ?_ ?_ ?_ ?_ ?_ ?_ ?_ ?_ ?_ ?_ ?_ ?_ ?_ ?_ ?_ ?_ ?_ ?_ ?_ ?_ ?_ ?_ ?_ ?_ ?_ ?_ ?_ ?_ ?_ ?_ ?_ ?_ ?_ ?_ ?_ ?_ ?_ ?_ ?_ ?_ ?_ ?_ ?_ ?_ ?_ ?_ ?_ ?_ ?_ ?_ ?_ ?_ ?_ ?_ ?_ ?_ ?_ ?_ ?_ ?_ ?_ ?_ ?_ ?_ ?_ ?_ ?_ ?_ ?_ ?_ ?_ ?_ ?_ ?_ ?_ ?_
   any_goals first | (apply Rh.HF.mk'<;>k_is) | (apply Rh.MF.mk'<;>k_is) | k_is | kernel_rfl | rfl | decide
