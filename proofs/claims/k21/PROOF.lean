import PyProof.Rows.All
import Wide.All
import OpenK.AllK
import Wide.FinOn
import Lean
import PyProof.EqAt
import PyProof.EqKinds
import PyProof.TupleCall
import PySem.Challenge.RW_ringheaps_k21_heaps_refused
set_option Elab.async false
set_option linter.all false
set_option maxRecDepth 100000
namespace L2
open PySem PySem.Spec PyProof.Rows
abbrev qP:=Sum Int Str
def zf:qP->Value->Bool
 | .inl k,v=>Value.isInt k v
 | .inr x,v=>Value.isStrOf x v
def KZ (w:World):qP->Int
 | .inl k=>hashInt k
 | .inr x=>hashStr w x
theorem q5:∀{k:qP} {v:Value},zf k v=true->(∃i t,k=Sum.inl i/\v=Value.int i t)\/(∃x t,k=Sum.inr x/\v=Value.str x t)
 | .inl i,v,h=>by
   obtain⟨t,e⟩:=Value.isInt_shape (k:=i) (v:=v) h
   exact .inl ⟨i,t,rfl,e⟩
 | .inr x,v,h=>by
   obtain⟨t,e⟩:=Value.isStrOf_shape (x:=x) (v:=v) h
   exact .inr ⟨x,t,rfl,e⟩
theorem VL (i:Int) (t:Tok):zf (.inl i) (.int i t)=true:=by simp [zf,Value.isInt]
theorem VJ (x:Str) (t:Tok):zf (.inr x) (.str x t)=true:=by simp [zf,Value.isStrOf]
theorem xL (a b:Int):decide ((Sum.inl a:qP)=Sum.inl b)=(a==b):=by
 by_cases e:a=b
 . subst e;simp
 . have h:¬(Sum.inl a:qP)=Sum.inl b:=λq=>e (Sum.inl.inj q)
   rw[decide_eq_false h]
   exact(beq_eq_false_iff_ne.mpr e).symm
theorem xI (a b:Str):decide ((Sum.inr a:qP)=Sum.inr b)=decide (a=b):=by
 by_cases e:a=b
 . subst e;simp
 . have h:¬(Sum.inr a:qP)=Sum.inr b:=λq=>e (Sum.inr.inj q)
   rw[decide_eq_false h,decide_eq_false e]
theorem xK (a:Int) (b:Str):decide ((Sum.inl a:qP)=Sum.inr b)=false:=decide_eq_false (λq=>nomatch q)
theorem xJ (a:Str) (b:Int):decide ((Sum.inr a:qP)=Sum.inl b)=false:=decide_eq_false (λq=>nomatch q)
def jd (prog:Program) (w:World):PySem.KeyKind prog w qP where
 is:=zf
 hash:=KZ w
 inj:=λv a b ha hb=>by
   rcases q5 ha with ⟨i,t,rfl,rfl⟩ | ⟨x,t,rfl,rfl⟩
   . rcases q5 hb with ⟨j,u,rfl,e⟩ | ⟨y,u,rfl,e⟩
     . injection e with e1 _;rw[e1]
     . exact nomatch e
   . rcases q5 hb with ⟨j,u,rfl,e⟩ | ⟨y,u,rfl,e⟩
     . exact nomatch e
     . injection e with e1 _;rw[e1]
 byValue:=λk v h=>by
   rcases q5 h with ⟨i,t,rfl,rfl⟩ | ⟨x,t,rfl,rfl⟩<;>rfl
 pyHash:=λhv h=>by
   rcases q5 hv with ⟨i,t,rfl,rfl⟩ | ⟨x,t,rfl,rfl⟩
   . exact wpAny_pyHash_int h
   . exact wpAny_pyHash_str h
 eqBool:=λhu hv h=>by
   rcases q5 hu with ⟨i,t,rfl,rfl⟩ | ⟨x,t,rfl,rfl⟩
   . rcases q5 hv with ⟨j,u,rfl,rfl⟩ | ⟨y,u,rfl,rfl⟩
     . rw[xL]at h;exact wpAny_eqBool_int h
     . rw[xK]at h;exact SeqAt.EqAt.int_str i t y u _ _ _ _ h
   . rcases q5 hv with ⟨j,u,rfl,rfl⟩ | ⟨y,u,rfl,rfl⟩
     . rw[xJ]at h;exact SeqAt.EqAt.str_int x t j u _ _ _ _ h
     . rw[xI]at h;exact wpAny_eqBool_str h
 «strs»:=λk x t v h=>by
   rcases q5 h with ⟨i,u,rfl,e⟩ | ⟨y,u,rfl,e⟩
   . exact nomatch e
   . injection e with e1 _
     subst e1
     cases v<;>rfl
theorem Y6 (prog:Program) (w:World) (i:Int) (t:Tok):(jd prog w).is (.inl i) (.int i t)=true:=VL i t
theorem Y5 (prog:Program) (w:World) (x:Str) (t:Tok):(jd prog w).is (.inr x) (.str x t)=true:=VJ x t
end L2
namespace L2
open PySem PySem.Spec PyProof.Rows
inductive V where
 | non | bl (b:Bool) | int (i:Int) | str (x:Str) | byt (b:Array UInt8) | flt (b:UInt64) | ref (a:Addr) | ty (n:String)
 deriving DecidableEq
def qG:V->Value->Prop
 | .non,u=>u=Value.none
 | .bl b,u=>u=Value.bool b
 | .int i,u=>∃t,u=Value.int i t
 | .str x,u=>∃t,u=Value.str x t
 | .byt b,u=>∃t,u=Value.bytes b t
 | .flt b,u=>∃t,u=Value.float b t
 | .ref a,u=>u=Value.ref a
 | .ty n,u=>u=Value.type n
abbrev qD:List V->List Value->Prop:=Paired qG
theorem qD.length {xs:List V} {us:List Value} (r:qD xs us):xs.length=us.length:=Paired.length r
theorem qD.get:∀{xs:List V} {us:List Value} {i:Nat} {x:V},qD xs us->xs[i]?=some x->∃u,us[i]?=some u/\qG x u
 | _,_,_,_,.nil,e=>by simp at e
 | _,_,0,_,.cons r _,e=>by simp at e;subst e;exact⟨_,rfl,r⟩
 | _,_,i+1,x,.cons _ t,e=>by
   obtain⟨u,h1,h2⟩:=qD.get (i:=i) (x:=x) t (by simpa using e)
   exact⟨u,by simpa using h1,h2⟩
theorem qD.append:∀{xs ys:List V} {us ws:List Value},qD xs us->qD ys ws->qD (xs++ys) (us++ws)
 | _,_,_,_,.nil,s=>s
 | _,_,_,_,.cons r t,s=>.cons r (qD.append t s)
theorem qD.take:∀{xs:List V} {us:List Value} (n:Nat),qD xs us->qD (xs.take n) (us.take n)
 | _,_,0,_=>.nil
 | _,_,_+1,.nil=>.nil
 | _,_,n+1,.cons r t=>.cons r (qD.take n t)
theorem qD.drop:∀{xs:List V} {us:List Value} (n:Nat),qD xs us->qD (xs.drop n) (us.drop n)
 | _,_,0,r=>r
 | _,_,_+1,.nil=>.nil
 | _,_,n+1,.cons _ t=>qD.drop n t
theorem qD.none_of:∀{xs:List V} {us:List Value} {i:Nat},qD xs us->xs[i]?=none->us[i]?=none:=λ{xs us i} r e=>by
 have h1:=r.length
 have h2:xs.length<=i:=List.getElem?_eq_none_iff.mp e
 exact List.getElem?_eq_none_iff.mpr (by omega)
def Q4:Option V->Option Value->Prop
 | some v,some u=>qG v u
 | none,none=>True
 | _,_=>False
def KV {κ:Type}:List (κ×V)->List (κ×Value)->Prop:=Paired λ(p:κ×V) (q:κ×Value)=>p.1=q.1/\qG p.2 q.2
def kV:qP->V
 | .inl i=>.int i
 | .inr x=>.str x
inductive HO where
 | lst (xs:List V)
 | tup (xs:List V)
 | dK (kvs:List (qP×V)) | dT (kvs:List (List qP×V))
 | set (S:Int->Bool) (n:Nat)
 | ins (C dx:Addr) (fs:List (Str×V))
 | own (x:Addr)
 | xd (fs:List (Str×V))
 | met (f x:Addr)
 | rng (lo hi:Int)
 | frz (o:Obj) (u:HO)
 | tbl (ps:Array Value)
 | ext (φ:Heap->Prop)
abbrev Hp:=Addr->Option HO
def upd (H:Hp) (a:Addr) (o:HO):Hp:=λb=>if b=a then some o else H b
theorem qd {H:Hp} {a:Addr} {o:HO}:upd H a o a=some o:=by unfold upd;rw[if_pos rfl]
theorem qf {H:Hp} {a b:Addr} {o:HO} (h:b≠a):upd H a o b=H b:=by unfold upd;rw[if_neg h]
theorem jz {H:Hp} {a:Addr} {o u:HO}:upd (upd H a o) a u=upd H a u:=by
 funext b;unfold upd;split<;>rfl
theorem um {H:Hp} {a b:Addr} {o u:HO} (h:H a=some o) (h':H b=some u) (d:o≠u):a≠b:=by
 intro e;subst e;rw[h]at h';exact d (Option.some.inj h')
theorem ql {H:Hp} {a b:Addr} {o:HO} (h:H a=some o) (h':H b=none):a≠b:=by
 intro e;subst e;rw[h]at h';cases h'
def uZ (ps:Array Value) (oc:Obj):Prop:=∃(q:Str) (t:Tok) (vs:Array Value) (t':Tok),ps[0]?=some (.str q t)/\oc.data=.fields vs/\vs[1]?=some (.str q t')
section
variable (P:Program) (w:World)
def qx (H:Hp) (h:Heap) (a:Addr):HO->Prop
 | .lst xs=>xs.length<=sizeLine/\∃(its:List Value) (n:Nat),qD xs its/\h.get? a=some {cls:=.type "list",data:=.seq its.toArray n}
 | .tup xs=>xs.length<=sizeLine/\∃its:List Value,qD xs its/\IsTup h a its.toArray
 | .dK kvs=>kvs.length<=sizeLine/\(a==sysModules)=false/\∃vs,KV kvs vs/\h.DictOf (jd P w) a vs
 | .dT kvs=>kvs.length<=sizeLine/\(a==sysModules)=false/\∃xs:List (List qP×Addr×Value),
     Paired (λ(p:List qP×V) (q:List qP×Addr×Value)=>p.1=q.1/\H q.2.1=some (.tup (p.1.map kV))/\qG p.2 q.2.2) kvs xs/\
     ∃o es ep,h.get? a=some o/\o.ExactDict/\o.data=.dict es ep/\es.toList=xs.map (entryOfKey (tupleKind (jd P w)))/\(xs.map (·.1)).Nodup
 | .set S n=>h.SetOf (intKind P w) a S n
 | .ins C dx fs=>H dx=some (.own a)/\fs.length<=1000/\dx≠a/\h.get? a=some (PySem.W.instObj C dx)/\
     ∃mA,h.Ns1 dx mA/\(∀f,Q4 (fs.lookup f) (mA f))/\PySem.Within mA (fs.map (·.1))
 | .own _=>∃o,h.get? a=some o
 | .xd fs=>∃mA,h.Ns1 a mA/\∀f,Q4 (fs.lookup f) (mA f)
 | .rng lo hi=>∃t u v,h.get? a=some {cls:=.type "range",data:=.fields #[.int lo t,.int hi u,.int 1 v]}
 | .frz o u=>h.get? a=some o/\qx H h a u
 | .tbl ps=>∃ts:Array Value,h.get? a=some {cls:=.none,data:=.fields ts}/\TriplesOk ts.toList/\∀pos cv,codeAmong pos ts.toList=some cv->∃c oc,cv=.ref c/\H c=some (.frz oc (.own a))/\uZ ps oc
 | .met f x=>h.get? a=some (PySem.W.methodObj (.ref f) (.ref x))
 | .ext φ=>φ h/\(∃o,h.get? a=some o)/\∀h1 h2:Heap,φ h1->(∀o,h1.get? a=some o->h2.get? a=some o)->φ h2
def QZ (H:Hp) (h:Heap):Prop:=∀a o,H a=some o->qx P w H h a o
end
section
variable {P:Program} {w:World} {H H':Hp} {h h':Heap} {a:Addr} {o:HO}
theorem qx.lt (x:qx P w H h a o):a < h.objs.size:=by
 cases o with
 | lst xs=>obtain⟨_,_,_,_,e⟩:=x;exact Heap.lt_size e
 | tup xs=>obtain⟨_,_,_,p⟩:=x;exact p.lt
 | dK kvs=>obtain⟨_,_,_,_,o,_,_,e,_⟩:=x;exact Heap.lt_size e
 | dT kvs=>obtain⟨_,_,_,_,o,_,_,e,_⟩:=x;exact Heap.lt_size e
 | set S n=>obtain⟨o,_,_,_,e,_⟩:=x;exact Heap.lt_size e
 | ins C dx fs=>obtain⟨_,_,_,e,_⟩:=x;exact Heap.lt_size e
 | own y=>obtain⟨_,e⟩:=x;exact Heap.lt_size e
 | xd fs=>obtain⟨_,⟨_,_,_,e,_⟩,_⟩:=x;exact Heap.lt_size e
 | rng lo hi=>obtain⟨_,_,_,e⟩:=x;exact Heap.lt_size e
 | frz ob u=>obtain⟨e,_⟩:=x;exact Heap.lt_size e
 | tbl ps=>obtain⟨_,e,_⟩:=x;exact Heap.lt_size e
 | met f y=>exact Heap.lt_size (show h.get? a=some _ from x)
 | ext φ=>obtain⟨_,⟨_,e⟩,_⟩:=x;exact Heap.lt_size e
theorem Paired.mapP {α β:Type} {F G:α->β->Prop}:∀{l₁:List α} {l₂:List β},Paired F l₁ l₂->(∀a b,F a b->G a b)->Paired G l₁ l₂
 | _,_,.nil,_=>.nil
 | _,_,.cons r t,f=>.cons (f _ _ r) (Paired.mapP t f)
theorem qx.stay (x:qx P w H h a o) (k:∀b u,(b=a\/H b=some (.own a))->h.get? b=some u->h'.get? b=some u)
   (ho:∀b,H b=some (.own a)->H' b=some (.own a)) (ht:∀b xs,H b=some (.tup xs)->H' b=some (.tup xs)) (hf:∀b o,H b=some (.frz o (.own a))->H' b=some (.frz o (.own a)):=by exact λ_ _ q=>q):qx P w H' h' a o:=by
 induction o with
 | lst xs=>obtain⟨z,its,n,r,e⟩:=x;exact⟨z,its,n,r,k _ _ (.inl rfl) e⟩
 | tup xs=>obtain⟨z,its,r,ob,e,c⟩:=x;exact⟨z,its,r,ob,k _ _ (.inl rfl) e,c⟩
 | dK kvs=>obtain⟨z,y,vs,r,ob,es,ep,e,c⟩:=x;exact⟨z,y,vs,r,ob,es,ep,k _ _ (.inl rfl) e,c⟩
 | dT kvs=>
   obtain⟨z,y,xs,r,ob,es,ep,e,c⟩:=x
   exact⟨z,y,xs,Paired.mapP r λp q z=>⟨z.1,ht _ _ z.2.1,z.2.2⟩,ob,es,ep,k _ _ (.inl rfl) e,c⟩
 | set S n=>obtain⟨ob,es,ep,t,e,c⟩:=x;exact⟨ob,es,ep,t,k _ _ (.inl rfl) e,c⟩
 | ins C dx fs=>
   obtain⟨d,z,ne,e,mA,⟨od,es,ep,e2,c⟩,r⟩:=x
   exact⟨ho _ d,z,ne,k _ _ (.inl rfl) e,mA,⟨od,es,ep,k _ _ (.inr d) e2,c⟩,r⟩
 | own y=>obtain⟨ob,e⟩:=x;exact⟨ob,k _ _ (.inl rfl) e⟩
 | xd fs=>obtain⟨mA,⟨od,es,ep,e,c⟩,r⟩:=x;exact⟨mA,⟨od,es,ep,k _ _ (.inl rfl) e,c⟩,r⟩
 | rng lo hi=>obtain⟨t,u,v,e⟩:=x;exact⟨t,u,v,k _ _ (.inl rfl) e⟩
 | frz ob u ih=>obtain⟨e,q⟩:=x;exact⟨k _ _ (.inl rfl) e,ih q⟩
 | tbl ps=>
   obtain⟨ts,e,tr,cs⟩:=x
   exact⟨ts,k a _ (.inl rfl) e,tr,λpos cv q=>let ⟨c,oc,e1,e2,e3⟩:=cs pos cv q;⟨c,oc,e1,hf c oc e2,e3⟩⟩
 | met f y=>
   have e:h.get? a=some (PySem.W.methodObj (.ref f) (.ref y)):=x
   show h'.get? a=some (PySem.W.methodObj (.ref f) (.ref y))
   exact k a _ (.inl rfl) e
 | ext φ=>obtain⟨p,⟨o,e⟩,st⟩:=x;exact⟨st _ _ p λo q=>k _ _ (.inl rfl) q,⟨o,k _ _ (.inl rfl) e⟩,st⟩
theorem QZ.lt (x:QZ P w H h) (e:H a=some o):a < h.objs.size:=(x a o e).lt
theorem QZ.fresh (x:QZ P w H h) (e:h.objs.size<=a):H a=none:=by
 cases q:H a with
 | none=>rfl
 | some u=>exact absurd (Nat.lt_of_lt_of_le (x.lt q) e) (Nat.lt_irrefl _)
theorem QZ.kept (x:QZ P w H h) (k:∀b u,h.get? b=some u->h'.get? b=some u):QZ P w H h':=λa o e=>
 (x a o e).stay (λb u _ q=>k b u q) (λ_ q=>q) λ_ _ q=>q
theorem QZ.laid (x:QZ P w H h) (k:∀b u,h.get? b=some u->h'.get? b=some u) (hp:h.objs.size<=a) (new:qx P w (upd H a o) h' a o):QZ P w (upd H a o) h':=λb u e=>by
 have hn:=x.fresh hp
 by_cases hb:b=a
 . subst hb;rw[qd]at e;cases e;exact new
 . rw[qf hb]at e
   exact(x b u e).stay (λc v _ q=>k c v q) (λc q=>by rw[qf (ql q hn)];exact q) (λc xs q=>by rw[qf (ql q hn)];exact q) (λc o q=>by rw[qf (ql q hn)];exact q)
end
def Rd (H:Hp) (a:Addr) (u:HO):Prop:=H a=some u\/∃o,H a=some (.frz o u)
theorem Rd.ok {P:Program} {w:World} {H:Hp} {h:Heap} {a:Addr} {u:HO} (r:Rd H a u) (x:QZ P w H h):qx P w H h a u:=by
 rcases r with r | ⟨o,r⟩
 . exact x a u r
 . obtain⟨_,q⟩:=x a _ r
   exact q
def wp:Option HO->Prop
 | some (.lst _)=>True
 | some (.dK _)=>True
 | some (.dT _)=>True
 | some (.set _ _)=>True
 | some (.ins _ _ _)=>True
 | some (.ext _)=>True
 | _=>False
section
variable {P:Program} {w:World} {H:Hp} {h h':Heap} {x e:Addr} {o':HO}
theorem QZ.write (ok:QZ P w H h) (mu:wp (H x)) (he:e=x\/H e=some (.own x)) (k:∀b u,b≠e->h.get? b=some u->h'.get? b=some u) (heo:∃u,h'.get? e=some u)
   (new:qx P w (upd H x o') h' x o'):QZ P w (upd H x o') h':=λb u q=>by
 have nown:∀c y,H c=some (.own y)->c≠x:=λc y r z=>by subst z;rw[r]at mu;exact mu
 have ntup:∀c xs,H c=some (.tup xs)->c≠x:=λc xs r z=>by subst z;rw[r]at mu;exact mu
 by_cases hb:b=x
 . subst hb;rw[qd]at q;cases q;exact new
 . rw[qf hb]at q
   by_cases hbe:b=e
   . have q':H b=some (.own x):=by
       rcases he with z | z
       . exact absurd (hbe.trans z) hb
       . rw[hbe];exact z
     rw[q]at q';cases q'
     obtain⟨v,hv⟩:=heo
     exact⟨v,by rw[hbe];exact hv⟩
   . refine(ok b u q).stay (λc v hc r=>k c v ?_ r) (λc r=>by rw[qf (nown c b r)];exact r) (λc xs r=>by rw[qf (ntup c xs r)];exact r) (λc o r=>by rw[qf (λz=>by subst z;rw[r]at mu;exact mu)];exact r)
     rcases hc with rfl | hc
     . exact hbe
     . rintro rfl
       rcases he with z | z
       . exact nown c b hc z
       . rw[hc]at z;cases z;exact hb rfl
end
structure Un (fs ex:List Addr) (H H':Hp) (h h':Heap):Prop where
 keep:∀b o,h.get? b=some o->H b=none->b∉fs->b∉ex->h'.get? b=some o
 slot:∀b o,h.get? b=some o->H b=none->b∈fs->b∉ex->∃sl,h'.get? b=some {o with slots:=sl}
 free:∀b o,h.get? b=some o->H b=none->b∉ex->H' b=none
 there:∀b o,h.get? b=some o->b∉ex->∃o',h'.get? b=some o'
 tups:∀b xs,H b=some (.tup xs)->H' b=some (.tup xs)
 frzs:∀b o u,H b=some (.frz o u)->H' b=some (.frz o u)
 tbls:∀b ps,H b=some (.tbl ps)->∃more,H' b=some (.tbl (ps++more))
section
variable {fs fs' ex ex':List Addr} {H H1 H2:Hp} {h h1 h2 h':Heap} {a x e:Addr} {o:HO}
theorem Un.any (u:Un fs ex H H1 h h1) {b:Addr} {ob:Obj} (q:h.get? b=some ob) (n:H b=none) (hx:b∉ex):∃sl,h1.get? b=some {ob with slots:=sl}:=by
 by_cases hb:b∈fs
 . exact u.slot b ob q n hb hx
 . exact⟨ob.slots,u.keep b ob q n hb hx⟩
theorem Un.kept (k:∀b u,h.get? b=some u->h'.get? b=some u):Un fs ex H H h h':=
 ⟨λb ob q _ _ _=>k b ob q,λb ob q _ _ _=>⟨ob.slots,k b ob q⟩,λ_ _ _ n _=>n,λb ob q _=>⟨ob,k b ob q⟩,λ_ _ q=>q,λ_ _ _ q=>q,λ_ ps q=>⟨#[],by rw[q];simp⟩⟩
theorem Un.refl:Un fs ex H H h h:=Un.kept λ_ _ q=>q
theorem Un.laid (k:∀b u,h.get? b=some u->h'.get? b=some u) (hp:h.objs.size<=a) (hn:H a=none):Un fs ex H (upd H a o) h h' where
 keep:=λb u q _ _ _=>k b u q
 slot:=λb u q _ _ _=>⟨u.slots,k b u q⟩
 free:=λb u q n _=>by rw[qf (Nat.ne_of_lt (Nat.lt_of_lt_of_le (Heap.lt_size q) hp))];exact n
 there:=λb u q _=>⟨u,k b u q⟩
 tups:=λb xs q=>by rw[qf (ql q hn)];exact q
 frzs:=λb u xs q=>by rw[qf (ql q hn)];exact q
 tbls:=λb ps q=>⟨#[],by rw[qf (ql q hn),q];simp⟩
theorem Un.write (mu:wp (H x)) (he:e=x\/H e=some (.own x)) (k:∀b u,b≠e->h.get? b=some u->h'.get? b=some u) (heo:∃u,h'.get? e=some u):Un fs ex H (upd H x o) h h':=by
 have hx:∀b,H b=none->b≠x:=λb n z=>by subst z;rw[n]at mu;exact mu
 have hb:∀b,H b=none->b≠e:=λb n z=>by
   subst z
   rcases he with r | r
   . exact hx b n r
   . rw[n]at r;cases r
 have hm:∀b u,H b=some u->¬wp (some u)->b≠x:=λb u q nm z=>by subst z;rw[q]at mu;exact nm mu
 refine⟨λb u q n _ _=>k b u (hb b n) q,λb u q n _ _=>⟨u.slots,k b u (hb b n) q⟩,λb u q n _=>by rw[qf (hx b n)];exact n,λb u q _=>?_,
   λb xs q=>by rw[qf (hm b _ q λz=>z)];exact q,λb u xs q=>by rw[qf (hm b _ q λz=>z)];exact q,λb ps q=>⟨#[],by rw[qf (hm b _ q λz=>z),q];simp⟩⟩
 by_cases hbe:b=e
 . subst hbe;exact heo
 . exact⟨u,k b u hbe q⟩
end
def Kb (h:Heap) (H:Hp):List Addr:=(List.range h.objs.size).filter λa=>(H a).isSome
def zv (h:Heap) (H:Hp):Heap:=PySem.W.hideAll h (Kb h H)
theorem VT (h:Heap) (H:Hp):(zv h H).objs.size=h.objs.size:=PySem.W.hideAll_size _ _
theorem vp {h:Heap} {H:Hp} {b:Addr} {o:Obj} (e:h.get? b=some o) (n:H b=none):(zv h H).get? b=some o:=
 PySem.W.hideAll_get _ e λhm=>by
   have q:(H b).isSome=true:=(List.mem_filter.mp hm).2
   rw[n]at q;simp at q
theorem kL {h:Heap} {H:Hp} {b:Addr} {o:Obj} (e:(zv h H).get? b=some o):h.get? b=some o/\H b=none:=by
 have e':h.get? b=some o:=PySem.W.of_hideAll (Kb h H) e
 refine⟨e',?_⟩
 cases q:H b with
 | none=>rfl
 | some x=>
   have hm:b∈Kb h H:=List.mem_filter.mpr ⟨List.mem_range.mpr (Heap.lt_size e'),by simp [q]⟩
   have z:(zv h H).get? b=none:=PySem.W.hideAll_none (Kb h H) hm
   rw[z]at e;cases e
def yk (g h:Heap) (L:Addr):List (Addr×Obj):=(List.range h.objs.size).filterMap λa=>if a=L\/(g.get? a).isSome=true then none else (h.get? a).map λo=>(a,o)
def rest (g h:Heap) (L d:Addr):List (Addr×Obj):=(yk g h L).filter λp=>decide (p.1≠d)
end L2
namespace L2
open PySem PySem.Spec PyProof.Rows
structure Mod (K:PySem.W.Frag) (mg:Str->Option Value) (base:Heap):Prop where
 kin:K.In base
 glob:base.Ns mainGlobals mg
 blt:∃mb,base.Ns builtinsNs mb/\∀x:Str,x≠"__name__"->mb x=bootBuiltins x
 nolimit:base.NoLimit
structure Cx where
 prog:Program
 w:World
 K:PySem.W.Frag
 mg:Str->Option Value
 base:Heap
 A:Around
 N:List Str
 s₀:Shared
 H₀:Hp
 env:Env
 outer:List Env
 stack:List Env
 ex:List Addr
 fn:Str->Bool
 calm:Bool
 pn:List (Addr×Obj)
 xe:Value->Shared->Prop
def Zc (l:List Env):List Addr:=l.filterMap (·.frame)
abbrev Cx.fs (X:Cx):List Addr:=Zc X.outer
def wn (sc:Scope) (x:Str):Prop:=sc.names.lookup x=some .local\/sc.names.lookup x=some .cell\/sc.names.lookup x=some .free
def wu (sc:Scope) (x:Str):Prop:=sc.names.lookup x=some .local\/sc.names.lookup x=some .cell
def Gg (env:Env) (h:Heap) (m:Str->Option Value) (x:Str) (u:Value):Prop:=
 (env.kindOf x=some .local/\m x=some u)\/((env.kindOf x=some .cell\/env.kindOf x=some .free)/\∃c,env.cells.lookup x=some c/\h.IsCell c (some u))
structure Cx.Ok (X:Cx):Prop where
 mod:Mod X.K X.mg X.base
 kind:X.env.scope.kind=.function
 glob:X.env.globals=mainGlobals
 blt:X.env.builtins=builtinsNs
 above:X.s₀.heap.objs.size<=X.env.locals
 inj:∀x y c,X.env.cells.lookup x=some c->X.env.cells.lookup y=some c->x=y
 has:∀x,(X.env.kindOf x=some .cell\/X.env.kindOf x=some .free)->∃c,X.env.cells.lookup x=some c
 cab:∀x c,X.fn x=true->X.env.cells.lookup x=some c->X.s₀.heap.objs.size<=c
 hd:X.calm=true->X.A.handled=none
 frames:X.A.frames=some X.stack
 stk:X.stack=X.outer\/(X.stack=X.env::X.outer/\X.env.frame=some X.env.locals)
 exf:∀b∈X.ex,b≠X.env.locals/\∀x c,X.env.cells.lookup x=some c->c≠b
 bs:∀b o,X.base.get? b=some o->X.s₀.heap.get? b=some o/\X.H₀ b=none
 bsz:X.base.objs.size<=X.s₀.heap.objs.size
 noex:∀b o,X.base.get? b=some o->b∉X.ex
 exfs:∀b∈X.ex,b∉X.fs
 funs:X.s₀.heap.FunFrames X.base X.outer
 frf:∀b∈X.fs,X.H₀ b=none
structure qu (X:Cx) (pins:List (Addr×Obj)) (σ:List (Option V)) (H:Hp) (s:Shared):Prop where
 ok:X.Ok
 os:s.os=X.s₀.os
 bare:AllBare s.gens
 base:Un X.fs X.ex X.H₀ H X.s₀.heap s.heap
 loc:∃m,s.heap.Ns X.env.locals m/\∀(i:Nat) (x:Str) (v:V),X.N[i]?=some x->σ[i]?=some (some v)->wn X.env.scope x->∃u,qG v u/\Gg X.env s.heap m x u
 cell:∀x c,X.env.cells.lookup x=some c->∃v,s.heap.IsCell c v
 free:H X.env.locals=none
 freeC:∀x c,X.env.cells.lookup x=some c->H c=none\/(X.fn x=false/\∃o,H c=some (.frz o (.frz o (.own 0))))
 pin:∀p∈X.pn++pins,s.heap.get? p.1=some p.2/\H p.1=none/\p.1≠X.env.locals/\p.1∉X.fs/\∀v,p.2.data≠.cell v
 hok:QZ X.prog X.w H s.heap
 len:σ.length=X.N.length
section
variable {X:Cx} {pins:List (Addr×Obj)} {σ:List (Option V)} {H H':Hp} {s:Shared} {h':Heap}
theorem Cx.Ok.nofr (ok:X.Ok) {b:Addr} {o:Obj} (e:X.base.get? b=some o):b∉X.fs:=λhb=>by
 have:=(ok.funs.mem hb).1
 rw[e]at this;cases this
theorem qu.bs (I:qu X pins σ H s):∀b o,X.base.get? b=some o->s.heap.get? b=some o/\H b=none:=λb o e=>
 ⟨I.base.keep b o (I.ok.bs b o e).1 (I.ok.bs b o e).2 (I.ok.nofr e) (I.ok.noex b o e),I.base.free b o (I.ok.bs b o e).1 (I.ok.bs b o e).2 (I.ok.noex b o e)⟩
theorem qu.bk (I:qu X pins σ H s):∀b o,X.base.get? b=some o->s.heap.get? b=some o:=λb o e=>(I.bs b o e).1
theorem qu.mod (I:qu X pins σ H s):Mod X.K X.mg X.base:=I.ok.mod
theorem qu.kIn (I:qu X pins σ H s):X.K.In s.heap:=I.ok.mod.kin.keeps I.bk
theorem qu.lt (I:qu X pins σ H s):X.env.locals < s.heap.objs.size:=let ⟨_,hn,_⟩:=I.loc;hn.lt
theorem qu.sz (I:qu X pins σ H s):X.s₀.heap.objs.size<=s.heap.objs.size:=Nat.le_trans I.ok.above (Nat.le_of_lt I.lt)
theorem qu.nofs (I:qu X pins σ H s) {a:Addr} (h:s.heap.objs.size<=a):a∉X.fs:=λhb=>by
 obtain⟨_,o,ho,_⟩:=I.ok.funs.mem hb
 exact absurd (Nat.lt_of_lt_of_le (Heap.lt_size ho) (Nat.le_trans I.sz h)) (Nat.lt_irrefl _)
theorem qu.cne (I:qu X pins σ H s):∀x c,X.env.cells.lookup x=some c->c≠X.env.locals:=λx c e z=>by
 obtain⟨v,o,ho,hd⟩:=I.cell x c e
 obtain⟨m,⟨o',es,ep,ho',hd',_⟩,_⟩:=I.loc
 rw[z,ho']at ho;cases ho;rw[hd']at hd;cases hd
theorem qu.funs (I:qu X pins σ H s):s.heap.FunFrames X.base X.outer:=by
 have all:∀(l:List Env),(∀b∈Zc l,b∈X.fs)->X.s₀.heap.FunFrames X.base l->s.heap.FunFrames X.base l:=by
   intro l
   induction l with
   | nil=>intro _ _;trivial
   | cons env r ih=>
     intro hs hl
     obtain⟨hk,⟨L,o,hf,hn,ho,hd⟩,hr⟩:=hl
     have hL:L∈X.fs:=hs L (by unfold Zc;rw[List.filterMap_cons,hf];exact List.mem_cons_self)
     obtain⟨sl,e⟩:=I.base.slot L o ho (I.ok.frf L hL) hL λz=>I.ok.exfs L z hL
     exact⟨hk,⟨L,_,hf,hn,e,hd⟩,ih (λb hb=>hs b (by unfold Zc;rw[List.filterMap_cons,hf];exact List.mem_cons_of_mem _ hb)) hr⟩
 exact all X.outer (λ_ hb=>hb) I.ok.funs
theorem qu.stack (I:qu X pins σ H s):s.heap.FunFrames X.base X.stack:=by
 rcases I.ok.stk with e | ⟨e,hf⟩
 . rw[e];exact I.funs
 . rw[e]
   obtain⟨m,hn,_⟩:=I.loc
   refine .cons (by rw[I.ok.kind];decide) hf hn ?_ I.funs
   exact Heap.get?_none_of_le (Nat.le_trans I.ok.bsz I.ok.above)
theorem qu.stkSub (I:qu X pins σ H s):∀b∈Zc X.stack,b∈X.env.locals::X.fs:=λb hb=>by
 rcases I.ok.stk with e | ⟨e,hf⟩
 . rw[e]at hb;exact List.mem_cons_of_mem _ hb
 . rw[e]at hb
   unfold Zc at hb
   rw[List.filterMap_cons,hf]at hb
   exact hb
theorem qu.stkFree (I:qu X pins σ H s):∀b∈Zc X.stack,H b=none:=λb hb=>by
 rcases List.mem_cons.mp (I.stkSub b hb) with e | hb
 . rw[e];exact I.free
 . obtain⟨_,o,ho,_⟩:=I.ok.funs.mem hb
   exact I.base.free b o ho (I.ok.frf b hb) λz=>I.ok.exfs b z hb
theorem qu.step {g':Array GenState} {t':Nat} {d':Drawn} {ch:List Addr} (I:qu X pins σ H s)
   (hch:∀b∈ch,(b∈X.ex\/X.s₀.heap.objs.size<=b)/\b≠X.env.locals/\(∀x c,X.env.cells.lookup x=some c->c≠b)/\∀p∈X.pn++pins,p.1≠b)
   (keep:∀b o,b≠X.env.locals->b∉X.fs->b∉ch->s.heap.get? b=some o->H b=none->h'.get? b=some o)
   (slot:∀b o,b≠X.env.locals->b∈X.fs->b∉ch->s.heap.get? b=some o->H b=none->∃sl,h'.get? b=some {o with slots:=sl}) (free:∀b o,b∉ch->s.heap.get? b=some o->H b=none->H' b=none)
   (there:∀b o,b∉ch->s.heap.get? b=some o->∃o',h'.get? b=some o')
   (tups:∀b xs,H b=some (.tup xs)->H' b=some (.tup xs)) (frzs:∀b o u,H b=some (.frz o u)->H' b=some (.frz o u)) (tbls:∀b ps,H b=some (.tbl ps)->∃more,H' b=some (.tbl (ps++more)))
   (ns:∀m,s.heap.Ns X.env.locals m->h'.Ns X.env.locals m) (hok:QZ X.prog X.w H' h') (hg:AllBare g'):
   qu X pins σ H' {s with heap:=h',gens:=g',drawn:=d',toks:=t'}:=by
 have neL:∀b o,X.s₀.heap.get? b=some o->b≠X.env.locals:=λb o e=>Nat.ne_of_lt (Nat.lt_of_lt_of_le (Heap.lt_size e) I.ok.above)
 have neC:∀b o,X.s₀.heap.get? b=some o->b∉X.ex->b∉ch:=λb o e hx hb=>by
   rcases(hch b hb).1 with z | z
   . exact hx z
   . exact absurd (Nat.lt_of_lt_of_le (Heap.lt_size e) z) (Nat.lt_irrefl _)
 have cellK:∀x c,X.env.cells.lookup x=some c->∀v,s.heap.IsCell c v->h'.IsCell c v:=λx c e v ⟨o,ho,hd⟩=>by
   have nch:c∉ch:=λz=>(hch c z).2.2.1 x c e rfl
   rcases I.freeC x c e with fc | ⟨_,oc,fc⟩
   . by_cases hc:c∈X.fs
     . obtain⟨sl,q⟩:=slot c o (I.cne x c e) hc nch ho fc
       exact⟨_,q,hd⟩
     . exact⟨o,keep c o (I.cne x c e) hc nch ho fc,hd⟩
   . obtain⟨e1,_⟩:=(show qx X.prog X.w H s.heap c (.frz oc (.frz oc (.own 0))) from I.hok c _ fc)
     obtain⟨e2,_⟩:=(show qx X.prog X.w H' h' c (.frz oc (.frz oc (.own 0))) from hok c _ (frzs c oc _ fc))
     rw[ho]at e1
     cases e1
     exact⟨o,e2,hd⟩
 refine⟨I.ok,I.os,hg,⟨λb o e n hb hx=>?_,λb o e n hb hx=>?_,λb o e n hx=>?_,λb o e hx=>?_,λb xs e=>tups b xs (I.base.tups b xs e),λb o xs e=>frzs b o xs (I.base.frzs b o xs e),λb ps e=>?_⟩,?_,λx c e=>?_,?_,λx c e=>?_,λp hp=>?_,hok,I.len⟩
 . exact keep b o (neL b o e) hb (neC b o e hx) (I.base.keep b o e n hb hx) (I.base.free b o e n hx)
 . obtain⟨sl,e1⟩:=I.base.slot b o e n hb hx
   obtain⟨sl',e2⟩:=slot b _ (neL b o e) hb (neC b o e hx) e1 (I.base.free b o e n hx)
   exact⟨sl',e2⟩
 . obtain⟨o',e1⟩:=I.base.there b o e hx
   exact free b o' (neC b o e hx) e1 (I.base.free b o e n hx)
 . obtain⟨o',e1⟩:=I.base.there b o e hx
   exact there b o' (neC b o e hx) e1
 . obtain⟨m1,e1⟩:=I.base.tbls b ps e
   obtain⟨m2,e2⟩:=tbls b _ e1
   exact⟨m1++m2,by rw[e2,Array.append_assoc]⟩
 . obtain⟨m,hn,hl⟩:=I.loc
   refine⟨m,ns m hn,λi x v e1 e2 e3=>?_⟩
   obtain⟨u,r,l⟩:=hl i x v e1 e2 e3
   refine⟨u,r,?_⟩
   rcases l with l | ⟨k,c,e,z⟩
   . exact .inl l
   . exact .inr ⟨k,c,e,cellK x c e _ z⟩
 . obtain⟨v,z⟩:=I.cell x c e
   exact⟨v,cellK x c e v z⟩
 . obtain⟨m,⟨o,_,_,ho,_⟩,_⟩:=I.loc
   exact free _ o (λz=>(hch _ z).2.1 rfl) ho I.free
 . obtain⟨v,o,ho,hd⟩:=I.cell x c e
   rcases I.freeC x c e with fc | ⟨fx,oc,fc⟩
   . exact .inl (free c o (λz=>(hch c z).2.2.1 x c e rfl) ho fc)
   . exact .inr ⟨fx,oc,frzs c oc _ fc⟩
 . obtain⟨e,n,ne,nf,d⟩:=I.pin p hp
   have nch:p.1∉ch:=λz=>(hch p.1 z).2.2.2 p hp rfl
   exact⟨keep p.1 p.2 ne nf nch e n,free p.1 p.2 nch e n,ne,nf,d⟩
theorem qu.un {t':Nat} (I:qu X pins σ H s) (u:Un X.fs [] H H' s.heap h') (hok:QZ X.prog X.w H' h'):qu X pins σ H' {s with heap:=h',toks:=t'}:=by
 obtain⟨m,⟨o,es,ep,ho,r⟩,_⟩:=id I.loc
 obtain⟨sl,hL⟩:=u.any ho I.free (by simp)
 exact I.step (g':=s.gens) (d':=s.drawn) (ch:=[]) (λ_ z=>nomatch z) (λb o _ hb _ e n=>u.keep b o e n hb (by simp)) (λb o _ hb _ e n=>u.slot b o e n hb (by simp)) (λb o _ e n=>u.free b o e n (by simp)) (λb o _ e=>u.there b o e (by simp)) u.tups u.frzs u.tbls (λm' hm=>by
   obtain⟨o',es',ep',ho',r'⟩:=hm
   rw[ho]at ho';cases ho'
   exact⟨_,es',ep',hL,r'⟩) hok I.bare
theorem qu.call {g':Array GenState} {t':Nat} {d':Drawn} {ch:List Addr} (I:qu X pins σ H s) (u:Un (Zc X.stack) ch H H' s.heap h') (hok:QZ X.prog X.w H' h') (hg:AllBare g')
   (hch:∀b∈ch,(b∈X.ex\/X.s₀.heap.objs.size<=b)/\b≠X.env.locals/\(∀x c,X.env.cells.lookup x=some c->c≠b)/\∀p∈X.pn++pins,p.1≠b):
   qu X pins σ H' {s with heap:=h',gens:=g',drawn:=d',toks:=t'}:=by
 obtain⟨m,⟨o,es,ep,ho,r⟩,_⟩:=id I.loc
 obtain⟨sl,hL⟩:=u.any ho I.free λz=>(hch _ z).2.1 rfl
 exact I.step (ch:=ch) hch (λb o hL hb hc e n=>u.keep b o e n (λz=>(List.mem_cons.mp (I.stkSub b z)).elim hL hb) hc) (λb o _ _ hc e n=>u.any e n hc) (λb o hc e n=>u.free b o e n hc) (λb o hc e=>u.there b o e hc) u.tups u.frzs u.tbls (λm' hm=>by
   obtain⟨o',es',ep',ho',r'⟩:=hm
   rw[ho]at ho';cases ho'
   exact⟨_,es',ep',hL,r'⟩) hok hg
theorem qu.turned {t':Nat} {it:Addr} (I:qu X pins σ H s) (k:∀b o,b≠it->s.heap.get? b=some o->h'.get? b=some o) (hn:H it=none) (hL:it≠X.env.locals)
   (h1:it∈X.ex\/X.s₀.heap.objs.size<=it) (h2:∀x c,X.env.cells.lookup x=some c->c≠it) (h3:∀p∈X.pn++pins,p.1≠it):qu X pins σ H {s with heap:=h',toks:=t'}:=by
 have nit:∀b u,H b=some u->b≠it:=λb u e z=>by rw[z,hn]at e;cases e
 refine I.step (g':=s.gens) (d':=s.drawn) (ch:=[it]) (λb hb=>?_) (λb o _ _ hc e _=>k b o (λz=>hc (by simp [z])) e) (λb o _ _ hc e _=>⟨o.slots,k b o (λz=>hc (by simp [z])) e⟩) (λ_ _ _ _ n=>n)
   (λb o hc e=>⟨o,k b o (λz=>hc (by simp [z])) e⟩) (λ_ _ e=>e) (λ_ _ _ e=>e) (λb ps e=>⟨#[],by rw[e];simp⟩) (λm hm=>?_) (λb u e=>?_) I.bare
 . have e:b=it:=by simpa using hb
   subst e
   exact⟨h1,hL,h2,h3⟩
 . obtain⟨o,es,ep,ho,r⟩:=hm
   exact⟨o,es,ep,k _ o (Ne.symm hL) ho,r⟩
 . refine(I.hok b u e).stay (λc v hc q=>k c v ?_ q) (λ_ q=>q) λ_ _ q=>q
   rcases hc with z | z
   . rw[z];exact nit b u e
   . exact nit c _ z
theorem qu.tok (I:qu X pins σ H s) (t:Nat):qu X pins σ H {s with toks:=t}:=I.un (h':=s.heap) (t':=t) Un.refl I.hok
theorem qu.kept {t':Nat} (I:qu X pins σ H s) (k:∀b u,s.heap.get? b=some u->h'.get? b=some u):qu X pins σ H {s with heap:=h',toks:=t'}:=I.un (Un.kept k) (I.hok.kept k)
theorem qu.laid {a:Addr} {o:HO} {t':Nat} (I:qu X pins σ H s) (k:∀b u,s.heap.get? b=some u->h'.get? b=some u) (hp:s.heap.objs.size<=a) (new:qx X.prog X.w (upd H a o) h' a o):
   qu X pins σ (upd H a o) {s with heap:=h',toks:=t'}:=I.un (Un.laid k hp (I.hok.fresh hp)) (I.hok.laid k hp new)
theorem qu.write {x e:Addr} {o:HO} {t':Nat} (I:qu X pins σ H s) (mu:wp (H x)) (he:e=x\/H e=some (.own x)) (k:∀b u,b≠e->s.heap.get? b=some u->h'.get? b=some u) (heo:∃u,h'.get? e=some u)
   (new:qx X.prog X.w (upd H x o) h' x o):qu X pins σ (upd H x o) {s with heap:=h',toks:=t'}:=I.un (Un.write mu he k heo) (I.hok.write mu he k heo new)
theorem qu.pins_of {pins':List (Addr×Obj)} (I:qu X pins σ H s) (h:∀p∈pins',s.heap.get? p.1=some p.2/\H p.1=none/\p.1≠X.env.locals/\p.1∉X.fs/\∀v,p.2.data≠.cell v):qu X pins' σ H s:=
 ⟨I.ok,I.os,I.bare,I.base,I.loc,I.cell,I.free,I.freeC,λp hp=>(List.mem_append.mp hp).elim (λz=>I.pin p (List.mem_append_left _ z)) (h p),I.hok,I.len⟩
theorem zb {N:List Str} (hN:N.Nodup) {i j:Nat} {x:Str} (a:N[i]?=some x) (b:N[j]?=some x):i=j:=by
 obtain⟨h1,e1⟩:=List.getElem?_eq_some_iff.mp a
 obtain⟨h2,e2⟩:=List.getElem?_eq_some_iff.mp b
 exact(List.getElem_inj hN).mp (e1.trans e2.symm)
theorem Zg {M:Model} {A:Around} {E:Value->Shared->Prop} {i:Nat} {x:Str} {v:V} {u:Value} {Q:Unit->Shared->Prop} (I:qu X pins σ H s) (hN:X.N.Nodup) (hi:X.N[i]?=some x) (hx:wu X.env.scope x) (r:qG v u)
   (h:∀s',qu X pins (σ.set i (some v)) H s'->(∃a,Heap.SameBut a s.heap s'.heap/\(a=X.env.locals\/X.env.cells.lookup x=some a))->Q () s') (hf:X.fn x=true\/X.env.scope.names.lookup x=some .local:=by first | exact .inl rfl | exact .inr rfl | assumption):wpAny M A (storeName X.env x u) Q E s:=by
 obtain⟨m,hn,hl⟩:=id I.loc
 have hcls:(X.env.scope.kind==.class || (X.env.scope.kind==.module&&X.env.locals != X.env.globals))=false:=by rw[I.ok.kind];rfl
 have hiσ:i < σ.length:=by rw[I.len];exact(List.getElem?_eq_some_iff.mp hi).1
 have cne:=I.cne
 have tracked:∀{a:Addr} {h':Heap},(∃o,s.heap.get? a=some o/\H a=none)->Heap.SameBut a s.heap h'->QZ X.prog X.w H h':=λ{a h'} ha hs b ob e=>by
   obtain⟨_,_,hfree⟩:=ha
   refine(I.hok b ob e).stay (λc w' hc q=>(hs.2 c ?_).trans q) (λ_ q=>q) λ_ _ q=>q
   rintro rfl
   rcases hc with rfl | hc
   . rw[hfree]at e;cases e
   . rw[hfree]at hc;cases hc
 rcases hx with hk | hk
 . refine wpAny_storeName_local hk hn (λh' hn' hs=>?_) hcls
   obtain⟨oL,_,_,hoL,_⟩:=id hn
   refine h _ ⟨I.ok,I.os,I.bare,⟨λb o e n hb hx=>?_,λb o e n hb hx=>?_,I.base.free,λb o e hx=>?_,I.base.tups,I.base.frzs,I.base.tbls⟩,⟨_,hn',λj y v' e1 e2 e3=>?_⟩,λy c e=>?_,I.free,I.freeC,λp hp=>?_,tracked ⟨oL,hoL,I.free⟩ hs,by simpa using I.len⟩ ⟨_,hs,.inl rfl⟩
   . exact(hs.2 b (Nat.ne_of_lt (Nat.lt_of_lt_of_le (Heap.lt_size e) I.ok.above))).trans (I.base.keep b o e n hb hx)
   . obtain⟨sl,e1⟩:=I.base.slot b o e n hb hx
     exact⟨sl,(hs.2 b (Nat.ne_of_lt (Nat.lt_of_lt_of_le (Heap.lt_size e) I.ok.above))).trans e1⟩
   . obtain⟨o',e1⟩:=I.base.there b o e hx
     exact⟨o',(hs.2 b (Nat.ne_of_lt (Nat.lt_of_lt_of_le (Heap.lt_size e) I.ok.above))).trans e1⟩
   . by_cases hj:j=i
     . subst hj
       rw[hi]at e1;cases e1
       rw[List.getElem?_set_self hiσ]at e2
       cases e2
       exact⟨u,r,.inl ⟨hk,by simp⟩⟩
     . rw[List.getElem?_set_ne (Ne.symm hj)]at e2
       obtain⟨u',r',q⟩:=hl j y v' e1 e2 e3
       refine⟨u',r',?_⟩
       rcases q with ⟨k,e⟩ | ⟨k,c,e,z⟩
       . refine .inl ⟨k,?_⟩
         have:y≠x:=λe=>hj (zb hN e1 (e▸hi))
         simp [this,e]
       . exact .inr ⟨k,c,e,z.sameBut hs (cne y c e)⟩
   . obtain⟨w',z⟩:=I.cell y c e
     exact⟨w',z.sameBut hs (cne y c e)⟩
   . obtain⟨e,n,ne,nf,d⟩:=I.pin p hp
     exact⟨(hs.2 p.1 ne).trans e,n,ne,nf,d⟩
 . have hfn:X.fn x=true:=by
     rcases hf with z | z
     . exact z
     . rw[z]at hk;cases hk
   obtain⟨c,hc⟩:=I.ok.has x (.inl hk)
   obtain⟨w',z⟩:=I.cell x c hc
   refine wpAny_storeName_cell I.ok.kind hk hc z (λh' hc' hs=>?_)
   obtain⟨oc,hoc,hocd⟩:=id z
   have fcn:H c=none:=(I.freeC x c hc).elim id λz=>by rw[hfn]at z;cases z.1
   refine h {s with heap:=h'} ⟨I.ok,I.os,I.bare,⟨λb o e n hb hx=>?_,λb o e n hb hx=>?_,I.base.free,λb o e hx=>?_,I.base.tups,I.base.frzs,I.base.tbls⟩,⟨m,hn.sameBut hs (Ne.symm (cne x c hc)),λj y v' e1 e2 e3=>?_⟩,λy c' e=>?_,I.free,I.freeC,λp hp=>?_,tracked ⟨oc,hoc,fcn⟩ hs,by simpa using I.len⟩ ⟨c,hs,.inr hc⟩
   . exact(hs.2 b (Nat.ne_of_lt (Nat.lt_of_lt_of_le (Heap.lt_size e) (I.ok.cab x c hfn hc)))).trans (I.base.keep b o e n hb hx)
   . obtain⟨sl,e1⟩:=I.base.slot b o e n hb hx
     exact⟨sl,(hs.2 b (Nat.ne_of_lt (Nat.lt_of_lt_of_le (Heap.lt_size e) (I.ok.cab x c hfn hc)))).trans e1⟩
   . obtain⟨o',e1⟩:=I.base.there b o e hx
     exact⟨o',(hs.2 b (Nat.ne_of_lt (Nat.lt_of_lt_of_le (Heap.lt_size e) (I.ok.cab x c hfn hc)))).trans e1⟩
   . by_cases hj:j=i
     . subst hj
       rw[hi]at e1;cases e1
       rw[List.getElem?_set_self hiσ]at e2
       cases e2
       exact⟨u,r,.inr ⟨.inl hk,c,hc,hc'⟩⟩
     . rw[List.getElem?_set_ne (Ne.symm hj)]at e2
       obtain⟨u',r',q⟩:=hl j y v' e1 e2 e3
       refine⟨u',r',?_⟩
       rcases q with q | ⟨k,c',e,z'⟩
       . exact .inl q
       . refine .inr ⟨k,c',e,z'.sameBut hs ?_⟩
         rintro rfl
         exact hj (zb hN e1 (I.ok.inj _ _ _ e hc▸hi))
   . by_cases hcc:c'=c
     . subst hcc;exact⟨_,hc'⟩
     . obtain⟨w2,z2⟩:=I.cell y c' e
       exact⟨w2,z2.sameBut hs hcc⟩
   . obtain⟨e,n,ne,nf,d⟩:=I.pin p hp
     refine⟨(hs.2 p.1 ?_).trans e,n,ne,nf,d⟩
     intro q
     rw[q,hoc]at e
     have q':oc=p.2:=Option.some.inj e
     exact d w' (by rw[<-q'];exact hocd)
theorem ZY {M:Model} {A:Around} {E:Value->Shared->Prop} {i:Nat} {x:Str} {v:V} {u:Value} {Q:Unit->Shared->Prop} (I:qu X pins σ H s) (hN:X.N.Nodup) (hi:X.N[i]?=some x) (hx:wu X.env.scope x) (r:qG v u)
   (h:∀s',qu X pins (σ.set i (some v)) H s'->Q () s') (hf:X.fn x=true\/X.env.scope.names.lookup x=some .local:=by first | exact .inl rfl | exact .inr rfl | assumption):wpAny M A (storeName X.env x u) Q E s:=
 Zg I hN hi hx r (λs' I' _=>h s' I') hf
theorem qu.call' {s':Shared} {ch:List Addr} (I:qu X pins σ H s) (ho:s'.os=s.os) (u:Un (Zc X.stack) ch H H' s.heap s'.heap) (hok:QZ X.prog X.w H' s'.heap) (hg:AllBare s'.gens)
   (hch:∀b∈ch,(b∈X.ex\/X.s₀.heap.objs.size<=b)/\b≠X.env.locals/\(∀x c,X.env.cells.lookup x=some c->c≠b)/\∀p∈X.pn++pins,p.1≠b):qu X pins σ H' s':=by
 obtain⟨h',g',d',t',o'⟩:=s'
 have e:o'=s.os:=ho
 subst e
 exact I.call (g':=g') (t':=t') (d':=d') u hok hg hch
end
abbrev XK:=Value->Option Addr->Hp->Prop
abbrev St:=List (Option V)
abbrev VK:=V->Hp->Prop
abbrev TE:=St->Hp->VK->Prop
abbrev TT:=St->Hp->(Bool->Hp->Prop)->Prop
abbrev TA:=St->Hp->(List V->Hp->Prop)->Prop
structure Qx where
 nx:St->Hp->Prop
 rt:VK
 bk:St->Hp->Prop:=λ_ _=>False
 ct:St->Hp->Prop:=λ_ _=>False
abbrev TS:=Qx->St->Hp->Prop
def EP (X:Cx) (pins:List (Addr×Obj)) (σ:St) (Q:VK) (u:Value) (s':Shared):Prop:=∃v H',qu X pins σ H' s'/\qG v u/\Q v H'
def TP (X:Cx) (pins:List (Addr×Obj)) (σ:St) (Q:Bool->Hp->Prop) (b:Bool) (s':Shared):Prop:=∃H',qu X pins σ H' s'/\Q b H'
def AP (X:Cx) (pins:List (Addr×Obj)) (σ:St) (Q:List V->Hp->Prop) (us:List Value) (s':Shared):Prop:=∃vs H',qu X pins σ H' s'/\qD vs us/\Q vs H'
def SP (X:Cx) (pins:List (Addr×Obj)) (D:Qx) (f:Flow) (s':Shared):Prop:=
 match f with
 | .next=>∃σ' H',qu X pins σ' H' s'/\D.nx σ' H'
 | .brk=>∃σ' H',qu X pins σ' H' s'/\D.bk σ' H'
 | .cont=>∃σ' H',qu X pins σ' H' s'/\D.ct σ' H'
 | .ret u=>∃v σ' H',qu X pins σ' H' s'/\qG v u/\D.rt v H'
def PE (X:Cx) (e:Expr) (t:TE):Prop:=
 ∀(pins:List (Addr×Obj)) (s:Shared) (σ:St) (H:Hp) (Q:VK),qu X pins σ H s->t σ H Q->wpAny (model X.prog X.w) X.A (eval e X.env) (EP X pins σ Q) X.xe s
@[irreducible] def JE (X:Cx) (e:Expr) (t:TE):Prop:=PE X e t
theorem JE.of {X:Cx} {e:Expr} {t:TE} (h:PE X e t):JE X e t:=by unfold JE;exact h
theorem JE.to {X:Cx} {e:Expr} {t:TE} (h:JE X e t):PE X e t:=by unfold JE at h;exact h
def PT (X:Cx) (e:Expr) (t:TT):Prop:=
 ∀(pins:List (Addr×Obj)) (s:Shared) (σ:St) (H:Hp) (Q:Bool->Hp->Prop),qu X pins σ H s->t σ H Q->wpAny (model X.prog X.w) X.A (isTrue e X.env (eval e X.env)) (TP X pins σ Q) X.xe s
@[irreducible] def JT (X:Cx) (e:Expr) (t:TT):Prop:=PT X e t
theorem JT.of {X:Cx} {e:Expr} {t:TT} (h:PT X e t):JT X e t:=by unfold JT;exact h
theorem JT.to {X:Cx} {e:Expr} {t:TT} (h:JT X e t):PT X e t:=by unfold JT at h;exact h
def PW (X:Cx) (e:Expr) (t:TT):Prop:=
 ∀(whole:Sem Value) (pins:List (Addr×Obj)) (s:Shared) (σ:St) (H:Hp) (Q:Bool->Hp->Prop),qu X pins σ H s->t σ H Q->wpAny (model X.prog X.w) X.A (isTrue e X.env whole) (TP X pins σ Q) X.xe s
theorem PW.pt {X:Cx} {e:Expr} {t:TT} (h:PW X e t):PT X e t:=h _
@[irreducible] def JW (X:Cx) (e:Expr) (t:TT):Prop:=PW X e t
theorem JW.of {X:Cx} {e:Expr} {t:TT} (h:PW X e t):JW X e t:=by unfold JW;exact h
theorem JW.to {X:Cx} {e:Expr} {t:TT} (h:JW X e t):PW X e t:=by unfold JW at h;exact h
theorem JW.pt {X:Cx} {e:Expr} {t:TT} (h:JW X e t):JT X e t:=.of h.to.pt
def PA (X:Cx) (es:List Expr) (t:TA):Prop:=
 ∀(pos:Pos) (pins:List (Addr×Obj)) (s:Shared) (σ:St) (H:Hp) (Q:List V->Hp->Prop),qu X pins σ H s->t σ H Q->wpAny (model X.prog X.w) X.A (spliced (backTo pos (starEach es X.env))) (AP X pins σ Q) X.xe s
@[irreducible] def JA (X:Cx) (es:List Expr) (t:TA):Prop:=PA X es t
theorem JA.of {X:Cx} {es:List Expr} {t:TA} (h:PA X es t):JA X es t:=by unfold JA;exact h
theorem JA.to {X:Cx} {es:List Expr} {t:TA} (h:JA X es t):PA X es t:=by unfold JA at h;exact h
def PS (X:Cx) (st:Stmt) (t:TS):Prop:=
 ∀(pins:List (Addr×Obj)) (s:Shared) (σ:St) (H:Hp) (D:Qx),qu X pins σ H s->t D σ H->wpAny (model X.prog X.w) X.A (exec st X.env) (SP X pins D) X.xe s
@[irreducible] def JS (X:Cx) (st:Stmt) (t:TS):Prop:=PS X st t
theorem JS.of {X:Cx} {st:Stmt} {t:TS} (h:PS X st t):JS X st t:=by unfold JS;exact h
theorem JS.to {X:Cx} {st:Stmt} {t:TS} (h:JS X st t):PS X st t:=by unfold JS at h;exact h
def vM (X:Cx) (st:List Stmt) (t:TS):Prop:=
 ∀(pins:List (Addr×Obj)) (s:Shared) (σ:St) (H:Hp) (D:Qx),qu X pins σ H s->t D σ H->wpAny (model X.prog X.w) X.A (execs st X.env) (SP X pins D) X.xe s
@[irreducible] def zr (X:Cx) (st:List Stmt) (t:TS):Prop:=vM X st t
theorem zr.of {X:Cx} {st:List Stmt} {t:TS} (h:vM X st t):zr X st t:=by unfold zr;exact h
theorem zr.to {X:Cx} {st:List Stmt} {t:TS} (h:zr X st t):vM X st t:=by unfold zr at h;exact h
theorem qY {α:Type} {t:Sem α} {Q Q':α->Shared->Prop} {M:Model} {A:Around} {E:Value->Shared->Prop} {s:Shared} (h:wpAny M A t Q E s) (hQ:∀a s,Q a s->Q' a s):wpAny M A t Q' E s:=wpAny_mono h hQ λ_ _ x=>x
end L2
namespace L2
open PySem PySem.Spec PyProof.Rows
section
variable {X:Cx}
def jt (i:Nat):TE:=λσ H Q=>∃v,σ[i]?=some (some v)/\Q v H
def tC (v:V):TE:=λ_ H Q=>Q v H
theorem UI {i:Nat} {x:Str} {pos:Pos} (hN:X.N[i]?=some x) (hv:wn X.env.scope x) (hd:(x==("__debug__":Str))=false:=by decide) (hcd:(x==("__classdict__":Str))=false:=by decide):PE X (.Name x pos) (jt i):=by
 intro pins s σ H Q I h
 obtain⟨v,e,h⟩:=h
 obtain⟨m,hn,hl⟩:=I.loc
 obtain⟨u,r,l⟩:=hl i x v hN e hv
 have fin:EP X pins σ Q u s:=⟨v,H,I,r,h⟩
 rcases l with ⟨hk,hm⟩ | ⟨hk,c,hc,hcell⟩
 . exact wpAny_Name (wpAny_loadName_local I.ok.kind hk hn hm fin) hd
 . rcases hk with hk | hk
   . exact wpAny_Name (wpAny_loadName_cell I.ok.kind hk hc hcell fin) hd
   . exact wpAny_Name (wpAny_loadName_free I.ok.kind hk hc hcell fin hcd) hd
theorem qj {i j pos}:JE X (.Constant (.int i) j pos) (tC (.int i)):=.of (by
 exact λ_ _ _ H _ I h=>wpAny_Constant_int ⟨.int i,H,I.tok _,⟨_,rfl⟩,h⟩)
theorem jW {b j pos}:JE X (.Constant (.bool b) j pos) (tC (.bl b)):=.of (by
 exact λ_ _ _ H _ I h=>Constant_bool ⟨.bl b,H,I,rfl,h⟩)
theorem JB {j pos}:JE X (.Constant .none j pos) (tC .non):=.of (by
 exact λ_ _ _ H _ I h=>Constant_none ⟨.non,H,I,rfl,h⟩)
theorem qQ {x j pos}:JE X (.Constant (.str x) j pos) (tC (.str x)):=.of (by
 exact λ_ _ _ H _ I h=>Calls.Constant_str ⟨.str x,H,I.tok _,⟨_,rfl⟩,h⟩)
def Gl (X:Cx) (x:Str):Prop:=X.env.kindOf x=some .globalImplicit
theorem J2 {E:Value->Shared->Prop} {pins:List (Addr×Obj)} {s:Shared} {σ:St} {H:Hp} {x:Str} {u:Value} {pos:Pos} {Q:Value->Shared->Prop} (I:qu X pins σ H s) (hg:Gl X x) (hm:X.mg x=some u) (h:Q u s)
   (hd:(x==("__debug__":Str))=false:=by decide):wpAny (model X.prog X.w) X.A (eval (.Name x pos) X.env) Q E s:=
 Calls.Name_function_global I.ok.kind hg (Calls.loadGlobal_global (by rw[I.ok.glob];exact I.mod.glob.keeps I.bk) hm h) hd
theorem Qt {E:Value->Shared->Prop} {pins:List (Addr×Obj)} {s:Shared} {σ:St} {H:Hp} {x:Str} {u:Value} {pos:Pos} {Q:Value->Shared->Prop} (I:qu X pins σ H s) (hg:Gl X x) (hm:X.mg x=none) (hv:bootBuiltins x=some u) (h:Q u s)
   (hn:x≠"__name__":=by decide) (hd:(x==("__debug__":Str))=false:=by decide):wpAny (model X.prog X.w) X.A (eval (.Name x pos) X.env) Q E s:=by
 obtain⟨mb,h1,h2⟩:=I.mod.blt
 exact Calls.Name_function_global I.ok.kind hg (Calls.loadGlobal_builtin (by rw[I.ok.glob];exact I.mod.glob.keeps I.bk) hm (by rw[I.ok.blt];exact h1.keeps I.bk) ((h2 x hn).trans hv) h) hd
theorem WG {x:Str} {v:V} {u:Value} {pos:Pos} (hg:Gl X x) (hm:X.mg x=some u) (r:qG v u) (hd:(x==("__debug__":Str))=false:=by decide):PE X (.Name x pos) (tC v):=
 λ_ _ _ H _ I h=>J2 I hg hm ⟨v,H,I,r,h⟩ hd
theorem jh {x:Str} {v:V} {u:Value} {pos:Pos} (hg:Gl X x) (hm:X.mg x=some u) (r:qG v u) (hd:(x==("__debug__":Str))=false:=by decide):JE X (.Name x pos) (tC v):=.of (WG hg hm r hd)
theorem j6 {x:Str} {v:V} {u:Value} {pos:Pos} (hg:Gl X x) (hm:X.mg x=none) (hv:bootBuiltins x=some u) (r:qG v u) (hn:x≠"__name__":=by decide) (hd:(x==("__debug__":Str))=false:=by decide):JE X (.Name x pos) (tC v):=.of (by
 exact λ_ _ _ H _ I h=>Qt I hg hm hv ⟨v,H,I,r,h⟩ hn hd)
variable {a b:Expr} {ta tb:TE} {pos:Pos}
def PC (X:Cx) (op:CmpOp) (a b:Expr) (t:TE):Prop:=
 ∀(pins:List (Addr×Obj)) (s:Shared) (σ:St) (H:Hp) (Q:VK),qu X pins σ H s->t σ H Q->
   wpAny (model X.prog X.w) X.A (eval a X.env) (λv s₁=>wpAny (model X.prog X.w) X.A (eval b X.env) (λu s₂=>wpAny (model X.prog X.w) X.A (compareOp op v u) (EP X pins σ Q) X.xe s₂) X.xe s₁) X.xe s
@[irreducible] def JC (X:Cx) (op:CmpOp) (a b:Expr) (t:TE):Prop:=PC X op a b t
theorem JC.of {X:Cx} {op:CmpOp} {a b:Expr} {t:TE} (h:PC X op a b t):JC X op a b t:=by unfold JC;exact h
theorem JC.to {X:Cx} {op:CmpOp} {a b:Expr} {t:TE} (h:JC X op a b t):PC X op a b t:=by unfold JC at h;exact h
def tB (t:TE):TT:=λσ H Q=>t σ H λx H1=>∃c,x=.bl c/\Q c H1
theorem X3 {op:CmpOp} {t:TE} (h:JC X op a b t) (h1:behindInMarks op b=false:=by first | exact nobehind _ (by decide) (by decide) | rfl):JT X (.Compare a [op] [b] pos) (tB t):=.of (by
 have h:=h.to
 intro pins s σ H Q I hw
 refine wpAny_isTrue_Compare1 (qY (h pins s σ H _ I hw) λv s1 h1=>qY h1 λu s2 h2=>qY h2 λc s3 ⟨x,H1,I1,r1,q1⟩=>?_) h1
 obtain⟨d,rfl,q⟩:=q1
 cases r1
 exact wpAny_truthy_bool ⟨H1,I1,q⟩)
theorem ju {e:Expr} {t:TE} (h:JE X e t) (he:∀whole,isTrue e X.env whole=(do let v <-whole;standAt e.pos;holding [v] (truthy v)):=by intro _;rfl):JT X e (tB t):=.of (by
 have h:=h.to
 intro pins s σ H Q I hw
 refine isTrue_plain (qY (h pins s σ H _ I hw) λv s1 ⟨x,H1,I1,r1,q1⟩=>?_) (he _)
 obtain⟨d,rfl,q⟩:=q1
 cases r1
 exact wpAny_truthy_bool ⟨H1,I1,q⟩)
variable {tA tB':TT} {rest:List Expr}
def yW (t u:TT):TT:=λσ H Q=>t σ H λc H1=>if c=true then u σ H1 Q else Q false H1
def tOr (t u:TT):TT:=λσ H Q=>t σ H λc H1=>if c=true then Q true H1 else u σ H1 Q
def wB (t:TT):TT:=λσ H Q=>t σ H λc H1=>Q (!c) H1
theorem jA (ha:JT X a tA):JW X (.BoolOp .And [a] pos) tA:=.of (by
 have ha:=ha.to
 intro wh pins s σ H Q I h
 refine isTrue_and (qY (ha pins s σ H Q I h) λc s1 e=>?_)
 cases c with
 | true=>exact isTrue_and_nil e
 | false=>exact e)
theorem Qm (ha:JT X a tA):JW X (.BoolOp .Or [a] pos) tA:=.of (by
 have ha:=ha.to
 intro wh pins s σ H Q I h
 refine isTrue_or (qY (ha pins s σ H Q I h) λc s1 e=>?_)
 cases c with
 | false=>exact isTrue_or_nil e
 | true=>exact e)
theorem jO (ha:JT X a tA) (hb:JW X (.BoolOp .And (b::rest) pos) tB'):JW X (.BoolOp .And (a::b::rest) pos) (yW tA tB'):=.of (by
 have ha:=ha.to
 have hb:=hb.to
 intro wh pins s σ H Q I h
 refine isTrue_and (qY (ha pins s σ H _ I h) λc s1 ⟨H1,I1,q1⟩=>?_)
 cases c with
 | true=>exact hb wh pins s1 σ H1 Q I1 q1
 | false=>exact⟨H1,I1,q1⟩)
theorem Q0 (ha:JT X a tA) (hb:JW X (.BoolOp .Or (b::rest) pos) tB'):JW X (.BoolOp .Or (a::b::rest) pos) (tOr tA tB'):=.of (by
 have ha:=ha.to
 have hb:=hb.to
 intro wh pins s σ H Q I h
 refine isTrue_or (qY (ha pins s σ H _ I h) λc s1 ⟨H1,I1,q1⟩=>?_)
 cases c with
 | true=>exact⟨H1,I1,q1⟩
 | false=>exact hb wh pins s1 σ H1 Q I1 q1)
theorem jP (ha:JT X a tA):JT X (.UnaryOp .Not a pos) (wB tA):=.of (by
 have ha:=ha.to
 intro pins s σ H Q I h
 exact isTrue_not (ha pins s σ H (λc H1=>Q (!c) H1) I h))
def Wp (ta tb:TE):TE:=λσ H Q=>ta σ H λx H1=>∃c,x=.bl c/\if c=true then tb σ H1 Q else Q (.bl false) H1
def Wm (ta:TE):TE:=λσ H Q=>ta σ H λx H1=>∃c,x=.bl c/\Q (.bl (!c)) H1
theorem Zq {op} {t:TE} (h:JE X a t):JE X (.BoolOp op [a] pos) t:=.of (by
 have h:=h.to
 exact λpins s σ H Q I hw=>BoolOp_one (h pins s σ H Q I hw))
theorem Zr (ha:JE X a ta) (hb:JE X (.BoolOp .And (b::rest) pos) tb):JE X (.BoolOp .And (a::b::rest) pos) (Wp ta tb):=.of (by
 have ha:=ha.to
 have hb:=hb.to
 intro pins s σ H Q I h
 refine BoolOp_and (qY (ha pins s σ H _ I h) λv s1 ⟨x,H1,I1,r1,q1⟩=>?_)
 obtain⟨c,rfl,q1⟩:=q1
 cases r1
 refine wpAny_truthy_bool ?_
 cases c with
 | true=>exact hb pins s1 σ H1 Q I1 q1
 | false=>exact⟨.bl false,H1,I1,rfl,q1⟩)
theorem Yq (ha:JE X a ta):JE X (.UnaryOp .Not a pos) (Wm ta):=.of (by
 have ha:=ha.to
 intro pins s σ H Q I h
 refine UnaryOp_ (qY (ha pins s σ H _ I h) λv s1 ⟨x,H1,I1,r1,q1⟩=>?_)
 obtain⟨c,rfl,q1⟩:=q1
 cases r1
 exact not_of (wpAny_truthy_bool ⟨.bl (!c),H1,I1,rfl,q1⟩))
def tIf (t:TT) (ta tb:TE):TE:=λσ H Q=>t σ H λc H1=>if c=true then ta σ H1 Q else tb σ H1 Q
theorem ve {c:Expr} (hc:JT X c tA) (ha:JE X a ta) (hb:JE X b tb):JE X (.IfExp c a b pos) (tIf tA ta tb):=.of (by
 have hc:=hc.to
 have ha:=ha.to
 have hb:=hb.to
 intro pins s σ H Q I h
 refine wpAny_IfExp (qY (hc pins s σ H _ I h) λd s1 ⟨H1,I1,q1⟩=>?_)
 cases d with
 | true=>exact ha pins s1 σ H1 Q I1 q1
 | false=>exact hb pins s1 σ H1 Q I1 q1)
end
end L2
namespace L2
open PySem PySem.Spec PyProof.Rows
def SqL (K:PySem.W.Frag) (H:Hp) (a:Addr) (xs:List V):Prop:=
 Rd H a (.lst xs)\/
   ∃(o:Obj) (its:Array Value) (n:Nat),K.lookup a=some o/\o.cls=.type "list"/\o.dict=none/\o.data=.seq its n/\its.size<=sizeLine/\qD xs its.toList
def SqT (K:PySem.W.Frag) (H:Hp) (a:Addr) (xs:List V):Prop:=
 Rd H a (.tup xs)\/
   ∃(o:Obj) (its:Array Value) (n:Nat),K.lookup a=some o/\o.cls=.type "tuple"/\o.data=.seq its n/\its.size<=sizeLine/\qD xs its.toList
def K8:Value->Option V
 | .none=>some .non
 | .bool b=>some (.bl b)
 | .int i _=>some (.int i)
 | .str x _=>some (.str x)
 | .bytes b _=>some (.byt b)
 | .float b _=>some (.flt b)
 | .ref a=>some (.ref a)
 | .type n=>some (.ty n)
 | _=>none
theorem qG.abs {x:V} {u:Value} (r:qG x u):K8 u=some x:=by
 cases x with
 | non=>cases r;rfl
 | bl _=>cases r;rfl
 | int _=>obtain⟨t,rfl⟩:=r;rfl
 | str _=>obtain⟨t,rfl⟩:=r;rfl
 | byt _=>obtain⟨t,rfl⟩:=r;rfl
 | flt _=>obtain⟨t,rfl⟩:=r;rfl
 | ref _=>cases r;rfl
 | ty _=>cases r;rfl
theorem qG.inj {x y:V} {u:Value} (r:qG x u) (q:qG y u):x=y:=Option.some.inj (r.abs.symm.trans q.abs)
theorem qD.inj:∀{xs ys:List V} {us:List Value},qD xs us->qD ys us->xs=ys
 | _,_,_,.nil,.nil=>rfl
 | _,_,_,.cons r t,.cons r' t'=>by rw[r.inj r',qD.inj t t']
section
variable {X:Cx} {pins:List (Addr×Obj)} {σ:St} {H:Hp} {s:Shared} {a:Addr} {xs ys:List V}
theorem SqL.of {K:PySem.W.Frag} (h:H a=some (.lst xs)):SqL K H a xs:=.inl (.inl h)
theorem SqT.of {K:PySem.W.Frag} (h:H a=some (.tup xs)):SqT K H a xs:=.inl (.inl h)
theorem qu.list (I:qu X pins σ H s) (h:SqL X.K H a xs):∃its:List Value,qD xs its/\PlainL s.heap a its.toArray/\xs.length<=sizeLine:=by
 rcases h with h | ⟨o,its,n,hk,hc,hd,hs,hz,r⟩
 . obtain⟨z,its,n,r,e⟩:=h.ok I.hok
   exact⟨its,r,⟨_,n,e,rfl,rfl,rfl⟩,z⟩
 . refine⟨its.toList,r,⟨o,n,I.kIn a o hk,hc,hd,by simpa using hs⟩,?_⟩
   have e:=r.length
   simp only[Array.length_toList]at e
   omega
theorem qu.tuple (I:qu X pins σ H s) (h:SqT X.K H a xs):∃its:List Value,qD xs its/\IsTup s.heap a its.toArray/\xs.length<=sizeLine:=by
 rcases h with h | ⟨o,its,n,hk,hc,hs,hz,r⟩
 . obtain⟨z,its,r,p⟩:=h.ok I.hok
   exact⟨its,r,p,z⟩
 . refine⟨its.toList,r,⟨o,I.kIn a o hk,hc,n,by simpa using hs⟩,?_⟩
   have e:=r.length
   simp only[Array.length_toList]at e
   omega
theorem qu.list_inj (I:qu X pins σ H s) (h:SqL X.K H a xs) (h':SqL X.K H a ys):xs=ys:=by
 obtain⟨its,r,⟨o,n,e,_,_,d⟩,_⟩:=I.list h
 obtain⟨its',r',⟨o',n',e',_,_,d'⟩,_⟩:=I.list h'
 rw[e]at e';cases e'
 rw[d]at d'
 injection d' with d1 _
 have:its=its':=by simpa using congrArg Array.toList d1
 subst this
 exact r.inj r'
theorem qu.tuple_inj (I:qu X pins σ H s) (h:SqT X.K H a xs) (h':SqT X.K H a ys):xs=ys:=by
 obtain⟨its,r,⟨o,e,_,n,d⟩,_⟩:=I.tuple h
 obtain⟨its',r',⟨o',e',_,n',d'⟩,_⟩:=I.tuple h'
 rw[e]at e';cases e'
 rw[d]at d'
 injection d' with d1 _
 have:its=its':=by simpa using congrArg Array.toList d1
 subst this
 exact r.inj r'
end
abbrev Cx.wish (X:Cx) (E:Value->Shared->Prop):Cx:={X with xe:=E}
abbrev Cx.nox (X:Cx):Cx:=X.wish λ_ _=>False
theorem Cx.Ok.wish {X:Cx} (ok:X.Ok) (E:Value->Shared->Prop):(X.wish E).Ok:=
 ⟨ok.mod,ok.kind,ok.glob,ok.blt,ok.above,ok.inj,ok.has,ok.cab,ok.hd,ok.frames,ok.stk,ok.exf,ok.bs,ok.bsz,ok.noex,ok.exfs,ok.funs,ok.frf⟩
theorem Cx.Ok.unwish {X:Cx} {E:Value->Shared->Prop} (ok:(X.wish E).Ok):X.Ok:=
 ⟨ok.mod,ok.kind,ok.glob,ok.blt,ok.above,ok.inj,ok.has,ok.cab,ok.hd,ok.frames,ok.stk,ok.exf,ok.bs,ok.bsz,ok.noex,ok.exfs,ok.funs,ok.frf⟩
section
variable {X:Cx} {pins:List (Addr×Obj)} {σ:St} {H:Hp} {s:Shared} {E:Value->Shared->Prop}
theorem qu.wish (I:qu X pins σ H s) (E:Value->Shared->Prop):qu (X.wish E) pins σ H s:=⟨I.ok.wish E,I.os,I.bare,I.base,I.loc,I.cell,I.free,I.freeC,I.pin,I.hok,I.len⟩
theorem qu.unwish (I:qu (X.wish E) pins σ H s):qu X pins σ H s:=⟨I.ok.unwish,I.os,I.bare,I.base,I.loc,I.cell,I.free,I.freeC,I.pin,I.hok,I.len⟩
theorem SP.unwish {D:Qx} {f:Flow} {s':Shared} (h:SP (X.wish E) pins D f s'):SP X pins D f s':=by
 cases f with
 | next=>obtain⟨σ',H',I,q⟩:=h;exact⟨σ',H',I.unwish,q⟩
 | brk=>obtain⟨σ',H',I,q⟩:=h;exact⟨σ',H',I.unwish,q⟩
 | cont=>obtain⟨σ',H',I,q⟩:=h;exact⟨σ',H',I.unwish,q⟩
 | ret u=>obtain⟨v,σ',H',I,r,q⟩:=h;exact⟨v,σ',H',I.unwish,r,q⟩
theorem vM.nox {st:List Stmt} {t:TS} (h:vM X.nox st t):vM X st t:=λpins s σ H D I hw=>
 wpAny_mono (h pins s σ H D (I.wish _) hw) (λ_ _ q=>q.unwish) λ_ _ z=>False.elim z
end
section
variable {X:Cx} {st:Stmt} {rest:List Stmt} {t u:TS} {e:Expr} {te:TE} {pos:Pos}
def Wn:TS:=λD σ H=>D.nx σ H
def Vc (t u:TS):TS:=λD σ H=>t {D with nx:=u D} σ H
theorem qC:zr X [] Wn:=.of (by
 exact λ_ _ σ H _ I h=>wpAny_execs_nil ⟨σ,H,I,h⟩)
theorem qg (h1:JS X st t) (h2:zr X rest u):zr X (st::rest) (Vc t u):=.of (by
 have h1:=h1.to
 have h2:=h2.to
 intro pins s σ H D I h
 refine wpAny_execs_cons (qY (h1 pins s σ H {D with nx:=u D} I h) λf s1 q=>?_)
 cases f with
 | next=>
   obtain⟨σ',H',I',q⟩:=q
   exact h2 pins s1 σ' H' D I' q
 | ret v=>exact q
 | brk=>exact q
 | cont=>exact q)
theorem qk (h1:JS X st t):zr X [st] t:=.of (by
 have h1:=h1.to
 intro pins s σ H D I h
 refine wpAny_execs_cons (qY (h1 pins s σ H D I h) λf s1 q=>?_)
 cases f with
 | next=>exact wpAny_execs_nil q
 | ret v=>exact q
 | brk=>exact q
 | cont=>exact q)
theorem qu.quiet {pins:List (Addr×Obj)} {σ:St} {H:Hp} {s:Shared} (I:qu X pins σ H s):interactive X.env=false:=by simp [interactive,I.ok.kind]
def yu (te:TE):TS:=λD σ H=>te σ H λ_ H1=>D.nx σ H1
theorem qJ (he:JE X e te) (hs:swapsWith e none pos.line X.env=pure false:=by rfl):JS X (.Expr e pos) (yu te):=.of (by
 have he:=he.to
 intro pins s σ H D I h
 exact wpAny_Expr_any (qY (he pins s σ H _ I h) λv s1 ⟨x,H1,I1,r1,q1⟩=>⟨σ,H1,I1,q1⟩) I.quiet hs)
def Ko (te:TE):TS:=λD σ H=>te σ H D.rt
theorem qM (he:JE X e te):JS X (.Return (some e) pos) (Ko te):=.of (by
 have he:=he.to
 intro pins s σ H D I h
 exact wpAny_Return_some (qY (he pins s σ H _ I h) λv s1 ⟨x,H1,I1,r1,q1⟩=>⟨x,σ,H1,I1,r1,q1⟩))
def vW (c:TT) (t u:TS):TS:=λD σ H=>c σ H λb H1=>if b=true then t D σ H1 else u D σ H1
theorem qL {c:Expr} {a b:List Stmt} {tc:TT} (hc:JT X c tc) (ha:zr X a t) (hb:zr X b u):JS X (.If c a b pos) (vW tc t u):=.of (by
 have hc:=hc.to
 have ha:=ha.to
 have hb:=hb.to
 intro pins s σ H D I h
 refine wpAny_If (qY (hc pins s σ H _ I h) λd s1 ⟨H1,I1,q1⟩=>?_)
 cases d with
 | true=>exact ha pins s1 σ H1 D I1 q1
 | false=>exact hb pins s1 σ H1 D I1 q1)
def Uc:TS:=λ_ _ _=>False
theorem qE {sts:List Stmt}:zr X sts Uc:=.of (by
 exact λ_ _ _ _ _ _ h=>h.elim)
end
abbrev TG:=V->St->Hp->(St->Hp->Prop)->Prop
abbrev V7:=List V->St->Hp->(St->Hp->Prop)->Prop
def PG (X:Cx) (target:Expr) (t:TG):Prop:=
 ∀(pins:List (Addr×Obj)) (s:Shared) (σ:St) (H:Hp) (v:V) (u:Value) (Q:St->Hp->Prop),qu X pins σ H s->qG v u->t v σ H Q->
   wpAny (model X.prog X.w) X.A (assign target X.env u) (λ_ s'=>∃σ' H',qu X pins σ' H' s'/\Q σ' H') X.xe s
@[irreducible] def JG (X:Cx) (target:Expr) (t:TG):Prop:=PG X target t
theorem JG.of {X:Cx} {target:Expr} {t:TG} (h:PG X target t):JG X target t:=by unfold JG;exact h
theorem JG.to {X:Cx} {target:Expr} {t:TG} (h:JG X target t):PG X target t:=by unfold JG at h;exact h
def Gc (X:Cx) (ts:List Expr) (t:V7):Prop:=
 ∀(pins:List (Addr×Obj)) (s:Shared) (σ:St) (H:Hp) (vs:List V) (us:List Value) (Q:St->Hp->Prop),qu X pins σ H s->qD vs us->t vs σ H Q->
   wpAny (model X.prog X.w) X.A (assignInOrder ((assignEach ts X.env).map (·.2)) us) (λ_ s'=>∃σ' H',qu X pins σ' H' s'/\Q σ' H') X.xe s
@[irreducible] def vK (X:Cx) (ts:List Expr) (t:V7):Prop:=Gc X ts t
theorem vK.of {X:Cx} {ts:List Expr} {t:V7} (h:Gc X ts t):vK X ts t:=by unfold vK;exact h
theorem vK.to {X:Cx} {ts:List Expr} {t:V7} (h:vK X ts t):Gc X ts t:=by unfold vK at h;exact h
section
variable {X:Cx} {pos:Pos}
def QI (i:Nat):TG:=λv σ H Q=>Q (σ.set i (some v)) H
theorem qF {i:Nat} {x:Str} (hN:X.N.Nodup) (hi:X.N[i]?=some x) (hx:wu X.env.scope x) (hf:X.fn x=true\/X.env.scope.names.lookup x=some .local:=by first | exact .inl rfl | exact .inr rfl | assumption):JG X (.Name x pos) (QI i):=.of (by
 intro pins s σ H v u Q I r h
 exact wpAny_assign_Name (ZY I hN hi hx r (λs' I'=>⟨_,H,I',h⟩) hf))
def uM:V7:=λvs σ H Q=>vs=[]/\Q σ H
def vv (t:TG) (u:V7):V7:=λvs σ H Q=>∃v r,vs=v::r/\t v σ H λσ' H'=>u r σ' H' Q
theorem ZP:vK X [] uM:=.of (by
 intro pins s σ H vs us Q I r h
 obtain⟨e,h⟩:=h
 subst e
 cases r
 exact assignInOrder_nil ⟨σ,H,I,h⟩)
theorem j9 {e:Expr} {es:List Expr} {t:TG} {u:V7} (h1:JG X e t) (h2:vK X es u) (hs:(assignEach (e::es) X.env).map (·.2)=assign e X.env::(assignEach es X.env).map (·.2):=by rfl):vK X (e::es) (vv t u):=.of (by
 have h1:=h1.to
 have h2:=h2.to
 intro pins s σ H vs us Q I r h
 obtain⟨v,vr,e1,h⟩:=h
 subst e1
 cases r with
 | cons r rr=>
   rw[hs]
   refine assignInOrder_cons (qY (h1 pins s σ H _ _ _ I r h) λ_ s1 ⟨σ1,H1,I1,q1⟩=>?_)
   exact h2 pins s1 σ1 H1 _ _ Q I1 rr q1)
def uK (K:PySem.W.Frag) (n:Nat) (t:V7):TG:=λv σ H Q=>∃a xs,v=.ref a/\SqT K H a xs/\xs.length=n/\t xs σ H Q
theorem X4 {es:List Expr} {k:Nat} {t:V7} {n:Nat} (hc:X.calm=true) (h:vK X es t) (hn:(assignEach es X.env).length=n:=by rfl) (hst:(assignEach es X.env).findIdx? (·.1)=none:=by rfl):JG X (.Tuple es k pos) (uK X.K n t):=.of (by
 have h:=h.to
 intro pins s σ H v u Q I r hw
 obtain⟨a,xs,e1,hq,hl,hw⟩:=hw
 subst e1
 cases r
 obtain⟨its,rv,ht,hz⟩:=I.tuple hq
 refine assign_Tuple_tuple (I.ok.hd hc) ht (by simp [hn,<-hl,rv.length]) hst λh' hx=>?_
 have I1:qu X pins σ H {s with heap:=h'}:=I.kept (t':=s.toks) λb o e=>hx b o (Nat.ne_of_lt (Heap.lt_size e)) e
 exact h pins _ σ H xs _ Q I1 (by simpa using rv) hw)
def YM (te:TE) (g:TG):TS:=λD σ H=>te σ H λx H1=>g x σ H1 D.nx
theorem xO {tg e:Expr} {te:TE} {g:TG} (he:JE X e te) (hg:JG X tg g) (hs:swapsWithSole [tg] e pos.line X.env=pure false:=by rfl) (hw:swappedStores [tg] e X.env=pure none:=by rfl) (h1:(assignEach [tg] X.env).map (·.2)=[assign tg X.env]:=by rfl):JS X (.Assign [tg] e pos) (YM te g):=.of (by
 have he:=he.to
 have hg:=hg.to
 intro pins s σ H D I h
 refine wpAny_Assign_stores (qY (he pins s σ H _ I h) λv s1 ⟨x,H1,I1,r1,q1⟩=>?_) hs hw
 rw[h1]
 exact qY (hg pins s1 σ H1 x v _ I1 r1 q1) λ_ s2 q=>q)
theorem qA {i:Nat} {x:Str} {e:Expr} {te:TE} {pos':Pos} (hN:X.N.Nodup) (hi:X.N[i]?=some x) (hx:wu X.env.scope x) (he:JE X e te) (hs:swapsWith e (some (.Name x pos')) pos.line X.env=pure false:=by rfl) (hf:X.fn x=true\/X.env.scope.names.lookup x=some .local:=by first | exact .inl rfl | exact .inr rfl | assumption):JS X (.Assign [.Name x pos'] e pos) (YM te (QI i)):=.of (by
 have he:=he.to
 intro pins s σ H D I h
 refine wpAny_Assign_Name (qY (he pins s σ H _ I h) λv s1 ⟨y,H1,I1,r1,q1⟩=>?_) hs
 exact ZY I1 hN hi hx r1 (λs2 I2=>⟨_,H1,I2,q1⟩) hf)
end
section
variable {X:Cx} {pos:Pos}
def Ub (c:TT) (tb:TS):TS:=λD σ H=>∃W:Nat->St->Hp->Prop,(∃m,W m σ H)/\∀m σ H,W m σ H->
 c σ H λb H1=>if b=true then ∃N:St->Hp->Prop,(∀σ' H',N σ' H'->∃m',m' < m/\W m' σ' H')/\tb {D with nx:=N,ct:=N,bk:=D.nx} σ H1 else D.nx σ H1
theorem U8 {c:Expr} {body:List Stmt} {tc:TT} {tb:TS} (hp:PassesOwn (model X.prog X.w) X.A X.env X.xe) (hc:JT X c tc) (hb:zr X body tb):JS X (.While c body [] pos) (Ub tc tb):=.of (by
 have hc:=hc.to
 have hb:=hb.to
 intro pins s σ H D I h
 obtain⟨W,⟨m0,w0⟩,turn⟩:=h
 refine wpAny_While (codeAny_whileLoop (λn s'=>∃σ' H',qu X pins σ' H' s'/\W n σ' H') ?_ m0 ⟨σ,H,I,w0⟩)
 rintro n s1 ⟨σ1,H1,I1,w1⟩
 refine wpAny_passesOwn hp (qY (hc pins s1 σ1 H1 _ I1 (turn n σ1 H1 w1)) λb s2 ⟨H2,I2,q2⟩=>?_)
 cases b with
 | true=>
   obtain⟨N,hN,q2⟩:=q2
   rw[if_pos rfl]
   refine wpAny_passesOwn hp (qY (hb pins s2 σ1 H2 _ I2 q2) λf s3 q3=>?_)
   cases f with
   | next=>
     obtain⟨σ3,H3,I3,n3⟩:=q3
     obtain⟨m',hm,w3⟩:=hN σ3 H3 n3
     exact⟨m',hm,σ3,H3,I3,w3⟩
   | cont=>
     obtain⟨σ3,H3,I3,n3⟩:=q3
     obtain⟨m',hm,w3⟩:=hN σ3 H3 n3
     exact⟨m',hm,σ3,H3,I3,w3⟩
   | brk=>exact q3
   | ret v=>exact q3
 | false=>
   rw[if_neg Bool.false_ne_true]
   exact wpAny_execs_nil ⟨σ1,H2,I2,q2⟩)
end
structure It where
 go:Nat->Hp->Prop
 yld:Nat->Hp->V->Hp->Prop
 stop:Nat->Hp->Prop
def JJ (X:Cx) (pins:List (Addr×Obj)) (H:Hp) (b:Addr):Prop:=
 H b=none/\b≠X.env.locals/\b∉X.fs/\(b∈X.ex\/X.s₀.heap.objs.size<=b)/\(∀x c,X.env.cells.lookup x=some c->c≠b)/\∀p∈X.pn++pins,p.1≠b
theorem qu.fpOk {X:Cx} {pins:List (Addr×Obj)} {σ:St} {H H':Hp} {s:Shared} {b:Addr} (I:qu X pins σ H s) (hb:s.heap.objs.size<=b) (hn:H' b=none):JJ X pins H' b:=by
 refine⟨hn,Nat.ne_of_gt (Nat.lt_of_lt_of_le I.lt hb),I.nofs hb,.inr (Nat.le_trans I.sz hb),λx c e z=>?_,λp hp z=>?_⟩
 . obtain⟨v,q⟩:=I.cell x c e
   exact absurd (Nat.lt_of_lt_of_le q.lt (by rw[z];exact hb)) (Nat.lt_irrefl _)
 . exact absurd (Nat.lt_of_lt_of_le (Heap.lt_size (I.pin p hp).1) (by rw[z];exact hb)) (Nat.lt_irrefl _)
structure Wd (P:Program) (w:World) (K:PySem.W.Frag) (tg:Expr) (J:It) (fp:List Addr) (it:Addr) (tn:Nat->Heap->Prop):Prop where
 mem:it∈fp
 obj:∀i h,tn i h->∀b∈fp,∃o,h.get? b=some o/\∀v,o.data≠.cell v
 keep:∀i h h',tn i h->(∀b∈fp,∀o,h.get? b=some o->h'.get? b=some o)->tn i h'
 item:∀(X:Cx),X.prog=P->X.w=w->X.K=K->X.calm=true->∀(i:Nat) (pins:List (Addr×Obj)) (s:Shared) (σ:St) (H:Hp) (E:Value->Shared->Prop),qu X pins σ H s->(∀b∈fp,JJ X pins H b)->tn i s.heap->J.go i H->
   wpAny (model P w) X.A (pyNext (.ref it)) (λr s1=>∃u,r=some u/\
     wpAny (model P w) X.A (letOwnedTupleGo tg (.ref it) u) (λ_ s2=>∃x H',qu X pins σ H' s2/\qG x u/\J.yld i H x H'/\tn (i+1) s2.heap/\∀b∈fp,H' b=none) E s1) E s
 done:∀(X:Cx),X.prog=P->X.w=w->X.K=K->X.calm=true->∀(i:Nat) (pins:List (Addr×Obj)) (s:Shared) (σ:St) (H:Hp) (E:Value->Shared->Prop),qu X pins σ H s->(∀b∈fp,JJ X pins H b)->tn i s.heap->J.stop i H->
   wpAny (model P w) X.A (pyNext (.ref it)) (λr s1=>r=none/\qu X pins σ H s1) E s
 self:∀(A:Around) (i:Nat) (s:Shared) (Q:Value->Shared->Prop) (E:Value->Shared->Prop),tn i s.heap->Q (.ref it) s->wpAny (model P w) A (pyIter (.ref it)) Q E s
abbrev TI:=St->Hp->(It->Hp->Prop)->Prop
def PIE (X:Cx) (pins:List (Addr×Obj)) (σ:St) (tg:Expr) (R:It->Hp->Prop) (itv:Value) (s2:Shared):Prop:=
 ∃(it:Addr) (fp:List Addr) (tn:Nat->Heap->Prop) (J:It) (H':Hp),itv=.ref it/\qu X pins σ H' s2/\Wd X.prog X.w X.K tg J fp it tn/\tn 0 s2.heap/\(∀b∈fp,JJ X pins H' b)/\R J H'
def PI (X:Cx) (tg iter:Expr) (wi:TI):Prop:=
 ∀(pins:List (Addr×Obj)) (s:Shared) (σ:St) (H:Hp) (R:It->Hp->Prop),qu X pins σ H s->wi σ H R->
   wpAny (model X.prog X.w) X.A (eval iter X.env) (λv s1=>wpAny (model X.prog X.w) X.A (pyIter v) (PIE X pins σ tg R) X.xe s1) X.xe s
@[irreducible] def JI (X:Cx) (tg iter:Expr) (wi:TI):Prop:=PI X tg iter wi
theorem JI.of {X:Cx} {tg iter:Expr} {wi:TI} (h:PI X tg iter wi):JI X tg iter wi:=by unfold JI;exact h
theorem JI.to {X:Cx} {tg iter:Expr} {wi:TI} (h:JI X tg iter wi):PI X tg iter wi:=by unfold JI at h;exact h
theorem WU {M:Model} {A:Around} {E:Value->Shared->Prop} {s:Shared} {tg:Expr} {it:Addr} {u:Value} {o:Obj} {n:String} {vs:Array Value} {Q:Unit->Shared->Prop} (ho:s.heap.get? it=some o) (hc:o.cls=.type n) (hd:o.data=.fields vs)
   (hn:["enumerate","zip","dict_itemiterator","dict_reverseitemiterator","odict_iterator","itertools.zip_longest","itertools.pairwise"].contains n=false) (hQ:Q () s):wpAny M A (letOwnedTupleGo tg (.ref it) u) Q E s:=by
 unfold letOwnedTupleGo
 cases tg<;>first
   | exact wpAny_pure hQ
   | (cases u<;>first
       | exact wpAny_pure hQ
       | (refine wpAny_bind (wpAny_load ho ?_)
          rw[hc,hd]
          show wpAny M A (if (["enumerate","zip","dict_itemiterator","dict_reverseitemiterator","odict_iterator","itertools.zip_longest","itertools.pairwise"].contains n&&vs[0]?==some (rawInt _))=true then _ else _) Q E s
          rw[if_neg (by intro h;rw[hn,Bool.false_and]at h;cases h)]
          exact wpAny_pure hQ))
def wx (K:PySem.W.Frag) (a:Addr):It:=
 ⟨λi H=>∃xs x,SqL K H a xs/\xs[i]?=some x,λi H x H'=>H'=H/\∀xs,SqL K H a xs->xs[i]?=some x,λi H=>∃xs,SqL K H a xs/\xs.length<=i⟩
def wv (K:PySem.W.Frag) (a:Addr):It:=
 ⟨λi H=>∃xs x,SqT K H a xs/\xs[i]?=some x,λi H x H'=>H'=H/\∀xs,SqT K H a xs->xs[i]?=some x,λi H=>∃xs,SqT K H a xs/\xs.length<=i⟩
def we (lo:Int) (n:Nat):It:=⟨λi _=>i < n,λi H x H'=>H'=H/\x=.int (lo+i),λi _=>n<=i⟩
theorem W9 {P:Program} {w:World} {K:PySem.W.Frag} {tg:Expr} (a it:Addr):Wd P w K tg (wx K a) [it] it (λi h=>h.IsListIter it a i) where
 mem:=by simp
 obj:=λi h st b hb=>by
   have e:b=it:=by simpa using hb
   subst e
   obtain⟨o,e,c,d⟩:=st
   exact⟨o,e,λv z=>by rw[d]at z;cases z⟩
 keep:=λi h h' st k=>st.at λo e=>k it (by simp) o e
 item:=by
   intro X hP hw hK hc i pins s σ H E I hf st hg
   subst hP hw hK
   obtain⟨xs,x,hq,hx⟩:=hg
   obtain⟨its,rv,p,hz⟩:=I.list hq
   obtain⟨u,hu,ru⟩:=rv.get hx
   obtain⟨f0,f1,f2,f3,f4,f5⟩:=hf it (by simp)
   refine wpAny_pyNext_list_item st p.isList (x:=u) (by simpa using hu) λh' st' sb=>?_
   have I1:qu X pins σ H {s with heap:=h'}:=I.turned (t':=s.toks) (λb o hb e=>(sb.2 b hb).trans e) f0 f1 f3 f4 f5
   obtain⟨o,e,c,d⟩:=id st'
   exact⟨u,rfl,WU (s:={s with heap:=h'}) e c d (by decide) ⟨x,H,I1,ru,⟨rfl,λys hy=>by rw[I.list_inj hy hq];exact hx⟩,st',λb hb=>(hf b hb).1⟩⟩
 done:=by
   intro X hP hw hK hc i pins s σ H E I hf st hg
   subst hP hw hK
   obtain⟨xs,hq,hx⟩:=hg
   obtain⟨its,rv,p,hz⟩:=I.list hq
   obtain⟨f0,f1,f2,f3,f4,f5⟩:=hf it (by simp)
   have hl:=rv.length
   exact wpAny_pyNext_list_end (I.ok.hd hc) st p.isList (by simp;omega) λh' eb=>⟨rfl,I.turned (t':=s.toks) (λb o hb e=>eb b o hb e) f0 f1 f3 f4 f5⟩
 self:=λ_ _ _ _ _ st h=>wpAny_pyIter_listiter st h
theorem Xv {P:Program} {w:World} {K:PySem.W.Frag} {tg:Expr} (a it:Addr):Wd P w K tg (wv K a) [it] it (λi h=>h.IsTupleIter it a i) where
 mem:=by simp
 obj:=λi h st b hb=>by
   have e:b=it:=by simpa using hb
   subst e
   obtain⟨o,e,c,d⟩:=st
   exact⟨o,e,λv z=>by rw[d]at z;cases z⟩
 keep:=λi h h' st k=>st.at λo e=>k it (by simp) o e
 item:=by
   intro X hP hw hK hc i pins s σ H E I hf st hg
   subst hP hw hK
   obtain⟨xs,x,hq,hx⟩:=hg
   obtain⟨its,rv,p,hz⟩:=I.tuple hq
   obtain⟨u,hu,ru⟩:=rv.get hx
   obtain⟨f0,f1,f2,f3,f4,f5⟩:=hf it (by simp)
   refine wpAny_pyNext_tuple_item st (show s.heap.IsTuple a its.toArray from p) (x:=u) (by simpa using hu) λh' st' sb=>?_
   have I1:qu X pins σ H {s with heap:=h'}:=I.turned (t':=s.toks) (λb o hb e=>(sb.2 b hb).trans e) f0 f1 f3 f4 f5
   obtain⟨o,e,c,d⟩:=id st'
   exact⟨u,rfl,WU (s:={s with heap:=h'}) e c d (by decide) ⟨x,H,I1,ru,⟨rfl,λys hy=>by rw[I.tuple_inj hy hq];exact hx⟩,st',λb hb=>(hf b hb).1⟩⟩
 done:=by
   intro X hP hw hK hc i pins s σ H E I hf st hg
   subst hP hw hK
   obtain⟨xs,hq,hx⟩:=hg
   obtain⟨its,rv,p,hz⟩:=I.tuple hq
   obtain⟨f0,f1,f2,f3,f4,f5⟩:=hf it (by simp)
   have hl:=rv.length
   exact wpAny_pyNext_tuple_end (I.ok.hd hc) st (show s.heap.IsTuple a its.toArray from p) (by simp;omega) λh' eb=>⟨rfl,I.turned (t':=s.toks) (λb o hb e=>eb b o hb e) f0 f1 f3 f4 f5⟩
 self:=λ_ _ _ _ _ st h=>wpAny_pyIter_tupleiter st h
theorem Xw {P:Program} {w:World} {K:PySem.W.Frag} {tg:Expr} (it:Addr) (lo:Int) (n:Nat):Wd P w K tg (we lo n) [it] it (λi h=>IsRangeIter h it (lo+(i:Nat)*1) ((n:Int) - (i:Nat)) 1) where
 mem:=by simp
 obj:=λi h st b hb=>by
   have e:b=it:=by simpa using hb
   subst e
   exact⟨_,st,λv z=>by
     have z':Data.fields _=Data.cell v:=z
     cases z'⟩
 keep:=λi h h' st k=>k it (by simp) _ st
 item:=by
   intro X hP hw hK hc i pins s σ H E I hf st hg
   subst hP hw hK
   obtain⟨f0,f1,f2,f3,f4,f5⟩:=hf it (by simp)
   have W:=Walks.range (prog:=X.prog) (w:=X.w) (I.ok.hd hc) it lo 1 n
   refine W.item i s _ _ hg st λv h' tk hv st' kk=>?_
   obtain⟨t,rfl⟩:=hv
   have I1:qu X pins σ H {s with heap:=h',toks:=tk}:=I.turned (λb o hb e=>kk b o (by simpa using hb) e) f0 f1 f3 f4 f5
   refine⟨_,rfl,WU (s:={s with heap:=h',toks:=tk}) (n:="range_iterator") st' rfl rfl (by decide) ⟨.int (lo+i),H,I1,⟨t,?_⟩,⟨rfl,rfl⟩,st',λb hb=>(hf b hb).1⟩⟩
   rw[Int.mul_one]
 done:=by
   intro X hP hw hK hc i pins s σ H E I hf st hg
   subst hP hw hK
   obtain⟨f0,f1,f2,f3,f4,f5⟩:=hf it (by simp)
   exact wpAny_pyNext_range_end (I.ok.hd hc) st (by have:n<=i:=hg;omega) λh' eb=>⟨rfl,I.turned (t':=s.toks) (λb o hb e=>eb b o hb e) f0 f1 f3 f4 f5⟩
 self:=λ_ _ _ _ _ st h=>wpAny_pyIter_rangeiter st h
end L2
namespace L2
open PySem PySem.Spec PyProof.Rows
section
variable {X:Cx} {tg:Expr}
def yQ (K:PySem.W.Frag) (tl:TE):TI:=λσ H R=>tl σ H λx H1=>∃a,x=.ref a/\(∃xs,SqL K H1 a xs)/\R (wx K a) H1
def K5 (K:PySem.W.Frag) (tl:TE):TI:=λσ H R=>tl σ H λx H1=>∃a,x=.ref a/\(∃xs,SqT K H1 a xs)/\R (wv K a) H1
theorem jC {l:Expr} {tl:TE} (hl:JE X l tl):JI X tg l (yQ X.K tl):=.of (by
 have hl:=hl.to
 intro pins s σ H R I h
 refine qY (hl pins s σ H _ I h) λv s1 ⟨x,H1,I1,r1,q1⟩=>?_
 obtain⟨a,e,⟨xs,hq⟩,q⟩:=q1
 subst e
 cases r1
 obtain⟨its,rv,p,hz⟩:=I1.list hq
 refine wpAny_pyIter_list p.isList ?_
 refine⟨s1.heap.objs.size,[s1.heap.objs.size],_,_,H1,rfl,I1.kept (t':=s1.toks) λb o e=>Heap.get?_push_of_some _ e,W9 a _,⟨_,Heap.get?_push_size _ rfl,rfl,rfl⟩,λb hb=>?_,q⟩
 have e:b=s1.heap.objs.size:=by simpa using hb
 subst e
 exact I1.fpOk (Nat.le_refl _) (I1.hok.fresh (Nat.le_refl _)))
theorem vb {l:Expr} {tl:TE} (hl:JE X l tl):JI X tg l (K5 X.K tl):=.of (by
 have hl:=hl.to
 intro pins s σ H R I h
 refine qY (hl pins s σ H _ I h) λv s1 ⟨x,H1,I1,r1,q1⟩=>?_
 obtain⟨a,e,⟨xs,hq⟩,q⟩:=q1
 subst e
 cases r1
 obtain⟨its,rv,p,hz⟩:=I1.tuple hq
 refine wpAny_pyIter_tuple (show s1.heap.IsTuple a its.toArray from p) ?_
 refine⟨s1.heap.objs.size,[s1.heap.objs.size],_,_,H1,rfl,I1.kept (t':=s1.toks) λb o e=>Heap.get?_push_of_some _ e,Xv a _,⟨_,Heap.get?_push_size _ rfl,rfl,rfl⟩,λb hb=>?_,q⟩
 have e:b=s1.heap.objs.size:=by simpa using hb
 subst e
 exact I1.fpOk (Nat.le_refl _) (I1.hok.fresh (Nat.le_refl _)))
theorem UB {pins:List (Addr×Obj)} {σ:St} {H:Hp} {s:Shared} {R:It->Hp->Prop} {E:Value->Shared->Prop} {lo hi:Int} {t u v:Tok} {tk:Nat} (I:qu X pins σ H s) (h1:-(2^62)<=lo) (h2:lo < 2^62) (h3:-(2^62)<=hi) (h4:hi < 2^62)
   (q:R (we lo (hi - lo).toNat) H):wpAny (model X.prog X.w) X.A (pyIter (.ref s.heap.objs.size)) (PIE X pins σ tg R) E {s with heap:=s.heap.push {cls:=.type "range",data:=.fields #[.int lo t,.int hi u,.int 1 v]},toks:=tk}:=by
 refine wpAny_pyIter_range (IsRange.new ..) (small_one h1 h2 h3 h4) ?_
 have I1:qu X pins σ H {s with heap:=s.heap.push {cls:=.type "range",data:=.fields #[.int lo t,.int hi u,.int 1 v]},toks:=tk}:=I.kept λb o e=>Heap.get?_push_of_some _ e
 refine⟨(s.heap.push {cls:=.type "range",data:=.fields #[.int lo t,.int hi u,.int 1 v]}).objs.size,[(s.heap.push {cls:=.type "range",data:=.fields #[.int lo t,.int hi u,.int 1 v]}).objs.size],_,_,H,rfl,
   I1.kept (t':=tk) λb o e=>Heap.get?_push_of_some _ e,Xw _ lo (hi - lo).toNat,?_,λb hb=>?_,q⟩
 . have e1:lo+((0:Nat):Int)*1=lo:=by simp
   have e2:(((hi - lo).toNat:Nat):Int) - ((0:Nat):Int)=Builtin.Range.rangeSize lo hi 1:=by rw[rangeSize_one];split<;>omega
   show IsRangeIter _ _ (lo+((0:Nat):Int)*1) ((((hi - lo).toNat:Nat):Int) - ((0:Nat):Int)) 1
   rw[e1,e2]
   exact Heap.get?_push_size _ rfl
 . have e:b=(s.heap.push {cls:=.type "range",data:=.fields #[.int lo t,.int hi u,.int 1 v]}).objs.size:=by simpa using hb
   subst e
   exact I1.fpOk (Nat.le_refl _) (I1.hok.fresh (Nat.le_refl _))
def uH (ta:TA):TI:=λσ H R=>ta σ H λvs H1=>∃j:Int,vs=[.int j]/\-(2^62)<=j/\j < 2^62/\R (we 0 j.toNat) H1
theorem jB {a:Expr} {ta:TA} {p pos:Pos} (hg:Gl X "range") (hm:X.mg "range"=none) (ha:JA X [a] ta) (hs:starEach [a] X.env=[(false,eval a X.env)]:=by rfl):JI X tg (.Call (.Name "range" p) [a] [] pos) (uH ta):=.of (by
 have ha:=ha.to
 intro pins s σ H R I h
 refine Call_ (Qt I hg hm boot_range (PyProof.Rows.callWith_type1 (qY (ha pos pins s σ H _ I h) λus s1 ⟨vs,H1,I1,r1,q1⟩=>?_) hs rfl))
 obtain⟨j,e,q1,q2,q⟩:=q1
 subst e
 cases r1 with
 | cons r rr=>
   cases rr
   obtain⟨t,rfl⟩:=r
   exact call_range_1 (UB I1 (by omega) (by omega) q1 q2 (by simpa using q)))
def wG (wi:TI) (g:TG) (tb:TS):TS:=λD σ H=>wi σ H λJ H1=>∃W:Nat->Nat->St->Hp->Prop,(∃m,W 0 m σ H1)/\∀i m σ H,W i m σ H->
 (J.stop i H/\D.nx σ H)\/(J.go i H/\∃N:St->Hp->Prop,(∀σ' H',N σ' H'->∃m',m' < m/\W (i+1) m' σ' H')/\∀x H',J.yld i H x H'->g x σ H' λσ2 H2=>tb {D with nx:=N,ct:=N,bk:=D.nx} σ2 H2)
def Z9 (fp:List Addr) (h:Heap):List (Addr×Obj):=fp.filterMap λb=>(h.get? b).map λo=>(b,o)
theorem QO {fp:List Addr} {h:Heap} {b:Addr} {o:Obj} (hb:b∈fp) (e:h.get? b=some o):(b,o)∈Z9 fp h:=List.mem_filterMap.mpr ⟨b,hb,by rw[e];rfl⟩
theorem VC {fp:List Addr} {h:Heap} {p:Addr×Obj} (hp:p∈Z9 fp h):p.1∈fp/\h.get? p.1=some p.2:=by
 obtain⟨b,hb,e⟩:=List.mem_filterMap.mp hp
 cases q:h.get? b with
 | none=>rw[q]at e;cases e
 | some o=>
   rw[q]at e
   have e':(b,o)=p:=Option.some.inj e
   subst e'
   exact⟨hb,q⟩
theorem qu.pinned {pins:List (Addr×Obj)} {σ:St} {H:Hp} {s:Shared} {fp:List Addr} (I:qu X pins σ H s) (hf:∀b∈fp,JJ X pins H b) (ho:∀b∈fp,∃o,s.heap.get? b=some o/\∀v,o.data≠.cell v):qu X (pins++Z9 fp s.heap) σ H s:=
 I.pins_of λp hp=>(List.mem_append.mp hp).elim (λz=>I.pin p (List.mem_append_right _ z)) λz=>by
   obtain⟨hb,e⟩:=VC z
   obtain⟨f0,f1,f2,_⟩:=hf p.1 hb
   obtain⟨o,e',d⟩:=ho p.1 hb
   rw[e]at e';cases e'
   exact⟨e,f0,f1,f2,d⟩
theorem qu.unpinned {pins pl:List (Addr×Obj)} {σ:St} {H:Hp} {s:Shared} (I:qu X (pins++pl) σ H s):qu X pins σ H s:=I.pins_of λp hp=>I.pin p (List.mem_append_right _ (List.mem_append_left _ hp))
theorem jJ {iter:Expr} {body:List Stmt} {wi:TI} {g:TG} {tb:TS} {pos:Pos} (hp:PassesOwn (model X.prog X.w) X.A X.env X.xe) (hc:X.calm=true) (hi:JI X tg iter wi) (hg:JG X tg g) (hb:zr X body tb) (hs:∀x,foldedSetIterable iter X.env x=pure x:=by intro _;rfl):JS X (.For tg iter body [] pos) (wG wi g tb):=.of (by
 have hi:=hi.to
 have hg:=hg.to
 have hb:=hb.to
 intro pins s σ H D I h
 refine wpAny_For (qY (hi pins s σ H _ I h) λv s1 h1=>qY h1 λitv s2 h2=>?_) hs
 obtain⟨it,fp,tn,J,H2,e,I2,T,st2,f2,W,⟨m0,w0⟩,turn⟩:=h2
 subst e
 have stat:∀{H':Hp},(∀b∈fp,H' b=none)->∀b∈fp,JJ X pins H' b:=λhn b hb=>⟨hn b hb,(f2 b hb).2⟩
 refine codeAny_forLoop_any (λn s'=>∃i σ' H',qu X pins σ' H' s'/\tn i s'.heap/\(∀b∈fp,H' b=none)/\W i n σ' H') ?_ m0 ⟨0,σ,H2,I2,st2,λb hb=>(f2 b hb).1,w0⟩
 rintro n s3 ⟨i,σ3,H3,I3,st3,fr3,w3⟩
 rcases turn i n σ3 H3 w3 with ⟨stop,qn⟩ | ⟨go,N,hN,step⟩
 . refine wpAny_passesOwn hp (qY (T.done X rfl rfl rfl hc i pins s3 σ3 H3 X.xe I3 (stat fr3) st3 stop) λr s4 ⟨hr,I4⟩=>?_)
   subst hr
   exact wpAny_execs_nil ⟨σ3,H3,I4,qn⟩
 . refine wpAny_passesOwn hp (qY (T.item X rfl rfl rfl hc i pins s3 σ3 H3 X.xe I3 (stat fr3) st3 go) λr s4 ⟨u,hr,h4⟩=>?_)
   subst hr
   refine wpAny_passesOwn hp (qY h4 λ_ s5 ⟨x,H5,I5,r5,y5,st5,fr5⟩=>?_)
   have I5':=I5.pinned (stat fr5) (T.obj _ _ st5)
   refine wpAny_passesOwn hp (qY (hg _ s5 σ3 H5 x u _ I5' r5 (step x H5 y5)) λ_ s6 ⟨σ6,H6,I6,q6⟩=>?_)
   refine wpAny_passesOwn hp (qY (hb _ s6 σ6 H6 _ I6 q6) λf s7 q7=>?_)
   have again:∀{σ7:St} {H7:Hp},qu X (pins++Z9 fp s5.heap) σ7 H7 s7->N σ7 H7->∃m,m < n/\∃i σ' H',qu X pins σ' H' s7/\tn i s7.heap/\(∀b∈fp,H' b=none)/\W i m σ' H':=λ{σ7 H7} I7 n7=>by
     obtain⟨m',hm,w7⟩:=hN σ7 H7 n7
     refine⟨m',hm,i+1,σ7,H7,I7.unpinned,T.keep _ _ _ st5 λb hb o e=>(I7.pin (b,o) (List.mem_append_right _ (List.mem_append_right _ (QO hb e)))).1,λb hb=>?_,w7⟩
     obtain⟨o,e,d⟩:=T.obj _ _ st5 b hb
     exact(I7.pin (b,o) (List.mem_append_right _ (List.mem_append_right _ (QO hb e)))).2.1
   cases f with
   | next=>obtain⟨σ7,H7,I7,n7⟩:=q7;exact again I7 n7
   | cont=>obtain⟨σ7,H7,I7,n7⟩:=q7;exact again I7 n7
   | brk=>obtain⟨σ7,H7,I7,q7⟩:=q7;exact⟨σ7,H7,I7.unpinned,q7⟩
   | ret v=>obtain⟨x7,σ7,H7,I7,r7,q7⟩:=q7;exact⟨x7,σ7,H7,I7.unpinned,r7,q7⟩)
end
theorem QJ {K:PySem.W.Frag} {a:Addr} {xs:List V} {g:TG} {tb:TS} {D:Qx} {σ:St} {H:Hp} (Pv:Nat->St->Hp->Prop) (h0:Pv 0 σ H) (hl:∀i σ H,i<=xs.length->Pv i σ H->SqL K H a xs)
   (hs:∀i x σ H,xs[i]?=some x->Pv i σ H->g x σ H λσ2 H2=>tb {D with nx:=Pv (i+1),ct:=Pv (i+1),bk:=D.nx} σ2 H2) (hd:∀σ H,Pv xs.length σ H->D.nx σ H):
   ∃W:Nat->Nat->St->Hp->Prop,(∃m,W 0 m σ H)/\∀i m σ H,W i m σ H->
    ((wx K a).stop i H/\D.nx σ H)\/((wx K a).go i H/\∃N:St->Hp->Prop,(∀σ' H',N σ' H'->∃m',m' < m/\W (i+1) m' σ' H')/\∀x H',(wx K a).yld i H x H'->g x σ H' λσ2 H2=>tb {D with nx:=N,ct:=N,bk:=D.nx} σ2 H2):=by
 refine⟨λi m σ H=>m=xs.length - i/\i<=xs.length/\Pv i σ H,⟨xs.length,by simp,Nat.zero_le _,h0⟩,?_⟩
 rintro i m σ H ⟨rfl,hi,p⟩
 have q:=hl i σ H hi p
 by_cases hlt:i < xs.length
 . refine .inr ⟨⟨xs,xs[i],q,by simp [hlt]⟩,Pv (i+1),λσ' H' p'=>⟨xs.length - (i+1),by omega,rfl,hlt,p'⟩,λx H' y=>?_⟩
   obtain⟨e,y⟩:=y
   subst e
   exact hs i x σ _ (y xs q) p
 . have e:i=xs.length:=by omega
   subst e
   exact .inl ⟨⟨xs,q,Nat.le_refl _⟩,hd σ H p⟩
theorem yc {K:PySem.W.Frag} {a:Addr} {xs:List V} {g:TG} {tb:TS} {D:Qx} {σ:St} {H:Hp} (Pv:Nat->St->Hp->Prop) (h0:Pv 0 σ H) (hl:∀i σ H,i<=xs.length->Pv i σ H->SqT K H a xs)
   (hs:∀i x σ H,xs[i]?=some x->Pv i σ H->g x σ H λσ2 H2=>tb {D with nx:=Pv (i+1),ct:=Pv (i+1),bk:=D.nx} σ2 H2) (hd:∀σ H,Pv xs.length σ H->D.nx σ H):
   ∃W:Nat->Nat->St->Hp->Prop,(∃m,W 0 m σ H)/\∀i m σ H,W i m σ H->
    ((wv K a).stop i H/\D.nx σ H)\/((wv K a).go i H/\∃N:St->Hp->Prop,(∀σ' H',N σ' H'->∃m',m' < m/\W (i+1) m' σ' H')/\∀x H',(wv K a).yld i H x H'->g x σ H' λσ2 H2=>tb {D with nx:=N,ct:=N,bk:=D.nx} σ2 H2):=by
 refine⟨λi m σ H=>m=xs.length - i/\i<=xs.length/\Pv i σ H,⟨xs.length,by simp,Nat.zero_le _,h0⟩,?_⟩
 rintro i m σ H ⟨rfl,hi,p⟩
 have q:=hl i σ H hi p
 by_cases hlt:i < xs.length
 . refine .inr ⟨⟨xs,xs[i],q,by simp [hlt]⟩,Pv (i+1),λσ' H' p'=>⟨xs.length - (i+1),by omega,rfl,hlt,p'⟩,λx H' y=>?_⟩
   obtain⟨e,y⟩:=y
   subst e
   exact hs i x σ _ (y xs q) p
 . have e:i=xs.length:=by omega
   subst e
   exact .inl ⟨⟨xs,q,Nat.le_refl _⟩,hd σ H p⟩
theorem Qi {lo:Int} {n:Nat} {g:TG} {tb:TS} {D:Qx} {σ:St} {H:Hp} (Pv:Nat->St->Hp->Prop) (h0:Pv 0 σ H)
   (hs:∀i σ H,i < n->Pv i σ H->g (.int (lo+i)) σ H λσ2 H2=>tb {D with nx:=Pv (i+1),ct:=Pv (i+1),bk:=D.nx} σ2 H2) (hd:∀σ H,Pv n σ H->D.nx σ H):
   ∃W:Nat->Nat->St->Hp->Prop,(∃m,W 0 m σ H)/\∀i m σ H,W i m σ H->
    ((we lo n).stop i H/\D.nx σ H)\/((we lo n).go i H/\∃N:St->Hp->Prop,(∀σ' H',N σ' H'->∃m',m' < m/\W (i+1) m' σ' H')/\∀x H',(we lo n).yld i H x H'->g x σ H' λσ2 H2=>tb {D with nx:=N,ct:=N,bk:=D.nx} σ2 H2):=by
 refine⟨λi m σ H=>m=n - i/\i<=n/\Pv i σ H,⟨n,by simp,Nat.zero_le _,h0⟩,?_⟩
 rintro i m σ H ⟨rfl,hi,p⟩
 by_cases hlt:i < n
 . refine .inr ⟨hlt,Pv (i+1),λσ' H' p'=>⟨n - (i+1),by omega,rfl,hlt,p'⟩,λx H' y=>?_⟩
   obtain⟨e,y⟩:=y
   subst e y
   exact hs i σ _ hlt p
 . have e:i=n:=by omega
   subst e
   exact .inl ⟨Nat.le_refl _,hd σ H p⟩
end L2
namespace L2
open PySem PySem.Spec PyProof.Rows
abbrev R2:=V->V->Hp->VK->Prop
def JF (X:Cx) (f:Value->Value->Sem Value) (r:R2):Prop:=
 ∀(pins:List (Addr×Obj)) (s:Shared) (σ:St) (H:Hp) (x y:V) (v u:Value) (Q:VK),qu X pins σ H s->qG x v->qG y u->r x y H Q->
   wpAny (model X.prog X.w) X.A (f v u) (EP X pins σ Q) X.xe s
def Ga (X:Cx) (f:Value->Sem Value) (r:V->Hp->VK->Prop):Prop:=
 ∀(pins:List (Addr×Obj)) (s:Shared) (σ:St) (H:Hp) (x:V) (v:Value) (Q:VK),qu X pins σ H s->qG x v->r x H Q->
   wpAny (model X.prog X.w) X.A (f v) (EP X pins σ Q) X.xe s
def jX (X:Cx) (f:Value) (r:List V->Hp->VK->Prop):Prop:=
 ∀(pins:List (Addr×Obj)) (s:Shared) (σ:St) (H:Hp) (xs:List V) (us:List Value) (Q:VK),qu X pins σ H s->qD xs us->r xs H Q->
   wpAny (model X.prog X.w) X.A (call f us) (EP X pins σ Q) X.xe s
def Xs (r:R2) (ta tb:TE):TE:=λσ H Q=>ta σ H λx H1=>tb σ H1 λy H2=>r x y H2 Q
def tUn (r:V->Hp->VK->Prop) (ta:TE):TE:=λσ H Q=>ta σ H λx H1=>r x H1 Q
def rI (C:Int->Int->Prop) (g:Int->Int->V):R2:=λx y H Q=>∃i j,x=.int i/\y=.int j/\C i j/\Q (g i j) H
def yJ (g:Int->Int->V):R2:=λx y H Q=>∃i j,x=.int i/\y=.int j/\Q (g i j) H
def rU (g:Int->V):V->Hp->VK->Prop:=λx H Q=>∃i,x=.int i/\Q (g i) H
section
variable {X:Cx} {a b c:Expr} {ta tb tc:TE} {pos:Pos}
theorem x9 (ha:PE X a ta) (hb:PE X b tb) {pins:List (Addr×Obj)} {s:Shared} {σ:St} {H:Hp} {R:V->V->Hp->Prop} (I:qu X pins σ H s)
   (h:ta σ H λx H1=>tb σ H1 λy H2=>R x y H2) {Q:Value->Shared->Prop} {f:Value->Value->Sem Value}
   (hf:∀v u s2 x y H2,qu X pins σ H2 s2->qG x v->qG y u->R x y H2->wpAny (model X.prog X.w) X.A (f v u) Q X.xe s2):
   wpAny (model X.prog X.w) X.A (eval a X.env) (λv s₁=>wpAny (model X.prog X.w) X.A (eval b X.env) (λu s₂=>wpAny (model X.prog X.w) X.A (f v u) Q X.xe s₂) X.xe s₁) X.xe s:=by
 refine qY (ha pins s σ H _ I h) λv s1 ⟨x,H1,I1,r1,q1⟩=>?_
 refine qY (hb pins s1 σ H1 _ I1 q1) λu s2 ⟨y,H2,I2,r2,q2⟩=>?_
 exact hf v u s2 x y H2 I2 r1 r2 q2
theorem qI {op:Operator} {r:R2} (ho:JF X (binaryOp op) r) (ha:JE X a ta) (hb:JE X b tb):JE X (.BinOp a op b pos) (Xs r ta tb):=.of (by
 have ha:=ha.to
 have hb:=hb.to
 intro pins s σ H Q I h
 exact wpAny_BinOp (x9 ha hb I h λv u s2 x y H2 I2 rx ry q=>ho pins s2 σ H2 x y v u Q I2 rx ry q))
theorem uC {op:UnaryOp} {r:V->Hp->VK->Prop} (ho:Ga X (unaryOp op) r) (ha:JE X a ta):JE X (.UnaryOp op a pos) (tUn r ta):=.of (by
 have ha:=ha.to
 intro pins s σ H Q I h
 exact UnaryOp_ (qY (ha pins s σ H _ I h) λv s1 ⟨x,H1,I1,r1,q1⟩=>ho pins s1 σ H1 x v Q I1 r1 q1))
theorem ui {f:Value->Value->Sem Value} {C:Int->Int->Prop} {g:Int->Int->Int}
   (rule:∀(i j:Int) (t u:Tok) (s:Shared) (Q:Value->Shared->Prop) (E:Value->Shared->Prop),C i j->Q (.int (g i j) s.toks) {s with toks:=s.toks+1}->wpAny (model X.prog X.w) X.A (f (.int i t) (.int j u)) Q E s):
   JF X f (rI C λi j=>.int (g i j)):=by
 intro pins s σ H x y v u Q I rx ry h
 obtain⟨i,j,rfl,rfl,hc,q⟩:=h
 obtain⟨t,rfl⟩:=rx
 obtain⟨t',rfl⟩:=ry
 exact rule i j t t' s _ _ hc ⟨.int (g i j),H,I.tok _,⟨_,rfl⟩,q⟩
theorem uh {f:Value->Value->Sem Value} {g:Int->Int->Int}
   (rule:∀(i j:Int) (t u:Tok) (s:Shared) (Q:Value->Shared->Prop) (E:Value->Shared->Prop),Q (.int (g i j) s.toks) {s with toks:=s.toks+1}->wpAny (model X.prog X.w) X.A (f (.int i t) (.int j u)) Q E s):
   JF X f (yJ λi j=>.int (g i j)):=by
 intro pins s σ H x y v u Q I rx ry h
 obtain⟨i,j,rfl,rfl,q⟩:=h
 obtain⟨t,rfl⟩:=rx
 obtain⟨t',rfl⟩:=ry
 exact rule i j t t' s _ _ ⟨.int (g i j),H,I.tok _,⟨_,rfl⟩,q⟩
theorem xv {f:Value->Value->Sem Value} {g:Int->Int->Bool}
   (rule:∀(i j:Int) (t u:Tok) (s:Shared) (Q:Value->Shared->Prop) (E:Value->Shared->Prop),Q (.bool (g i j)) s->wpAny (model X.prog X.w) X.A (f (.int i t) (.int j u)) Q E s):
   JF X f (yJ λi j=>.bl (g i j)):=by
 intro pins s σ H x y v u Q I rx ry h
 obtain⟨i,j,rfl,rfl,q⟩:=h
 obtain⟨t,rfl⟩:=rx
 obtain⟨t',rfl⟩:=ry
 exact rule i j t t' s _ _ ⟨.bl (g i j),H,I,rfl,q⟩
def Go (i j:Int):Prop:=0 < j/\j < 1073741824
def Gn (i j:Int):Prop:=0<=j/\j<=1000000/\i.natAbs < 2^64
def wg (i j:Int):Prop:=(-(2^64) < i/\i < 2^64)\/(-(2^64) < j/\j < 2^64)
theorem wg.ok {i j:Int} (h:wg i j):IntMulOk i j:=by
 rcases h with ⟨h1,h2⟩ | ⟨h1,h2⟩
 . exact .of_left (intBits_le_64 h1 h2)
 . exact .of_right (intBits_le_64 h1 h2)
theorem Qd:JF X (binaryOp .Add) (yJ λi j=>.int (i+j)):=uh λ_ _ _ _ _ _ _ q=>add_int q
theorem xn:JF X (binaryOp .Sub) (yJ λi j=>.int (i - j)):=uh λ_ _ _ _ _ _ _ q=>sub_int q
theorem QM:JF X (binaryOp .Mult) (rI wg λi j=>.int (i*j)):=ui λ_ _ _ _ _ _ _ hc q=>mul_int q hc.ok
theorem kD:JF X (binaryOp .FloorDiv) (rI Go λi j=>.int (i / j)):=ui λi j _ _ _ _ _ hc q=>by
 have h1:(0:Int) < j:=hc.1
 have h2:j < 1073741824:=hc.2
 exact floordiv_int (by omega) (by rw[Int.fdiv_eq_ediv_of_nonneg i (by omega)];exact q) (.inl (PyProof.noPylong_small (by omega)))
theorem Ql:JF X (binaryOp .Mod) (rI (λ_ j=>0 < j) λi j=>.int (i % j)):=ui λi j _ _ _ _ _ hc q=>by
 have h1:(0:Int) < j:=hc
 exact mod_int' (by omega) (by rw[Int.fmod_eq_emod_of_nonneg i (by omega)];exact q)
theorem xo:JF X (binaryOp .Pow) (rI Gn λi j=>.int (i^j.toNat)):=ui λ_ _ _ _ _ _ _ hc q=>pow_int_small hc.1 hc.2.1 hc.2.2 q
theorem unI {f:Value->Sem Value} {g:Int->Int}
   (rule:∀(i:Int) (t:Tok) (s:Shared) (Q:Value->Shared->Prop) (E:Value->Shared->Prop),Q (.int (g i) s.toks) {s with toks:=s.toks+1}->wpAny (model X.prog X.w) X.A (f (.int i t)) Q E s):
   Ga X f (rU λi=>.int (g i)):=by
 intro pins s σ H x v Q I rx h
 obtain⟨i,rfl,q⟩:=h
 obtain⟨t,rfl⟩:=rx
 exact rule i t s _ _ ⟨.int (g i),H,I.tok _,⟨_,rfl⟩,q⟩
theorem yV:Ga X (unaryOp .USub) (rU λi=>.int (-i)):=unI λ_ _ _ _ _ q=>neg_int q
end
def wO:V->V->Bool
 | .non,.non=>true | .non,.int _=>true | .int _,.non=>true | .non,.bl _=>true | .bl _,.non=>true | .non,.str _=>true | .str _,.non=>true
 | .int _,.int _=>true | .bl _,.bl _=>true | .str _,.str _=>true | .byt _,.byt _=>true
 | .int _,.str _=>true | .str _,.int _=>true | .bl _,.str _=>true | .str _,.bl _=>true
 | _,_=>false
def rEq:R2:=λx y H Q=>wO x y=true/\Q (.bl (decide (x=y))) H
def rNe:R2:=λx y H Q=>wO x y=true/\Q (.bl (!decide (x=y))) H
theorem WZ {i j:Int}:decide (V.int i=V.int j)=(i==j):=by
 rw[Bool.eq_iff_iff]
 simp
theorem vA {i j:Bool}:decide (V.bl i=V.bl j)=(i==j):=by
 rw[Bool.eq_iff_iff]
 simp
theorem WY {i j:Str}:decide (V.str i=V.str j)=(i==j):=by
 rw[Bool.eq_iff_iff]
 simp
theorem W0 {i j:Array UInt8}:decide (V.byt i=V.byt j)=(i.toList==j.toList):=by
 rw[Bool.eq_iff_iff]
 cases i
 cases j
 simp
section
variable {X:Cx} {a b c:Expr} {ta tb tc:TE} {pos:Pos}
theorem qN {pins:List (Addr×Obj)} {σ:St} {H:Hp} {s:Shared} {Q:VK} {k k':Bool} (I:qu X pins σ H s) (q:Q (.bl k) H) (e:k=k'):EP X pins σ Q (.bool k') s:=by
 subst e
 exact⟨.bl k,H,I,rfl,q⟩
theorem jD:JF X (compareOp .Eq) rEq:=by
 intro pins s σ H x y v u Q I rx ry h
 obtain⟨hs,q⟩:=h
 cases x with
 | non=>
   cases rx
   cases y with
   | non=>cases ry;exact PySem.EqNone.eq_none_none (qN I q (by simp))
   | bl j=>cases ry;exact PySem.EqNone.eq_none_bool (qN I q (by simp))
   | int j=>obtain⟨t',rfl⟩:=ry;exact PySem.EqNone.eq_none_int (qN I q (by simp))
   | str j=>obtain⟨t',rfl⟩:=ry;exact PySem.EqNone.eq_none_str (qN I q (by simp))
   | _=>exact absurd (show false=true from hs) Bool.false_ne_true
 | bl i=>
   cases rx
   cases y with
   | non=>cases ry;exact PySem.EqNone.eq_bool_none (qN I q (by simp))
   | bl j=>cases ry;exact eq_bool (qN I q vA)
   | str j=>obtain⟨t',rfl⟩:=ry;exact PySem.EqMixed.eq_bool_str (qN I q (by simp))
   | _=>exact absurd (show false=true from hs) Bool.false_ne_true
 | int i=>
   obtain⟨t,rfl⟩:=rx
   cases y with
   | non=>cases ry;exact PySem.EqNone.eq_int_none (qN I q (by simp))
   | int j=>obtain⟨t',rfl⟩:=ry;exact eq_int (qN I q WZ)
   | str j=>obtain⟨t',rfl⟩:=ry;exact PySem.EqMixed.eq_int_str (qN I q (by simp))
   | _=>exact absurd (show false=true from hs) Bool.false_ne_true
 | str i=>
   obtain⟨t,rfl⟩:=rx
   cases y with
   | non=>cases ry;exact PySem.EqNone.eq_str_none (qN I q (by simp))
   | bl j=>cases ry;exact PySem.EqMixed.eq_str_bool (qN I q (by simp))
   | int j=>obtain⟨t',rfl⟩:=ry;exact PySem.EqMixed.eq_str_int (qN I q (by simp))
   | str j=>obtain⟨t',rfl⟩:=ry;exact eq_str (qN I q WY)
   | _=>exact absurd (show false=true from hs) Bool.false_ne_true
 | byt i=>
   obtain⟨t,rfl⟩:=rx
   cases y with
   | byt j=>obtain⟨t',rfl⟩:=ry;exact PySem.W.eq_bytes (qN I q W0)
   | _=>exact absurd (show false=true from hs) Bool.false_ne_true
 | _=>cases y<;>exact absurd (show false=true from hs) Bool.false_ne_true
theorem WI:JF X (compareOp .NotEq) rNe:=by
 intro pins s σ H x y v u Q I rx ry h
 obtain⟨hs,q⟩:=h
 cases x with
 | non=>
   cases rx
   cases y with
   | non=>cases ry;exact PySem.EqNone.ne_none_none (qN I q (by simp))
   | bl j=>cases ry;exact PySem.EqNone.ne_none_bool (qN I q (by simp))
   | int j=>obtain⟨t',rfl⟩:=ry;exact PySem.EqNone.ne_none_int (qN I q (by simp))
   | str j=>obtain⟨t',rfl⟩:=ry;exact PySem.EqNone.ne_none_str (qN I q (by simp))
   | _=>exact absurd (show false=true from hs) Bool.false_ne_true
 | bl i=>
   cases rx
   cases y with
   | non=>cases ry;exact PySem.EqNone.ne_bool_none (qN I q (by simp))
   | bl j=>cases ry;exact ne_bool (qN I q (congrArg not vA))
   | str j=>obtain⟨t',rfl⟩:=ry;exact PySem.EqMixed.ne_bool_str (qN I q (by simp))
   | _=>exact absurd (show false=true from hs) Bool.false_ne_true
 | int i=>
   obtain⟨t,rfl⟩:=rx
   cases y with
   | non=>cases ry;exact PySem.EqNone.ne_int_none (qN I q (by simp))
   | int j=>obtain⟨t',rfl⟩:=ry;exact ne_int (qN I q (congrArg not WZ))
   | str j=>obtain⟨t',rfl⟩:=ry;exact PySem.EqMixed.ne_int_str (qN I q (by simp))
   | _=>exact absurd (show false=true from hs) Bool.false_ne_true
 | str i=>
   obtain⟨t,rfl⟩:=rx
   cases y with
   | non=>cases ry;exact PySem.EqNone.ne_str_none (qN I q (by simp))
   | bl j=>cases ry;exact PySem.EqMixed.ne_str_bool (qN I q (by simp))
   | int j=>obtain⟨t',rfl⟩:=ry;exact PySem.EqMixed.ne_str_int (qN I q (by simp))
   | str j=>obtain⟨t',rfl⟩:=ry;exact ne_str (qN I q (congrArg not WY))
   | _=>exact absurd (show false=true from hs) Bool.false_ne_true
 | byt i=>
   obtain⟨t,rfl⟩:=rx
   cases y with
   | byt j=>obtain⟨t',rfl⟩:=ry;exact PySem.W.ne_bytes (qN I q (congrArg not W0))
   | _=>exact absurd (show false=true from hs) Bool.false_ne_true
 | _=>cases y<;>exact absurd (show false=true from hs) Bool.false_ne_true
theorem j8:JF X (compareOp .Lt) (yJ λi j=>.bl (decide (i < j))):=xv λ_ _ _ _ _ _ _ q=>lt_int q
theorem zG:JF X (compareOp .Gt) (yJ λi j=>.bl (decide (j < i))):=xv λ_ _ _ _ _ _ _ q=>gt_int q
theorem UP:JF X (compareOp .GtE) (yJ λi j=>.bl (decide (j<=i))):=xv λ_ _ _ _ _ _ _ q=>ge_int q
theorem Vv:JF X (compareOp .In) (λx y H Q=>∃i j,x=.str i/\y=.str j/\Q (.bl (!(Builtin.Str.occurrences j i 0 j.length 1).isEmpty)) H):=by
 intro pins s σ H x y v u Q I rx ry h
 obtain⟨i,j,rfl,rfl,q⟩:=h
 obtain⟨t,rfl⟩:=rx
 obtain⟨t',rfl⟩:=ry
 exact in_str (qN I q rfl)
theorem qy (b:Expr) {op:CmpOp} (h:op≠.In:=by decide) (h2:op≠.NotIn:=by decide):behindInMarks op b=false:=by
 have e1:(op==CmpOp.In)=false:=by cases op<;>first | rfl | exact absurd rfl h
 have e2:(op==CmpOp.NotIn)=false:=by cases op<;>first | rfl | exact absurd rfl h2
 cases b<;>simp [behindInMarks,e1,e2]
theorem QQ {op:CmpOp} {r:R2} (ho:JF X (compareOp op) r) (ha:JE X a ta) (hb:JE X b tb) (hm:behindInMarks op b=false):JE X (.Compare a [op] [b] pos) (Xs r ta tb):=.of (by
 have ha:=ha.to
 have hb:=hb.to
 intro pins s σ H Q I h
 exact wpAny_Compare1 (x9 ha hb I h λv u s2 x y H2 I2 rx ry q=>ho pins s2 σ H2 x y v u Q I2 rx ry q) hm)
def Wl (t:TE):TT:=λσ H Q=>t σ H λx H'=>∃k,x=.bl k/\Q k H'
theorem qt {op:CmpOp} {r:R2} (ho:JF X (compareOp op) r) (ha:JE X a ta) (hb:JE X b tb) (hm:behindInMarks op b=false):JT X (.Compare a [op] [b] pos) (Wl (Xs r ta tb)):=.of (by
 have ha:=ha.to
 have hb:=hb.to
 intro pins s σ H Q I h
 refine wpAny_isTrue_Compare1 (qY (ha pins s σ H _ I h) λv s1 ⟨x,H1,I1,r1,q1⟩=>qY (hb pins s1 σ H1 _ I1 q1) λu s2 ⟨y,H2,I2,r2,q2⟩=>
   qY (ho pins s2 σ H2 x y v u _ I2 r1 r2 q2) λc s3 ⟨z,H3,I3,r3,k,e,q3⟩=>?_) hm
 subst e
 cases r3
 exact wpAny_truthy_bool ⟨H3,I3,q3⟩)
theorem zc:(sizeLine:Nat) < 2^63:=by rw[sizeLine_eq];decide
theorem Jz:JF X (binaryOp .Add) (λx y H Q=>∃i j,x=.str i/\y=.str j/\i.length+j.length<=sizeLine/\Q (.str (i++j)) H):=by
 intro pins s σ H x y v u Q I rx ry h
 obtain⟨i,j,rfl,rfl,hz,q⟩:=h
 obtain⟨t,rfl⟩:=rx
 obtain⟨t',rfl⟩:=ry
 exact add_str (λt' tk=>⟨.str (i++j),H,I.tok _,⟨_,rfl⟩,q⟩) hz
theorem Qz {x:V} {us:List Value} (r:qD [x] us):∃u,us=[u]/\qG x u:=by
 cases r with
 | cons r1 r2=>cases r2;exact⟨_,rfl,r1⟩
theorem YI {x y:V} {us:List Value} (r:qD [x,y] us):∃u w',us=[u,w']/\qG x u/\qG y w':=by
 cases r with
 | cons r1 r2=>
   cases r2 with
   | cons r3 r4=>cases r4;exact⟨_,_,rfl,r1,r3⟩
theorem zV (hc:X.calm=true):jX X (.builtin "max") (λxs H Q=>∃i j,xs=[.int i,.int j]/\Q (.int (if j > i then j else i)) H):=by
 intro pins s σ H xs us Q I r h
 obtain⟨i,j,rfl,q⟩:=h
 obtain⟨u,w',rfl,⟨t,rfl⟩,⟨t',rfl⟩⟩:=YI r
 refine max_two_ints (I.ok.hd hc) λh' tk k=>⟨_,H,I.kept k,?_,q⟩
 by_cases hj:j > i
 . rw[if_pos hj,if_pos hj];exact⟨_,rfl⟩
 . rw[if_neg hj,if_neg hj];exact⟨_,rfl⟩
theorem zU (hc:X.calm=true):jX X (.builtin "min") (λxs H Q=>∃i j,xs=[.int i,.int j]/\Q (.int (if j < i then j else i)) H):=by
 intro pins s σ H xs us Q I r h
 obtain⟨i,j,rfl,q⟩:=h
 obtain⟨u,w',rfl,⟨t,rfl⟩,⟨t',rfl⟩⟩:=YI r
 refine min_two_ints (I.ok.hd hc) λh' tk k=>⟨_,H,I.kept k,?_,q⟩
 by_cases hj:j < i
 . rw[if_pos hj,if_pos hj];exact⟨_,rfl⟩
 . rw[if_neg hj,if_neg hj];exact⟨_,rfl⟩
theorem zW:jX X (.type "int") (λxs H Q=>(∃i,xs=[.int i]/\Q (.int i) H)\/∃k,xs=[.bl k]/\Q (.int (if k then 1 else 0)) H):=by
 intro pins s σ H xs us Q I r h
 rcases h with ⟨i,rfl,q⟩ | ⟨k,rfl,q⟩
 . obtain⟨u,rfl,t,rfl⟩:=Qz r
   exact call_int_int ⟨.int i,H,I,⟨_,rfl⟩,q⟩
 . obtain⟨u,rfl,r1⟩:=Qz r
   cases r1
   exact call_int_bool ⟨.int (if k then 1 else 0),H,I.tok _,⟨_,rfl⟩,q⟩
end
end L2
namespace L2
open PySem PySem.Spec PyProof.Rows
structure Wg (h:Heap) (x dx C:Addr) (mA:Str->Option Value):Prop where
 obj:h.get? x=some (PySem.W.instObj C dx)
 ns:h.Ns1 dx mA
 ne:dx≠x
theorem Jm {h:Heap} {dx:Addr} {mA:Str->Option Value} (n:h.Ns1 dx mA):∃od,h.get? dx=some od/\∀name,PySem.W.lookIn name od=some (mA name):=by
 obtain⟨o,es,ep,ho,hd,hk,_,hm⟩:=n
 refine⟨o,ho,λname=>?_⟩
 have e:=hm name
 unfold nsFind findBy at e
 rw[<-Array.find?_toList]at e
 unfold PySem.W.lookIn
 rw[hd]
 dsimp only
 split
 . rename_i y q
   rw[q]at e
   exact congrArg some e
 . rename_i q
   rw[q]at e
   have a:es.toList.any (·.refKey)=false:=by
     rw[List.any_eq_false]
     intro y hy
     obtain⟨z,t,hkey⟩:=hk y (Array.mem_toList_iff.mp hy)
     simp [DictEntry.refKey,hkey]
   have a':¬es.toList.any (·.refKey)=true:=by rw[a];exact Bool.false_ne_true
   rw[if_neg a']
   exact congrArg some e
theorem Wg.look {h:Heap} {x dx C:Addr} {mA:Str->Option Value} (I:Wg h x dx C mA):∃od,PySem.W.InstAt h x (PySem.W.instObj C dx) C (some od)/\∀name,PySem.W.lookIn name od=some (mA name):=
 let ⟨od,ho,hl⟩:=Jm I.ns
 ⟨od,⟨I.obj,rfl,rfl,ho⟩,hl⟩
section
variable {prog:Program} {w:World} {A:Around} {E:Value->Shared->Prop} {s:Shared} {K:PySem.W.Frag} {x dx C f:Addr} {mA:Str->Option Value} {name:Str} {v:Value}
theorem k9 {expr:Bool} {Q:Value->Shared->Prop} (X:K.In s.heap) (I:Wg s.heap x dx C mA) (hg:PySem.W.plainGet K C name=true) (hh:PySem.W.hasDictIn K C=true)
   (ha:PySem.W.findIn K (.ref C) name=some none) (hv:mA name=some v) (hv':PySem.W.handedIn v=true) (h:Q v {s with toks:=s.toks+1}):
   wpAny (model prog w) A (getAttr (.ref x) name expr) Q E s:=by
 obtain⟨od,J,hl⟩:=I.look
 exact PySem.W.get_value X J (PySem.W.plainGet_of hg).1 (PySem.W.findObj_own hh ha rfl (by rw[hl,hv])) hv' h
theorem vt {pl:Sem Bool} {Q:Value×List Value->Shared->Prop} (X:K.In s.heap) (I:Wg s.heap x dx C mA) (hg:PySem.W.plainGet K C name=true)
   (hf:PySem.W.findIn K (.ref C) name=some (some (.ref f))) (ht:PySem.W.isFn K (.ref f)=true) (hv:mA name=none) (h:Q (.ref f,[.ref x]) s):
   wpAny (model prog w) A (getMethod (.ref x) name pl) Q E s:=by
 obtain⟨od,J,hl⟩:=I.look
 exact PySem.W.method_fn X J (PySem.W.plainGet_of hg).1 (PySem.W.plainGet_of hg).2 hf (beq_iff_eq.mp ht) (by show (PySem.W.lookIn name od).map (·.isSome)=some false;rw[hl,hv];rfl) h
theorem ki {ns:List Str} {Q:Unit->Shared->Prop} (X:K.In s.heap) (I:Wg s.heap x dx C mA)
   (hs:PySem.W.findIn K (.ref C) "__setattr__"=some (some (.builtin "object.__setattr__"))) (hp:PySem.W.plainOver K C=true) (ht:PySem.W.takerIn K C name=some none) (hh:PySem.W.hasDictIn K C=true)
   (hw:PySem.Within mA ns) (hsz:ns.length<=sizeLine)
   (h:∀h',Wg h' x dx C (λy=>if y=name then some v else mA y)->Heap.SameBut dx s.heap h'->Q () {s with heap:=h',toks:=s.toks+2}):
   wpAny (model prog w) A (setAttr (.ref x) name v) Q E s:=by
 obtain⟨od,J,hl⟩:=I.look
 refine PySem.W.set_plain X J hs (PySem.W.osa_open (s:={s with toks:=s.toks+1}) (r:=none) X J hp ht λb=>?_)
 obtain⟨cd,hc,hd'⟩:=PySem.W.any_some hh
 have hx:s.heap.get? x=some ⟨.ref C,some dx,.plain,#[]⟩:=I.obj
 refine wpAny_bind (wpAny_pure (wpAny_bind (wpAny_bind (wpAny_loadPart hx (wpAny_bind (PySem.W.Looks.here (s:={s with toks:=s.toks+1}) (PySem.W.looks_clsIn X hc) ?_))))))
 rw[hd']
 refine wpAny_pure (a:=some dx) (wpAny_bind (wpAny_pure (wpAny_bind ?_)))
 refine wpAny_nsSet1 (s:={s with toks:=s.toks+1}) I.ns λh' hn2 hs2=>?_
 obtain⟨oD,esD,epD,hoD,hdD,hcD⟩:=hn2.count (PySem.Within.cons name v hw)
 refine wpAny_bind (wpAny_lookBehind hoD (by rw[hdD];exact pastItsLine_dict (Nat.le_trans hcD (by rw[List.length_cons];omega))) ?_)
 exact wpAny_pure (h _ ⟨(hs2.2 _ (Ne.symm I.ne)).trans I.obj,hn2,I.ne⟩ hs2)
theorem U4 {R:Result->Shared->Prop} {vs:List Value} {kw:List (Str×Value)} (X:K.In s.heap) (hm:PySem.W.makesIn K C=true)
   (hi:PySem.W.findIn K (.ref C) "__init__"=some (some (.ref f))) (hf:PySem.W.typeIn K (.ref f)=some (.type "function"))
   (h:codeAny (model prog w) (A.under (.builtin "type.__call__" ⟨.ref C::vs,kw⟩)) (.call (.ref f) ⟨.ref (s.heap.objs.size+1)::vs,kw⟩) (PySem.W.InitBack (s.heap.objs.size+1) R)
     {s with heap:=(s.heap.push PySem.W.emptyDict).push (PySem.W.instObj C s.heap.objs.size)}):
   codeAny (model prog w) A (.call (.ref C) ⟨vs,kw⟩) R s:=by
 obtain⟨hh,g,d,t,os⟩:=s
 exact PySem.W.make_core (PySem.W.makes_of X hm) (PySem.W.looks_findIn X hi) (λself=>PySem.W.bind_fn X self hf) (.inl rfl) h
end
def QL (f:Str) (v:V):List (Str×V)->List (Str×V)
 | []=>[(f,v)]
 | (g,x)::r=>if g=f then (g,v)::r else (g,x)::QL f v r
theorem Zy (f g:Str) (v:V):∀fs:List (Str×V),(QL f v fs).lookup g=if g=f then some v else fs.lookup g
 | []=>by
   show List.lookup g [(f,v)]=_
   by_cases h:g=f
   . have hb:(g==f)=true:=beq_iff_eq.mpr h
     simp only[List.lookup,hb,if_pos h]
   . have hb:(g==f)=false:=beq_eq_false_iff_ne.mpr h
     simp only[List.lookup,hb,if_neg h]
 | (k,x)::r=>by
   have ih:=Zy f g v r
   rw[show QL f v ((k,x)::r)=(if k=f then (k,v)::r else (k,x)::QL f v r) from rfl]
   by_cases hk:k=f
   . rw[if_pos hk]
     by_cases h:g=k
     . have hb:(g==k)=true:=beq_iff_eq.mpr h
       simp only[List.lookup,hb,if_pos (h.trans hk)]
     . have hb:(g==k)=false:=beq_eq_false_iff_ne.mpr h
       simp only[List.lookup,hb,if_neg (λe:g=f=>h (e.trans hk.symm))]
   . rw[if_neg hk]
     by_cases h:g=k
     . have hb:(g==k)=true:=beq_iff_eq.mpr h
       simp only[List.lookup,hb,if_neg (λe:g=f=>hk (h.symm.trans e))]
     . have hb:(g==k)=false:=beq_eq_false_iff_ne.mpr h
       simp only[List.lookup,hb]
       exact ih
theorem Zo (f:Str) (v:V):∀fs:List (Str×V),f∈(QL f v fs).map (·.1)/\∀g,g∈fs.map (·.1)->g∈(QL f v fs).map (·.1)
 | []=>⟨by simp [QL],λg h=>by simp at h⟩
 | (k,x)::r=>by
   obtain⟨i1,i2⟩:=Zo f v r
   rw[show QL f v ((k,x)::r)=(if k=f then (k,v)::r else (k,x)::QL f v r) from rfl]
   by_cases hk:k=f
   . rw[if_pos hk]
     subst hk
     exact⟨by simp,λg h=>by simpa using h⟩
   . rw[if_neg hk]
     refine⟨?_,λg h=>?_⟩
     . rw[List.map_cons]
       exact List.mem_cons_of_mem _ i1
     . rw[List.map_cons]at h ⊢
       rcases List.mem_cons.mp h with e | e
       . exact List.mem_cons.mpr (.inl e)
       . exact List.mem_cons_of_mem _ (i2 g e)
theorem Zz (f:Str) (v:V):∀fs:List (Str×V),(QL f v fs).length<=fs.length+1
 | []=>by simp [QL]
 | (k,x)::r=>by
   have ih:=Zz f v r
   rw[show QL f v ((k,x)::r)=(if k=f then (k,v)::r else (k,x)::QL f v r) from rfl]
   by_cases hk:k=f
   . rw[if_pos hk,List.length_cons,List.length_cons];omega
   . rw[if_neg hk,List.length_cons,List.length_cons];omega
theorem Q4.some_of {v:V} {o:Option Value} (r:Q4 (some v) o):∃u,o=some u/\qG v u:=by
 cases o with
 | none=>exact(show False from r).elim
 | some u=>exact⟨u,rfl,r⟩
theorem Q4.none_of {o:Option Value} (r:Q4 none o):o=none:=by
 cases o with
 | none=>rfl
 | some u=>exact(show False from r).elim
theorem zQ {v:V} {u:Value} (r:qG v u):PySem.W.handedIn u=true:=by
 cases v with
 | non=>cases (show u=Value.none from r);rfl
 | bl b=>cases (show u=Value.bool b from r);rfl
 | int i=>obtain⟨t,e⟩:=(show ∃t,u=Value.int i t from r);cases e;rfl
 | str x=>obtain⟨t,e⟩:=(show ∃t,u=Value.str x t from r);cases e;rfl
 | byt b=>obtain⟨t,e⟩:=(show ∃t,u=Value.bytes b t from r);cases e;rfl
 | flt b=>obtain⟨t,e⟩:=(show ∃t,u=Value.float b t from r);cases e;rfl
 | ref a=>cases (show u=Value.ref a from r);rfl
 | ty n=>cases (show u=Value.type n from r);rfl
section
variable {P:Program} {w:World} {H H':Hp} {h h':Heap} {a C dx:Addr} {fs fs':List (Str×V)}
theorem ZR (hok:QZ P w H h) (e:H a=some (.ins C dx fs)):∃mA,Wg h a dx C mA/\(∀f,Q4 (fs.lookup f) (mA f))/\PySem.Within mA (fs.map (·.1))/\fs.length<=1000/\H dx=some (.own a):=by
 obtain⟨d,z,ne,ob,mA,n,r,q⟩:=(show qx P w H h a (.ins C dx fs) from hok a _ e)
 exact⟨mA,⟨ob,n,ne⟩,r,q,z,d⟩
end
structure Wh (K:PySem.W.Frag) (C:Addr):Prop where
 pg:PySem.W.plainGet K C Str.empty=true
 hd:PySem.W.hasDictIn K C=true
 po:PySem.W.plainOver K C=true
 sa:PySem.W.findIn K (.ref C) "__setattr__"=some (some (.builtin "object.__setattr__"))
theorem Wh.get {K:PySem.W.Frag} {C:Addr} (c:Wh K C) (f:Str):PySem.W.plainGet K C f=true:=c.pg
def j1 (K:PySem.W.Frag) (C:Addr) (f:Str):Prop:=PySem.W.findIn K (.ref C) f=some none
theorem j1.taker {K:PySem.W.Frag} {C:Addr} {f:Str} (n:j1 K C f):PySem.W.takerIn K C f=some none:=by
 unfold PySem.W.takerIn
 rw[show PySem.W.findIn K (.ref C) f=some none from n]
 rfl
structure Con (K:PySem.W.Frag) (C:Addr) (f:Str) (v:V) (u:Value):Prop where
 at_:PySem.W.findIn K (.ref C) f=some (some u)
 rel:qG v u
 get:PySem.W.specialIn K u "__get__"=some none
 cp:PySem.W.copiedNames.contains f=false
structure V6 (K:PySem.W.Frag) (C:Addr) (m:Str) (f:Addr):Prop where
 at_:PySem.W.findIn K (.ref C) m=some (some (.ref f))
 fn:PySem.W.isFn K (.ref f)=true
 kp:PySem.W.keepIn K (.ref f)=true
section
variable {X:Cx} {pins:List (Addr×Obj)} {σ:St} {H:Hp} {s:Shared} {a C dx:Addr} {fs:List (Str×V)} {f:Str} {v:V} {A:Around} {E:Value->Shared->Prop}
theorem X7 {b:Bool} {Q:Value->Shared->Prop} (I:qu X pins σ H s) (e:H a=some (.ins C dx fs)) (c:Wh X.K C) (n:j1 X.K C f) (l:fs.lookup f=some v)
   (h:∀u s',qu X pins σ H s'->qG v u->Q u s'):wpAny (model X.prog X.w) A (getAttr (.ref a) f b) Q E s:=by
 obtain⟨mA,O,r,_,_,_⟩:=ZR I.hok e
 obtain⟨u,hu,ru⟩:=Q4.some_of (v:=v) (o:=mA f) (by rw[<-l];exact r f)
 exact k9 I.kIn O (c.get f) c.hd n hu (zQ ru) (h u _ (I.tok _) ru)
theorem zi {m:Str} {g:Addr} {pl:Sem Bool} {Q:Value×List Value->Shared->Prop} (I:qu X pins σ H s) (e:H a=some (.ins C dx fs)) (c:Wh X.K C) (k:V6 X.K C m g) (l:fs.lookup m=none)
   (h:Q (.ref g,[.ref a]) s):wpAny (model X.prog X.w) A (getMethod (.ref a) m pl) Q E s:=by
 obtain⟨mA,O,r,_,_,_⟩:=ZR I.hok e
 have hn:mA m=none:=Q4.none_of (by rw[<-l];exact r m)
 exact vt I.kIn O (c.get m) k.at_ k.fn hn h
theorem XE {y:V} {u:Value} {Q:Unit->Shared->Prop} (I:qu X pins σ H s) (e:H a=some (.ins C dx fs)) (c:Wh X.K C) (n:j1 X.K C f) (hl:fs.length < 1000) (ry:qG y u)
   (h:∀s',qu X pins σ (upd H a (.ins C dx (QL f y fs))) s'->Q () s'):wpAny (model X.prog X.w) A (setAttr (.ref a) f u) Q E s:=by
 obtain⟨mA,O,r,wi,_,ho⟩:=ZR I.hok e
 have hz:(fs.map (·.1)).length<=sizeLine:=by rw[List.length_map,sizeLine_eq];omega
 refine ki I.kIn O c.sa c.po n.taker c.hd wi hz λh' O' sb=>h _ ?_
 have hd:∃o,h'.get? dx=some o:=let ⟨o,_,_,e',_⟩:=O'.ns;⟨o,e'⟩
 refine I.write (x:=a) (e:=dx) (by rw[e];exact True.intro) (.inr ho) (λb q hb z=>(sb.2 b hb).trans z) hd ?_
 refine⟨by rw[qf O.ne];exact ho,?_,O.ne,O'.obj,_,O'.ns,λg=>?_,λg hg=>?_⟩
 . have:=Zz f y fs;omega
 . show Q4 ((QL f y fs).lookup g) (if g=f then some u else mA g)
   rw[Zy]
   by_cases q:g=f
   . rw[if_pos q,if_pos q];exact ry
   . rw[if_neg q,if_neg q];exact r g
 . by_cases q:g=f
   . rw[q];exact(Zo f y fs).1
   . refine(Zo f y fs).2 g (wi g λz=>hg ?_)
     show (if g=f then some u else mA g)=none
     rw[if_neg q];exact z
theorem qu.made (I:qu X pins σ H s):qu X pins σ (upd (upd H s.heap.objs.size (.own (s.heap.objs.size+1))) (s.heap.objs.size+1) (.ins C s.heap.objs.size []))
   {s with heap:=(s.heap.push PySem.W.emptyDict).push (PySem.W.instObj C s.heap.objs.size)}:=by
 have e1:(s.heap.push PySem.W.emptyDict).get? s.heap.objs.size=some PySem.W.emptyDict:=Heap.get?_push_size s.heap rfl
 have e2:((s.heap.push PySem.W.emptyDict).push (PySem.W.instObj C s.heap.objs.size)).get? (s.heap.objs.size+1)=some (PySem.W.instObj C s.heap.objs.size):=by
   have:=Heap.get?_push_size (s.heap.push PySem.W.emptyDict) (o:=PySem.W.instObj C s.heap.objs.size) rfl
   rwa [Heap.size_push]at this
 have e3:(s.heap.push PySem.W.emptyDict).Ns s.heap.objs.size (λ_=>none):=⟨PySem.W.emptyDict,#[],_,e1,rfl,(λe he=>absurd he (by simp)),λ_=>rfl⟩
 have I1:=I.laid (a:=s.heap.objs.size) (o:=.own (s.heap.objs.size+1)) (h':=s.heap.push PySem.W.emptyDict) (t':=s.toks) (λb u q=>Heap.get?_push_of_some _ q) (Nat.le_refl _) ⟨_,e1⟩
 refine I1.laid (a:=s.heap.objs.size+1) (o:=.ins C s.heap.objs.size []) (t':=s.toks) (λb u q=>Heap.get?_push_of_some _ q) (Nat.le_of_eq (Heap.size_push _ _)) ?_
 have ne:s.heap.objs.size≠s.heap.objs.size+1:=Nat.ne_of_lt (Nat.lt_succ_self _)
 refine⟨by rw[qf ne,qd],Nat.zero_le _,ne,e2,λ_=>none,(Heap.Ns1.of_empty e3).at λo q=>Heap.get?_push_of_some _ q,λ_=>True.intro,λy hy=>absurd rfl hy⟩
theorem W3 {prog:Program} {w:World} {env:Env} {e:Expr} {f:Str} {pos:Pos} {s:Shared} {Q:Value->Shared->Prop} (hb:attributeBase e f env (eval e env)=eval e env)
   (h:wpAny (model prog w) A (eval e env) (λo s₁=>wpAny (model prog w) A (getAttr o f true) Q E s₁) E s):wpAny (model prog w) A (eval (.Attribute e f pos) env) Q E s:=
 Attribute_any_ h (by rw[arm_eval_Attribute,hb])
end
def Kt (K:PySem.W.Frag) (ta:TE) (f:Str):TE:=λσ H Q=>ta σ H λx H1=>∃a C dx fs v,x=.ref a/\H1 a=some (.ins C dx fs)/\Wh K C/\j1 K C f/\fs.lookup f=some v/\Q v H1
def KC (K:PySem.W.Frag) (ta tv:TE) (f:Str):TS:=λD σ H=>tv σ H λy H1=>ta σ H1 λx H2=>∃a C dx fs,x=.ref a/\H2 a=some (.ins C dx fs)/\Wh K C/\j1 K C f/\fs.length < 1000/\
 D.nx σ (upd H2 a (.ins C dx (QL f y fs)))
section
variable {X:Cx} {o e value:Expr} {f:Str} {pos pos' tpos:Pos} {ta tv:TE}
theorem zg (he:JE X e ta) (hb:attributeBase e f X.env (eval e X.env)=eval e X.env):JE X (.Attribute e f pos) (Kt X.K ta f):=.of (by
 have he:=he.to
 intro pins s σ H Q I h
 refine W3 hb (qY (he pins s σ H _ I h) λu s1 ⟨x,H1,I1,rx,a,C,dx,fs,v,ex,ea,c,n,l,q⟩=>?_)
 subst ex
 obtain rfl:u=Value.ref a:=rx
 exact X7 I1 ea c n l λu' s2 I2 ru=>⟨v,H1,I2,ru,q⟩)
theorem U9 (ha:JE X o ta) (hv:JE X value tv) (hs:swapsWith value (some (.Attribute o f pos')) pos.line X.env=pure false):JS X (.Assign [.Attribute o f pos'] value pos) (KC X.K ta tv f):=.of (by
 have ha:=ha.to
 have hv:=hv.to
 intro pins s σ H D I h
 refine plainObj_wpAny_Assign_Attribute (qY (hv pins s σ H _ I h) λu s1 ⟨y,H1,I1,ry,q⟩=>qY (ha pins s1 σ H1 _ I1 q) λov s2 ⟨x,H2,I2,rx,a,C,dx,fs,ex,ea,c,n,l,q2⟩=>?_) hs
 subst ex
 obtain rfl:ov=Value.ref a:=rx
 exact XE I2 ea c n l ry λs3 I3=>⟨σ,_,I3,q2⟩)
end
section
variable {X:Cx} {pins:List (Addr×Obj)} {σ:St} {H:Hp} {s:Shared} {A:Around} {E:Value->Shared->Prop} {Q:Value->Shared->Prop} {c:Value} {b:Bool}
inductive TyOf (K:PySem.W.Frag) (H:Hp):V->Value->Prop where
 | non:TyOf K H .non (.type "NoneType")
 | bl (x:Bool):TyOf K H (.bl x) (.type "bool")
 | int (i:Int):TyOf K H (.int i) (.type "int")
 | str (x:Str):TyOf K H (.str x) (.type "str")
 | flt (x:UInt64):TyOf K H (.flt x) (.type "float")
 | lst {a:Addr} {xs:List V} (e:H a=some (.lst xs)):TyOf K H (.ref a) (.type "list")
 | frz {a:Addr} {o:Obj} {xs:List V} (e:H a=some (.frz o (.lst xs))):TyOf K H (.ref a) (.type "list")
 | tup {a:Addr} {xs:List V} (e:H a=some (.tup xs)):TyOf K H (.ref a) (.type "tuple")
 | dK {a:Addr} {kvs:List (qP×V)} (e:H a=some (.dK kvs)):TyOf K H (.ref a) (.type "dict")
 | dT {a:Addr} {kvs:List (List qP×V)} (e:H a=some (.dT kvs)):TyOf K H (.ref a) (.type "dict")
 | ins {a C dx:Addr} {fs:List (Str×V)} (e:H a=some (.ins C dx fs)) (cl:Wh K C) (ha:PySem.W.findIn K (.ref C) "__class__"=some (some (.builtin "object.__class__")))
     (hn:PySem.W.specialIn K (.builtin "object.__class__") "__get__"=some (some (.builtin "getset_descriptor.__get__"))) (htk:PySem.W.takesIn K (.builtin "object.__class__")=some true)
     (hm:PySem.W.mroIn K C (.type "object")=some true):TyOf K H (.ref a) (.ref C)
theorem VN {x:V} {u t:Value} (I:qu X pins σ H s) (rx:qG x u) (ty:TyOf X.K H x t) (e:PySem.W.kitOne X.K t c=some b) (h:∀tk,Q (.bool b) {s with toks:=tk}):
   wpAny (model X.prog X.w) A (call (.builtin "isinstance") [u,c]) Q E s:=by
 cases ty with
 | non=>cases (show u=Value.none from rx);exact PySem.W.kia_one PySem.W.kitx_none I.kIn True.intro e (λz=>nomatch z) h
 | bl y=>cases (show u=Value.bool y from rx);exact PySem.W.kia_one PySem.W.kitx_bool I.kIn True.intro e (λz=>nomatch z) h
 | int i=>obtain⟨t,q⟩:=(show ∃t,u=Value.int i t from rx);cases q;exact PySem.W.kia_one PySem.W.kitx_int I.kIn True.intro e (λz=>nomatch z) h
 | str y=>obtain⟨t,q⟩:=(show ∃t,u=Value.str y t from rx);cases q;exact PySem.W.kia_one PySem.W.kitx_str I.kIn True.intro e (λz=>nomatch z) h
 | flt y=>obtain⟨t,q⟩:=(show ∃t,u=Value.float y t from rx);cases q;exact PySem.W.kia_one PySem.W.kitx_float I.kIn True.intro e (λz=>nomatch z) h
 | @lst a xs ea=>
   cases (show u=Value.ref a from rx)
   obtain⟨_,_,n,_,h1⟩:=(show qx X.prog X.w H s.heap a (.lst xs) from I.hok a _ ea)
   exact PySem.W.kia_one PySem.W.kitx_list I.kIn ⟨_,h1,rfl⟩ e (λz=>nomatch z) h
 | @frz a ob xs ea=>
   cases (show u=Value.ref a from rx)
   obtain⟨_,_,_,n,_,h1⟩:=(show qx X.prog X.w H s.heap a (.frz ob (.lst xs)) from I.hok a _ ea)
   exact PySem.W.kia_one PySem.W.kitx_list I.kIn ⟨_,h1,rfl⟩ e (λz=>nomatch z) h
 | @tup a xs ea=>
   cases (show u=Value.ref a from rx)
   obtain⟨_,_,_,p⟩:=(show qx X.prog X.w H s.heap a (.tup xs) from I.hok a _ ea)
   obtain⟨o,h1,h2,_⟩:=p
   exact PySem.W.kia_one PySem.W.kitx_tuple I.kIn ⟨o,h1,h2⟩ e (λz=>nomatch z) h
 | @dK a kvs ea=>
   cases (show u=Value.ref a from rx)
   obtain⟨_,_,vs,_,p⟩:=(show qx X.prog X.w H s.heap a (.dK kvs) from I.hok a _ ea)
   obtain⟨o,es,ep,h1,h2,_⟩:=p
   exact PySem.W.kia_one PySem.W.kitx_dict I.kIn ⟨o,h1,h2.1⟩ e (λz=>nomatch z) h
 | @dT a kvs ea=>
   cases (show u=Value.ref a from rx)
   obtain⟨_,_,xs,_,o,es,ep,h1,h2,_⟩:=(show qx X.prog X.w H s.heap a (.dT kvs) from I.hok a _ ea)
   exact PySem.W.kia_one PySem.W.kitx_dict I.kIn ⟨o,h1,h2.1⟩ e (λz=>nomatch z) h
 | @ins a C dx fs ea cl ha hn htk hm=>
   cases (show u=Value.ref a from rx)
   obtain⟨mA,O,_⟩:=ZR I.hok ea
   obtain⟨od,J,_⟩:=O.look
   exact PySem.W.kia_one (PySem.W.kitx_own (cl.get _) cl.hd ha hn htk hm) I.kIn J e (λz=>nomatch z) h
end
end L2
namespace L2
open PySem PySem.Spec PyProof.Rows
structure qS (k:Nat) (A:Around):Prop where
 hd:A.handled=none
 dp:A.depth+3*k+5 < recursionLimit
 un:A.units+16*k+200 < cLine
 gd:A.guards=some []
theorem qS.mono {j k:Nat} {A:Around} (r:qS k A) (h:j<=k):qS j A:=⟨r.hd,by have:=r.dp;omega,by have:=r.un;omega,r.gd⟩
theorem qS.deeper {k:Nat} {A:Around} (r:qS (k+1) A) (env:Env):qS k (A.deeper env):=
 ⟨r.hd,by have:=r.dp;show A.depth+1+3*k+5 < _;omega,by have:=r.un;show A.units+3+16*k+200 < _;omega,r.gd⟩
theorem XY {A:Around} {C:Addr} {us:List Value} {kw:List (Str×Value)}:(A.under (.builtin "type.__call__" ⟨.ref C::us,kw⟩)).depth=A.depth+1:=by
 first | rfl | simp [Around.under,Code.weight,Code.isCreation,Code.isGuard,Code.isCaller,Code.frames,Code.isFrame,guardIds]
theorem XX {A:Around} {C:Addr} {us:List Value} {kw:List (Str×Value)}:(A.under (.builtin "type.__call__" ⟨.ref C::us,kw⟩)).units=A.units+1:=by
 first | rfl | simp [Around.under,Code.cUnits,Code.frames,Code.isFrame]
theorem qS.make {k:Nat} {A:Around} (r:qS (k+1) A) (C:Addr) (us:List Value) (kw:List (Str×Value)):qS k (A.under (.builtin "type.__call__" ⟨.ref C::us,kw⟩)):=
 ⟨r.hd,by have:=r.dp;rw[XY];omega,by have:=r.un;rw[XX];omega,(by have:=r.gd;first | exact this | simpa [Around.under,Code.isGuard,guardIds] using this)⟩
theorem qS.depth {k:Nat} {A:Around} (r:qS k A):A.depth < recursionLimit:=by have:=r.dp;omega
theorem qS.units {k:Nat} {A:Around} (r:qS k A):A.units+64 < cLine:=by have:=r.un;omega
def QB:TA:=λ_ H Q=>Q [] H
def jc (ta:TE) (tr:TA):TA:=λσ H Q=>ta σ H λx H1=>tr σ H1 λxs H2=>Q (x::xs) H2
section
variable {X:Cx} {e:Expr} {es:List Expr} {te:TE} {t:TA} {pos:Pos}
theorem qe:JA X [] QB:=.of (by
 exact λ_ _ _ _ H Q I h=>Calls.spliced_nil ⟨[],H,I,.nil,h⟩)
theorem qb (ha:JE X e te) (hr:JA X es t) (hs:starEach (e::es) X.env=(false,eval e X.env)::starEach es X.env:=by rfl):JA X (e::es) (jc te t):=.of (by
 have ha:=ha.to
 have hr:=hr.to
 intro pos pins s σ H Q I h
 rw[hs]
 show wpAny _ _ (spliced ((false,eval e X.env)::backTo pos (starEach es X.env))) _ _ s
 refine Calls.spliced_cons (qY (ha pins s σ H _ I h) λu s1 ⟨x,H1,I1,r1,q1⟩=>?_)
 exact qY (hr pos pins s1 σ H1 _ I1 q1) λus s2 ⟨xs,H2,I2,r2,q2⟩=>⟨x::xs,H2,I2,.cons r1 r2,q2⟩)
def vU (t:TA):TE:=λσ H Q=>t σ H λxs H1=>xs.length<=sizeLine/\∀p,H1 p=none->Q (.ref p) (upd H1 p (.tup xs))
def Kq (t:TA):TE:=λσ H Q=>t σ H λxs H1=>xs.length<=sizeLine/\∀p,H1 p=none->Q (.ref p) (upd H1 p (.lst xs))
theorem j0 {x1} (h:JA X es t):JE X (.Tuple es x1 pos) (vU t):=.of (by
 have h:=h.to
 intro pins s σ H Q I hq
 refine wpAny_Tuple_spliced (qY (h pos pins s σ H _ I hq) λus s1 ⟨xs,H1,I1,r,z,q⟩=>⟨by rw[<-r.length];exact z,?_⟩)
 have hf:H1 s1.heap.objs.size=none:=I1.hok.fresh (Nat.le_refl _)
 refine⟨.ref s1.heap.objs.size,upd H1 s1.heap.objs.size (.tup xs),I1.laid (t':=s1.toks) (λb u e=>Heap.get?_push_of_some _ e) (Nat.le_refl _) ?_,rfl,q _ hf⟩
 exact⟨z,us,r,⟨_,Heap.get?_push_size _ rfl,rfl,_,rfl⟩⟩)
theorem jk (h:JA X es t):JE X (.List es pos) (Kq t):=.of (by
 have h:=h.to
 intro pins s σ H Q I hq
 refine wpAny_List_spliced (qY (h pos pins s σ H _ I hq) λus s1 ⟨xs,H1,I1,r,z,q⟩=>⟨by rw[<-r.length];exact z,?_⟩)
 have hf:H1 s1.heap.objs.size=none:=I1.hok.fresh (Nat.le_refl _)
 refine⟨.ref s1.heap.objs.size,upd H1 s1.heap.objs.size (.lst xs),I1.laid (t':=s1.toks) (λb u e=>Heap.get?_push_of_some _ e) (Nat.le_refl _) ?_,rfl,q _ hf⟩
 exact⟨z,us,0,r,Heap.get?_push_size _ rfl⟩)
end
abbrev Sp:=List V->Hp->VK->XK->Prop
abbrev Zd:=List Env->Hp->Shared->XK->Value->Shared->Prop
structure Xp (P:Program) (w:World) (K:PySem.W.Frag) (mg:Str->Option Value) (base:Heap) (A:Around) (outer:List Env) (s:Shared) (H:Hp):Prop where
 frames:A.frames=some outer
 mod:Mod K mg base
 bs:∀b o,base.get? b=some o->s.heap.get? b=some o/\H b=none
 bsz:base.objs.size<=s.heap.objs.size
 funs:s.heap.FunFrames base outer
 frf:∀b∈Zc outer,H b=none
 hok:QZ P w H s.heap
 bare:AllBare s.gens
def CE (outer:List Env) (P:Program) (w:World) (H:Hp) (s:Shared) (Q:VK) (u:Value) (s':Shared):Prop:=
 ∃v H',s'.os=s.os/\AllBare s'.gens/\Un (Zc outer) [] H H' s.heap s'.heap/\QZ P w H' s'.heap/\qG v u/\Q v H'
def CR (CX:Zd) (outer:List Env) (P:Program) (w:World) (H:Hp) (s:Shared) (Q:VK) (E:XK) (r:Result) (s':Shared):Prop:=
 match r with
 | .ok (.ret u)=>CE outer P w H s Q u s'
 | .ok _=>False
 | .error e=>CX outer H s E e s'
structure qo (P:Program) (w:World) (K:PySem.W.Frag) (mg:Str->Option Value) (base:Heap) (CX:Zd) (k:Nat) (f:Addr) (fd:FuncData) (ps:List Str) (sp:Sp):Prop where
 len:∀vs H Q E,sp vs H Q E->vs.length=ps.length
 run:∀(A:Around) (outer:List Env) (s:Shared) (H:Hp) (args:Args) (us:List Value) (vs:List V) (Q:VK) (E:XK),qS k A->Xp P w K mg base A outer s H->BindsTo s fd args (ps.zip us)->qD vs us->sp vs H Q E->
   codeAny (model P w) A (.call (.ref f) args) (CR CX outer P w H s Q E) s
theorem qo.imp {P:Program} {w:World} {K:PySem.W.Frag} {mg:Str->Option Value} {base:Heap} {CX:Zd} {k:Nat} {f:Addr} {fd:FuncData} {ps:List Str} {sp sp':Sp} (F:qo P w K mg base CX k f fd ps sp)
   (h:∀vs H Q E,sp' vs H Q E->sp vs H Q E):qo P w K mg base CX k f fd ps sp':=
 ⟨λvs H Q E q=>F.len vs H Q E (h _ _ _ _ q),λA outer s H args us vs Q E hr he hb hv hs=>F.run A outer s H args us vs Q E hr he hb hv (h _ _ _ _ hs)⟩
theorem Xp.make {P:Program} {w:World} {K:PySem.W.Frag} {mg:Str->Option Value} {base:Heap} {A:Around} {outer:List Env} {s:Shared} {H:Hp} (e:Xp P w K mg base A outer s H) (C:Addr) (us:List Value) (kw:List (Str×Value)):
   Xp P w K mg base (A.under (.builtin "type.__call__" ⟨.ref C::us,kw⟩)) outer s H:=⟨by first | exact e.frames | (simpa [Around.under,Code.envs,Code.isFrame,pushEnvs] using e.frames),e.mod,e.bs,e.bsz,e.funs,e.frf,e.hok,e.bare⟩
section
variable {X:Cx} {pins:List (Addr×Obj)} {σ:St} {H:Hp} {s s':Shared}
theorem qu.env0 (I:qu X pins σ H s):Xp X.prog X.w X.K X.mg X.base X.A X.stack s H:=
 ⟨I.ok.frames,I.ok.mod,I.bs,Nat.le_trans I.ok.bsz I.sz,I.stack,I.stkFree,I.hok,I.bare⟩
theorem qu.after {Q:VK} {u:Value} (I:qu X pins σ H s) (h:CE X.stack X.prog X.w H s Q u s'):EP X pins σ Q u s':=by
 obtain⟨v,H',os,bare,un,hok,r,q⟩:=h
 obtain⟨hh,g,d,t,os'⟩:=s'
 obtain rfl:os'=s.os:=os
 exact⟨v,H',I.call (h':=hh) (g':=g) (d':=d) (t':=t) (ch:=[]) un hok bare (λb z=>absurd z (by simp)),r,q⟩
end
def ZX (sp:Sp) (dvs:List V) (E:XK) (t:TA):TE:=λσ H Q=>t σ H λvs H1=>sp (vs++dvs) H1 Q E
def zC (C:Addr) (m:Str) (sp:Sp) (dvs:List V) (E:XK) (ta:TE) (t:TA):TE:=λσ H Q=>ta σ H λx H1=>∃a dx fs,x=.ref a/\H1 a=some (.ins C dx fs)/\fs.lookup m=none/\
 t σ H1 λvs H2=>sp (x::(vs++dvs)) H2 Q E
def wC (C:Addr) (sp:Sp) (dvs:List V) (E:XK) (t:TA):TE:=λσ H Q=>t σ H λvs H1=>∀x dx,H1 x=none->H1 dx=none->dx≠x->
 sp (.ref x::(vs++dvs)) (upd (upd H1 dx (.own x)) x (.ins C dx [])) (λv H2=>v=.non/\Q (.ref x) H2) E
def jx (K:PySem.W.Frag) (fd:FuncData) (ps:List Str) (ds:List Value):Prop:=
 ∀(s:Shared) (us:List Value),K.In s.heap->(us++ds).length=ps.length->BindsTo s fd ⟨us,[]⟩ (ps.zip (us++ds))
theorem jx.all {K:PySem.W.Frag} {fd:FuncData} {ps:List Str} (h:∀us:List Value,us.length=ps.length->bindArgs fd ⟨us,[]⟩=pure (ps.zip us)):jx K fd ps []:=λs us _ hl=>by
 rw[List.append_nil]at hl ⊢
 exact .of_eq (h us hl)
def jm (CX:Zd) (X:Cx) (E:XK):Prop:=∀(pins:List (Addr×Obj)) (σ:St) (H:Hp) (s:Shared) (e:Value) (s':Shared),qu X pins σ H s->CX X.stack H s E e s'->X.xe e s'
section
variable {X:Cx} {CX:Zd} {k:Nat} {f C:Addr} {fd:FuncData} {ps:List Str} {sp:Sp} {dvs:List V} {ds:List Value} {E:XK} {x m:Str} {p pos apos:Pos} {e o:Expr} {es:List Expr} {ta:TE} {t:TA}
theorem XL {pins:List (Addr×Obj)} {σ:St} {H:Hp} {s:Shared} {Q:VK} {us:List Value} {vs:List V} (F:qo X.prog X.w X.K X.mg X.base CX k f fd ps sp) (hr:qS k X.A) (hb:jx X.K fd ps ds) (hd:qD dvs ds) (hx:jm CX X E)
   (I:qu X pins σ H s) (r:qD vs us) (h:sp (vs++dvs) H Q E):wpAny (model X.prog X.w) X.A (call (.ref f) us) (EP X pins σ Q) X.xe s:=by
 have r2:qD (vs++dvs) (us++ds):=r.append hd
 have hl:(us++ds).length=ps.length:=by rw[<-r2.length];exact F.len _ _ _ _ h
 refine wpAny_call (codeAny_mono (F.run X.A X.stack s H ⟨us,[]⟩ (us++ds) (vs++dvs) Q E hr I.env0 (hb s us I.kIn hl) r2 h) λr s' hq=>?_)
 cases r with
 | error e=>exact hx pins σ H s e s' I hq
 | ok fl=>
   cases fl with
   | ret u=>exact I.after hq
   | next=>exact False.elim hq
   | brk=>exact False.elim hq
   | cont=>exact False.elim hq
theorem WH (F:qo X.prog X.w X.K X.mg X.base CX k f fd ps sp) (hr:qS k X.A) (hg:Gl X x) (hm:X.mg x=some (.ref f)) (hk:PySem.W.keepIn X.K (.ref f)=true) (hb:jx X.K fd ps ds) (hd:qD dvs ds) (hx:jm CX X E)
   (ha:PA X (e::es) t) (hdb:(x==("__debug__":Str))=false:=by decide) (he:starEach (e::es) X.env=(false,eval e X.env)::starEach es X.env:=by rfl) (hpl:(backTo pos (starEach es X.env)).any (·.1)=false:=by rfl):
   PE X (.Call (.Name x p) (e::es) [] pos) (ZX sp dvs E t):=by
 intro pins s σ H Q I h
 refine wpAny_Call_Name_kw (J2 I hg hm ?_ hdb)
 refine PySem.W.callWith_K (h₀:=X.base) I.ok.mod.kin hk (qY (ha pos pins s σ H _ I h) λus s1 ⟨vs,H1,I1,r,q⟩=>⟨I1.kIn,?_⟩) he hpl
 exact XL F hr hb hd hx I1 r q
theorem kA {pl:Sem Bool} (he:PE X o ta) (c:Wh X.K C) (hm:V6 X.K C m f) (F:qo X.prog X.w X.K X.mg X.base CX k f fd ps sp) (hr:qS k X.A) (hb:jx X.K fd ps ds) (hd:qD dvs ds) (hx:jm CX X E) (ha:PA X (e::es) t)
   (hst:starEach (e::es) X.env=(false,eval e X.env)::starEach es X.env:=by rfl) (hpl:(backTo pos (starEach es X.env)).any (·.1)=false:=by rfl)
   (ht:eval (.Call (.Attribute o m apos) (e::es) [] pos) X.env=(do
     let ov <-eval o X.env
     standAt apos.atName
     let (f,first) <-holding [ov] (getMethod ov m pl)
     callWith pos f first (backTo pos (starEach (e::es) X.env)) (backToKw pos (keywordEach [] X.env))):=by rfl):
   PE X (.Call (.Attribute o m apos) (e::es) [] pos) (zC C m sp dvs E ta t):=by
 intro pins s σ H Q I h
 refine PySem.W.methodCall_KW (pl:=pl) (qY (he pins s σ H _ I h) λu s1 ⟨x,H1,I1,rx,a,dx,fs,ex,ea,l,q⟩=>?_) ht
 subst ex
 obtain rfl:u=Value.ref a:=rx
 refine zi I1 ea c hm l ?_
 refine PySem.W.callWith_K (first:=[.ref a]) (h₀:=X.base) I.ok.mod.kin hm.kp (qY (ha pos pins s1 σ H1 _ I1 q) λus s2 ⟨vs,H2,I2,r,q2⟩=>⟨I2.kIn,?_⟩) hst hpl
 exact XL (us:=.ref a::us) (vs:=.ref a::vs) F hr hb hd hx I2 (.cons rfl r) q2
theorem kW {pl:Sem Bool} (he:JE X o ta) (c:Wh X.K C) (hm:V6 X.K C m f) (F:qo X.prog X.w X.K X.mg X.base CX k f fd ps sp) (hr:qS k X.A) (hb:jx X.K fd ps ds) (hd:qD dvs ds) (hx:jm CX X E) (ha:JA X (e::es) t) (hst:starEach (e::es) X.env=(false,eval e X.env)::starEach es X.env:=by rfl) (hpl:(backTo pos (starEach es X.env)).any (·.1)=false:=by rfl) (ht:eval (.Call (.Attribute o m apos) (e::es) [] pos) X.env=(do
     let ov <-eval o X.env
     standAt apos.atName
     let (f,first) <-holding [ov] (getMethod ov m pl)
     callWith pos f first (backTo pos (starEach (e::es) X.env)) (backToKw pos (keywordEach [] X.env))):=by rfl):JE X (.Call (.Attribute o m apos) (e::es) [] pos) (zC C m sp dvs E ta t):=.of (kA he.to c hm F hr hb hd hx ha.to hst hpl ht)
theorem UJ {pl:Sem Bool} (he:PE X o ta) (c:Wh X.K C) (hm:V6 X.K C m f) (F:qo X.prog X.w X.K X.mg X.base CX k f fd ps sp) (hr:qS k X.A) (hb:jx X.K fd ps ds) (hd:qD dvs ds) (hx:jm CX X E)
   (ht:eval (.Call (.Attribute o m apos) [] [] pos) X.env=(do
     let ov <-eval o X.env
     standAt apos.atName
     let (f,first) <-holding [ov] (getMethod ov m pl)
     callWith pos f first (backTo pos (starEach [] X.env)) (backToKw pos (keywordEach [] X.env))):=by rfl):
   PE X (.Call (.Attribute o m apos) [] [] pos) (zC C m sp dvs E ta QB):=by
 intro pins s σ H Q I h
 refine PySem.W.methodCall_KW (pl:=pl) (qY (he pins s σ H _ I h) λu s1 ⟨x,H1,I1,rx,a,dx,fs,ex,ea,l,q⟩=>?_) ht
 subst ex
 obtain rfl:u=Value.ref a:=rx
 refine zi I1 ea c hm l ?_
 exact PySem.W.callWith_K0 (first:=[.ref a]) I1.kIn hm.kp (XL (us:=[.ref a]) (vs:=[.ref a]) F hr hb hd hx I1 (.cons rfl .nil) q)
theorem vd {pl:Sem Bool} (he:JE X o ta) (c:Wh X.K C) (hm:V6 X.K C m f) (F:qo X.prog X.w X.K X.mg X.base CX k f fd ps sp) (hr:qS k X.A) (hb:jx X.K fd ps ds) (hd:qD dvs ds) (hx:jm CX X E) (ht:eval (.Call (.Attribute o m apos) [] [] pos) X.env=(do
     let ov <-eval o X.env
     standAt apos.atName
     let (f,first) <-holding [ov] (getMethod ov m pl)
     callWith pos f first (backTo pos (starEach [] X.env)) (backToKw pos (keywordEach [] X.env))):=by rfl):JE X (.Call (.Attribute o m apos) [] [] pos) (zC C m sp dvs E ta QB):=.of (UJ he.to c hm F hr hb hd hx ht)
structure Mk (K:PySem.W.Frag) (C f:Addr):Prop where
 makes:PySem.W.makesIn K C=true
 init:PySem.W.findIn K (.ref C) "__init__"=some (some (.ref f))
 fn:PySem.W.isFn K (.ref f)=true
 kp:PySem.W.keepIn K (.ref C)=true
theorem Ux {pins:List (Addr×Obj)} {σ:St} {H:Hp} {s:Shared} {Q:VK} {us:List Value} {vs:List V} (M:Mk X.K C f) (F:qo X.prog X.w X.K X.mg X.base CX k f fd ps sp) (hr:qS (k+1) X.A) (hb:jx X.K fd ps ds) (hd:qD dvs ds)
   (hx:jm CX X E) (I:qu X pins σ H s) (r:qD vs us)
   (h:∀x dx,H x=none->H dx=none->dx≠x->sp (.ref x::(vs++dvs)) (upd (upd H dx (.own x)) x (.ins C dx [])) (λv H2=>v=.non/\Q (.ref x) H2) E):
   wpAny (model X.prog X.w) X.A (call (.ref C) us) (EP X pins σ Q) X.xe s:=by
 have hq:=h (s.heap.objs.size+1) s.heap.objs.size (I.hok.fresh (Nat.le_succ _)) (I.hok.fresh (Nat.le_refl _)) (Nat.ne_of_lt (Nat.lt_succ_self _))
 have I2:=qu.made (C:=C) I
 have r2:qD (V.ref (s.heap.objs.size+1)::(vs++dvs)) (Value.ref (s.heap.objs.size+1)::(us++ds)):=.cons rfl (r.append hd)
 have hl:(Value.ref (s.heap.objs.size+1)::us++ds).length=ps.length:=by
   have e:=r2.length
   rw[F.len _ _ _ _ hq]at e
   exact e.symm
 refine wpAny_call (U4 (f:=f) I.kIn M.makes M.init (beq_iff_eq.mp M.fn) (codeAny_mono (F.run _ X.stack _ _ ⟨Value.ref (s.heap.objs.size+1)::us,[]⟩ (Value.ref (s.heap.objs.size+1)::(us++ds)) _ _ E (hr.make C us [])
   (I2.env0.make C us []) (hb _ (Value.ref (s.heap.objs.size+1)::us) I2.kIn hl) r2 hq) λr s' hq'=>?_))
 cases r with
 | error e=>exact hx pins σ _ _ e s' I2 hq'
 | ok fl=>
   cases fl with
   | ret u=>
     obtain⟨v,H',I3,rv,ev,q3⟩:=I2.after hq'
     subst ev
     exact⟨rv,⟨V.ref (s.heap.objs.size+1),H',I3,rfl,q3⟩⟩
   | next=>exact False.elim hq'
   | brk=>exact False.elim hq'
   | cont=>exact False.elim hq'
theorem kZ (M:Mk X.K C f) (F:qo X.prog X.w X.K X.mg X.base CX k f fd ps sp) (hr:qS (k+1) X.A) (hg:Gl X x) (hm:X.mg x=some (.ref C)) (hb:jx X.K fd ps ds) (hd:qD dvs ds) (hx:jm CX X E) (ha:JA X (e::es) t) (hdb:(x==("__debug__":Str))=false:=by decide) (he:starEach (e::es) X.env=(false,eval e X.env)::starEach es X.env:=by rfl) (hpl:(backTo pos (starEach es X.env)).any (·.1)=false:=by rfl):JE X (.Call (.Name x p) (e::es) [] pos) (wC C sp dvs E t):=.of (by
 have ha:=ha.to
 intro pins s σ H Q I h
 refine wpAny_Call_Name_kw (J2 I hg hm ?_ hdb)
 refine PySem.W.callWith_K (h₀:=X.base) I.ok.mod.kin M.kp (qY (ha pos pins s σ H _ I h) λus s1 ⟨vs,H1,I1,r,q⟩=>⟨I1.kIn,?_⟩) he hpl
 exact Ux M F hr hb hd hx I1 r q)
end
section
variable {X:Cx} {CX:Zd} {k:Nat} {f C:Addr} {fd:FuncData} {ps ks:List Str} {sp:Sp} {E:XK} {x m:Str} {p pos apos kpos:Pos} {e o:Expr} {es:List Expr} {kws:List Keyword} {te ta:TE} {t tk:TA} {nm:Option Str}
structure Gh (K:PySem.W.Frag) (fd:FuncData) (ps ks:List Str) (g:List Value->List Value->List Value) (gV:List V->List V->List V):Prop where
 to:∀(s:Shared) (us ws:List Value),K.In s.heap->(g us ws).length=ps.length->BindsTo s fd ⟨us,ks.zip ws⟩ (ps.zip (g us ws))
 rel:∀{vs:List V} {us:List Value} {zs:List V} {ws:List Value},qD vs us->qD zs ws->qD (gV vs zs) (g us ws)
variable {g:List Value->List Value->List Value} {gV:List V->List V->List V}
end
structure qz (N P:List Str) (sc:Scope):Prop where
 kind:sc.kind=.function
 co:sc.isCoroutine=false
 gen:sc.isGenerator=false
 nd:N.Nodup
 pre:N.take P.length=P
 par:∀x∈P,sc.names.lookup x=some .local\/sc.names.lookup x=some .cell
 nofree:∀y∈sc.names,y.2≠.free
theorem zZ {kindOf:Str->Option NameKind} {x:Str}:∀{binds:List (Str×Value)} {m:Str->Option Value},(∀v,(x,v)∉binds)->bindL kindOf binds m x=m x
 | [],_,_=>rfl
 | (n,v)::r,m,h=>by
   unfold bindL
   rw[zZ λw hw=>h w (List.mem_cons_of_mem _ hw)]
   split
   . have:x≠n:=by rintro rfl;exact h v List.mem_cons_self
     simp [this]
   . rfl
theorem z6 {kindOf:Str->Option NameKind} {x:Str}:∀{binds:List (Str×Value)} {m:Str->Option Value},(∀v,(x,v)∉binds)->bindC kindOf binds m x=m x
 | [],_,_=>rfl
 | (n,v)::r,m,h=>by
   unfold bindC
   rw[z6 λw hw=>h w (List.mem_cons_of_mem _ hw)]
   split
   . rfl
   . have:x≠n:=by rintro rfl;exact h v List.mem_cons_self
     simp [this]
theorem z5 {kindOf:Str->Option NameKind} {x:Str} {v:Value}:∀{P:List Str} {vs:List Value} {i:Nat} {m:Str->Option Value},P.Nodup->P[i]?=some x->vs[i]?=some v->kindOf x=some .local->
   bindL kindOf (P.zip vs) m x=some v
 | [],_,_,_,_,h,_,_=>by simp at h
 | _::_,[],_,_,_,_,h,_=>by simp at h
 | p::P,w::vs,0,m,nd,h1,h2,hk=>by
   simp at h1 h2;subst h1;subst h2
   show bindL kindOf ((p,w)::P.zip vs) m p=_
   unfold bindL
   rw[zZ λv hv=>(List.nodup_cons.mp nd).1 (List.of_mem_zip hv).1,if_pos hk]
   simp
 | p::P,w::vs,i+1,m,nd,h1,h2,hk=>by
   show bindL kindOf ((p,w)::P.zip vs) m x=_
   unfold bindL
   exact z5 (i:=i) (List.nodup_cons.mp nd).2 (by simpa using h1) (by simpa using h2) hk
theorem z7 {kindOf:Str->Option NameKind} {x:Str} {v:Value}:∀{P:List Str} {vs:List Value} {i:Nat} {m:Str->Option Value},P.Nodup->P[i]?=some x->vs[i]?=some v->kindOf x≠some .local->
   bindC kindOf (P.zip vs) m x=some v
 | [],_,_,_,_,h,_,_=>by simp at h
 | _::_,[],_,_,_,_,h,_=>by simp at h
 | p::P,w::vs,0,m,nd,h1,h2,hk=>by
   simp at h1 h2;subst h1;subst h2
   show bindC kindOf ((p,w)::P.zip vs) m p=_
   unfold bindC
   rw[z6 λv hv=>(List.nodup_cons.mp nd).1 (List.of_mem_zip hv).1,if_neg hk]
   simp
 | p::P,w::vs,i+1,m,nd,h1,h2,hk=>by
   show bindC kindOf ((p,w)::P.zip vs) m x=_
   unfold bindC
   exact z7 (i:=i) (List.nodup_cons.mp nd).2 (by simpa using h1) (by simpa using h2) hk
def jM (N:List Str) (vs:List V):St:=vs.map some++List.replicate (N.length - vs.length) none
def js (CX:Zd) (P:Program) (w:World) (K:PySem.W.Frag) (mg:Str->Option Value) (base:Heap) (N:List Str) (qual:Str) (scope:Scope) (f:Addr) (cd:Value) (A:Around) (outer:List Env) (s:Shared) (H:Hp) (E:XK):Cx where
 prog:=P
 w:=w
 K:=K
 mg:=mg
 base:=base
 A:=A.deeper (envOfC qual scope s.heap.objs.size f cd)
 N:=N
 s₀:=s
 H₀:=H
 env:=envOfC qual scope s.heap.objs.size f cd
 outer:=outer
 stack:=envOfC qual scope s.heap.objs.size f cd::outer
 ex:=[]
 calm:=true
 fn:=λ_=>true
 pn:=[]
 xe:=λe s'=>wpAny (model P w) (A.deeper (envOfC qual scope s.heap.objs.size f cd)) (leaving (envOfC qual scope s.heap.objs.size f cd) e) (λ_ s''=>CX outer H s E e s'') (λe' s''=>CX outer H s E e' s'') s'
theorem Xi {sc:Scope} {n:Nat} {x:Str} (h:sc.names.lookup x=some .cell):∃c,(cellsFrom n sc.names []).lookup x=some c:=by
 have q:=PySem.W.cellsFrom_some sc.names n [] (.inl h)
 exact Option.isSome_iff_exists.mp q
theorem zO {CX:Zd} {P:Program} {w:World} {K:PySem.W.Frag} {mg:Str->Option Value} {base:Heap} {N ps:List Str} {qual:Str} {scope:Scope} {f:Addr} {cd:Value} {A:Around} {outer:List Env} {s s1:Shared} {H:Hp} {E:XK} {us:List Value} {vs:List V}
   (S:qz N ps scope) (hd:A.handled=none) (e0:Xp P w K mg base A outer s H) (hl:vs.length=ps.length) (r:qD vs us)
   (x:InCallC s s.heap.objs.size (bindL (envOfC qual scope s.heap.objs.size f cd).kindOf (ps.zip us) λ_=>none) (cellsFrom (s.heap.objs.size+1) scope.names []) (bindC (envOfC qual scope s.heap.objs.size f cd).kindOf (ps.zip us) λ_=>none) s1):
   qu (js CX P w K mg base N qual scope f cd A outer s H E) [] (jM N vs) H s1:=by
 have hpl:ps.length<=N.length:=by have:=congrArg List.length S.pre;rw[List.length_take]at this;omega
 obtain⟨h1,tk,rfl,hk⟩:=x.done
 have noA:∀b:Addr,b∉(js CX P w K mg base N qual scope f cd A outer s H E).ex:=λb z=>absurd (show b∈([]:List Addr) from z) (by simp)
 refine⟨⟨e0.mod,S.kind,rfl,rfl,Nat.le_refl _,λy z c h1 h2=>?_,λy hy=>?_,λy c _ h=>?_,λ_=>hd,Around.frames_deeper e0.frames,.inr ⟨rfl,rfl⟩,λb z=>absurd z (noA b),e0.bs,e0.bsz,λb _ _=>noA b,λb z=>absurd z (noA b),e0.funs,e0.frf⟩,
   rfl,e0.bare,Un.kept hk,⟨_,x.toInCall.ns,λi y v h1 h2 h3=>?_⟩,λy c h=>⟨_,x.cell y c h⟩,e0.hok.fresh (Nat.le_refl _),λy c h=>?_,λp hp=>absurd (show p∈([]:List (Addr×Obj)) from hp) (by simp),e0.hok.kept hk,?_⟩
 . exact name_of_addr x.apart (PySem.mem_of_lookup h1) (PySem.mem_of_lookup h2)
 . have hy:scope.names.lookup y=some .cell\/scope.names.lookup y=some .free:=hy
   rcases hy with hy | hy
   . exact Xi hy
   . exact absurd rfl (S.nofree _ (PySem.mem_of_lookup hy))
 . exact Nat.le_of_lt (x.above y c (PySem.mem_of_lookup h))
 . have hi:i < vs.length:=by
     unfold jM at h2
     by_cases hi:i < vs.length
     . exact hi
     . rw[List.getElem?_append_right (by simpa using hi)]at h2
       rw[List.getElem?_replicate]at h2
       split at h2<;>cases h2
   have ha:vs[i]?=some v:=by
     unfold jM at h2
     rw[List.getElem?_append_left (by simpa using hi),List.getElem?_map]at h2
     cases e:vs[i]? with
     | none=>rw[e]at h2;cases h2
     | some a=>rw[e]at h2;cases h2;rfl
   obtain⟨u,hu,rv⟩:=r.get ha
   have hp:ps[i]?=some y:=by
     rw[<-S.pre,List.getElem?_take_of_lt (by omega)];exact h1
   have ndP:ps.Nodup:=by rw[<-S.pre];exact S.nd.sublist (List.take_sublist _ _)
   refine⟨u,rv,?_⟩
   rcases S.par y (List.mem_of_getElem? hp) with k | k
   . exact .inl ⟨k,z5 ndP hp hu k⟩
   . obtain⟨c,e⟩:=Xi (n:=s.heap.objs.size+1) k
     refine .inr ⟨.inl k,c,e,?_⟩
     have q:=x.cell y c e
     rw[z7 ndP hp hu (by show scope.names.lookup y≠_;rw[k];decide)]at q
     exact q
 . exact .inl (e0.hok.fresh (Nat.le_of_lt (x.above y c (PySem.mem_of_lookup h))))
 . unfold jM
   show _=N.length
   rw[List.length_append,List.length_map,List.length_replicate]
   omega
theorem yR {CX:Zd} {P:Program} {w:World} {K:PySem.W.Frag} {mg:Str->Option Value} {base:Heap} {k:Nat} {f:Addr} {name qual:Str} {params:Arguments} {body:List Stmt} {scope:Scope} {dV kV doc pm cdv ct oc:Value} {an od:Option Addr}
   {osl:Array (Option Value)} {N ps:List Str} {sp:Sp} (lk:K.lookup f=some ⟨oc,od,.func (PySem.W.fnOf name qual params body scope dV kV doc pm an cdv ct),osl⟩) (hcd:PySem.W.codeIn K cdv qual=true) (S:qz N ps scope)
   (len:∀vs H Q E,sp vs H Q E->vs.length=ps.length)
   (hbody:∀(A:Around) (outer:List Env) (s:Shared) (H:Hp) (vs:List V) (Q:VK) (E:XK),qS k (A.deeper (envOfC qual scope s.heap.objs.size f cdv))->sp vs H Q E->
     ∃t,vM (js CX P w K mg base N qual scope f cdv A outer s H E) body t/\t {nx:=λ_ H'=>Q .non H',rt:=Q} (jM N vs) H):
   qo P w K mg base CX (k+1) f (PySem.W.fnOf name qual params body scope dV kV doc pm an cdv ct) ps sp:=by
 refine⟨len,λA outer s H args us vs Q E hr e0 hb r hsp=>?_⟩
 have hl:=len _ _ _ _ hsp
 have KX:K.In s.heap:=e0.mod.kin.keeps λb o e=>(e0.bs b o e).1
 have lim:s.heap.NoLimit:=e0.mod.nolimit.keeps λb o e=>(e0.bs b o e).1
 have hkind:∀y∈ps.zip us,scope.names.lookup y.1=some .local\/(scope.names.lookup y.1=some .cell/\((cellsFrom (s.heap.objs.size+1) scope.names []).lookup y.1).isSome=true):=λ⟨n,v⟩ hy=>by
   rcases S.par n (List.of_mem_zip hy).1 with q | q
   . exact .inl q
   . exact .inr ⟨q,PySem.W.cellsFrom_some _ _ _ (.inl q)⟩
 refine codeAny_call_function hr.depth (KX _ _ lk) rfl S.co S.gen rfl (PySem.W.codeRec_of KX hcd) (hb _ _ _ _ ?_)
 refine wpAny_newFunctionEnv_cells S.kind hkind λenv he s1 x=>?_
 subst he
 refine⟨lim.keeps x.toInCall.keep,codeAny_func ?_⟩
 obtain⟨t,ht,hq⟩:=hbody A outer s H vs Q E (hr.deeper _) hsp
 have I:qu (js CX P w K mg base N qual scope f cdv A outer s H E) [] (jM N vs) H s1:=zO S hr.hd e0 hl r x
 refine wpAny_mono (ht [] s1 (jM N vs) H _ I hq) (λfl s' hs=>?_) λe s' hs=>hs
 have fin:∀{σ':St} {H':Hp} {v:V} {u:Value},qu (js CX P w K mg base N qual scope f cdv A outer s H E) [] σ' H' s'->qG v u->Q v H'->CE outer P w H s Q u s':=
   λ{σ' H' v u} J rv q=>⟨v,H',J.os,J.bare,J.base,J.hok,rv,q⟩
 cases fl with
 | ret u=>
   obtain⟨v,σ',H',J,rv,q⟩:=hs
   exact fin J rv q
 | next=>
   obtain⟨σ',H',J,q⟩:=hs
   exact fin (v:=V.non) (u:=Value.none) J rfl q
 | brk=>
   obtain⟨_,_,_,q⟩:=hs
   exact False.elim q
 | cont=>
   obtain⟨_,_,_,q⟩:=hs
   exact False.elim q
end L2
namespace L2
open PySem PySem.Spec PyProof.Rows
section
variable {X:Cx} {x:Str} {p pos:Pos} {e:Expr} {es:List Expr} {t:TA} {id T:String} {r:List V->Hp->VK->Prop}
def yw (r:List V->Hp->VK->Prop) (t:TA):TE:=λσ H Q=>t σ H λvs H1=>r vs H1 Q
theorem qp (hc:jX X (.builtin id) r) (hg:Gl X x) (hm:X.mg x=none) (hv:bootBuiltins x=some (.builtin id)) (ha:JA X (e::es) t) (hn:x≠"__name__":=by decide) (hdb:(x==("__debug__":Str))=false:=by decide) (he:starEach (e::es) X.env=(false,eval e X.env)::starEach es X.env:=by rfl) (hpl:(backTo pos (starEach es X.env)).any (·.1)=false:=by rfl):JE X (.Call (.Name x p) (e::es) [] pos) (yw r t):=.of (by
 have ha:=ha.to
 intro pins s σ H Q I h
 refine wpAny_Call_Name_kw (Qt I hg hm hv ?_ hn hdb)
 exact PyProof.Rows.callWith_builtin1 (qY (ha pos pins s σ H _ I h) λus s1 ⟨vs,H1,I1,r1,q1⟩=>hc pins s1 σ H1 vs us Q I1 r1 q1) he hpl)
theorem jp (hc:jX X (.type T) r) (hg:Gl X x) (hm:X.mg x=none) (hv:bootBuiltins x=some (.type T)) (ha:JA X (e::es) t) (hn:x≠"__name__":=by decide) (hdb:(x==("__debug__":Str))=false:=by decide) (he:starEach (e::es) X.env=(false,eval e X.env)::starEach es X.env:=by rfl) (hpl:(backTo pos (starEach es X.env)).any (·.1)=false:=by rfl):JE X (.Call (.Name x p) (e::es) [] pos) (yw r t):=.of (by
 have ha:=ha.to
 intro pins s σ H Q I h
 refine wpAny_Call_Name_kw (Qt I hg hm hv ?_ hn hdb)
 exact PyProof.Rows.callWith_type1 (qY (ha pos pins s σ H _ I h) λus s1 ⟨vs,H1,I1,r1,q1⟩=>hc pins s1 σ H1 vs us Q I1 r1 q1) he hpl)
end
end L2
namespace HT
open PySem PyProof.Rows
section
open PySem.SeqAt
open PySem.AutoSeq1 (wpAny_loadPart')
open PySem.MeetsSeq PySem.MeetsSeq2 PySem.MeetsSeq3
end
section
variable {prog:Program} {w:World} {A:Around} {E:Value->Shared->Prop} {s:Shared}
def sIx (n d:Nat):Option Int->Nat
 | none=>d
 | some v=>if v < 0 then (v+(n:Int)).toNat else min v.toNat n
theorem sIx_none (n d:Nat):sIx n d none=d:=rfl
theorem sIx_nat (n d k:Nat):sIx n d (some (k:Int))=min k n:=by
 show (if (k:Int) < 0 then ((k:Int)+(n:Int)).toNat else min (k:Int).toNat n)=min k n
 rw[if_neg (by omega),Int.toNat_natCast]
end
end HT
namespace L2
open PySem PySem.Spec PyProof.Rows
abbrev TO:=St->Hp->(Option Int->Hp->Prop)->Prop
def PO (X:Cx) (e:Option Expr) (t:TO):Prop:=
 ∀(pins:List (Addr×Obj)) (s:Shared) (σ:St) (H:Hp) (Q:Option Int->Hp->Prop),qu X pins σ H s->t σ H Q->
   wpAny (model X.prog X.w) X.A (evalPart e X.env) (λu s'=>∃o H',qu X pins σ H' s'/\IsPart u o/\Q o H') X.xe s
@[irreducible] def JO (X:Cx) (e:Option Expr) (t:TO):Prop:=PO X e t
theorem JO.of {X:Cx} {e:Option Expr} {t:TO} (h:PO X e t):JO X e t:=by unfold JO;exact h
theorem JO.to {X:Cx} {e:Option Expr} {t:TO} (h:JO X e t):PO X e t:=by unfold JO at h;exact h
def vV:TO:=λ_ H Q=>Q none H
def wA (t:TE):TO:=λσ H Q=>t σ H λx H1=>∃i,x=.int i/\Q (some i) H1
theorem X5 {ns:List Int}:∀{us:List Value},qD (ns.map V.int) us->IntsAre us ns:=by
 induction ns with
 | nil=>intro us r;rw[List.map_nil]at r;cases r;exact .nil
 | cons n ns ih=>
   intro us r
   rw[List.map_cons]at r
   cases r with
   | cons r1 r2=>
     obtain⟨t,e⟩:=r1
     subst e
     exact .cons n t (ih r2)
section
variable {X:Cx} {e:Expr} {te:TE} {lo hi:Option Expr} {tl th:TO} {pos p2:Pos}
theorem J5:JO X none vV:=.of (by
 intro pins s σ H Q I h
 rw[evalPart_none]
 exact wpAny_pure ⟨none,H,I,.none,h⟩)
theorem QP (h:JE X e te):JO X (some e) (wA te):=.of (by
 have h:=h.to
 intro pins s σ H Q I hw
 rw[evalPart_some]
 refine qY (h pins s σ H _ I hw) λu s1 ⟨x,H1,I1,r1,q1⟩=>?_
 obtain⟨i,rfl,q⟩:=q1
 obtain⟨t,rfl⟩:=r1
 exact⟨some i,H1,I1,.int i t,q⟩)
def Ki (X:Cx) (r:V->Option Int->Option Int->Hp->VK->Prop):Prop:=
 ∀(pins:List (Addr×Obj)) (s:Shared) (σ:St) (H:Hp) (x:V) (v vl vu:Value) (lo hi:Option Int) (sl:Addr) (Q:VK),qu X pins σ H s->qG x v->s.heap.IsSliceOf sl vl vu .none->IsPart vl lo->IsPart vu hi->r x lo hi H Q->
   ∃T id,typeLookup (.type T) "__getitem__"=pure (some (.builtin id))/\s.TypeIs v T/\wpAny (model X.prog X.w) X.A (getItem v (.ref sl)) (EP X pins σ Q) X.xe s
def tSl (r:V->Option Int->Option Int->Hp->VK->Prop) (te:TE) (tl th:TO):TE:=λσ H Q=>te σ H λx H1=>tl σ H1 λl H2=>th σ H2 λu H3=>r x l u H3 Q
theorem QG {r:V->Option Int->Option Int->Hp->VK->Prop} (hr:Ki X r) (he:JE X e te) (hl:JO X lo tl) (hu:JO X hi th):JE X (.Subscript e (.Slice lo hi none p2) pos) (tSl r te tl th):=.of (by
 have he:=he.to
 have hl:=hl.to
 have hu:=hu.to
 intro pins s σ H Q I h
 refine Subscript_ (qY (he pins s σ H _ I h) λv s1 ⟨x,H1,I1,r1,q1⟩=>?_)
 refine wpAny_Slice (qY (hl pins s1 σ H1 _ I1 q1) λvl s2 ⟨l,H2,I2,pl,q2⟩=>qY (hu pins s2 σ H2 _ I2 q2) λvu s3 ⟨u,H3,I3,pu,q3⟩=>?_)
 rw[evalPart_none]
 refine wpAny_pure ?_
 have I4:qu X pins σ H3 {s3 with heap:=s3.heap.push {cls:=.type "slice",data:=.fields #[vl,vu,.none]}}:=I3.kept (t':=s3.toks) λb ob q=>Heap.get?_push_of_some _ q
 obtain⟨T,id,hT,ht,hg⟩:=hr pins {s3 with heap:=s3.heap.push {cls:=.type "slice",data:=.fields #[vl,vu,.none]}} σ H3 x v vl vu l u s3.heap.objs.size Q I4 r1 (Heap.IsSliceOf.new ..) pl pu q3
 show wpAny (model X.prog X.w) X.A (subscriptTail e (.Slice lo hi none p2) v (.ref s3.heap.objs.size)) (EP X pins σ Q) X.xe {s3 with heap:=s3.heap.push {cls:=.type "slice",data:=.fields #[vl,vu,.none]}}
 exact tail_any (ops:=[.ref s3.heap.objs.size,v]) ht hT hg (by with_unfolding_all rfl))
def cutV (xs:List V) (lo hi:Option Int):List V:=(xs.drop (HT.sIx xs.length 0 lo)).take (HT.sIx xs.length xs.length hi - HT.sIx xs.length 0 lo)
theorem ZE (xs:List V) (lo hi:Option Int):(cutV xs lo hi).length<=xs.length:=by
 unfold cutV
 rw[List.length_take,List.length_drop]
 omega
end
end L2
namespace L2
open PySem PySem.Spec PyProof.Rows
def yO (n:Nat) (i:Int):Option Nat:=if 0<=i then (if i < n then some i.toNat else none) else if -(n:Int)<=i then some (i+n).toNat else none
def Xl {α:Type} (xs:List α) (i:Int):Option α:=(yO xs.length i).bind λj=>xs[j]?
theorem k8 {n:Nat} {i:Int} {j:Nat} (h:yO n i=some j):seqIndex? i n=some j/\j < n/\-(n:Int)<=i/\i < n:=by
 unfold yO at h
 by_cases h0:0<=i
 . rw[if_pos h0]at h
   by_cases h1:i < n
   . rw[if_pos h1]at h
     have e:i.toNat=j:=Option.some.inj h
     exact⟨by rw[seqIndex_of h0 h1,e],by omega,by omega,h1⟩
   . rw[if_neg h1]at h;cases h
 . rw[if_neg h0]at h
   by_cases h1:-(n:Int)<=i
   . rw[if_pos h1]at h
     have e:(i+n).toNat=j:=Option.some.inj h
     exact⟨by rw[seqIndex_neg (by omega) h1,e],by omega,h1,by omega⟩
   . rw[if_neg h1]at h;cases h
theorem atI_get {α:Type} {xs:List α} {i:Int} {v:α} (h:Xl xs i=some v):∃j,seqIndex? i xs.length=some j/\xs[j]?=some v/\j < xs.length/\-(xs.length:Int)<=i/\i < xs.length:=by
 unfold Xl at h
 cases e:yO xs.length i with
 | none=>rw[e]at h;cases h
 | some j=>
   rw[e]at h
   obtain⟨h1,h2,h3,h4⟩:=k8 e
   exact⟨j,h1,h,h2,h3,h4⟩
theorem J8 {α:Type} {xs:List α} {j:Nat} {v:α} (h:xs[j]?=some v):Xl xs (j:Int)=some v:=by
 have hj:j < xs.length:=(List.getElem?_eq_some_iff.mp h).1
 have e:yO xs.length (j:Int)=some j:=by
   unfold yO
   rw[if_pos (by omega),if_pos (by omega)];simp
 unfold Xl;rw[e];exact h
def ym (b:Expr):Prop:=∀o i,subscripted b false o i=operate [o,i] (getItem o i)
def Kk (X:Cx) (r:R2):Prop:=
 ∀(value slice:Expr) (pins:List (Addr×Obj)) (s:Shared) (σ:St) (H:Hp) (x y:V) (v u:Value) (Q:VK),qu X pins σ H s->qG x v->qG y u->r x y H Q->
   subscripted slice false v u=operate [v,u] (getItem v u)->wpAny (model X.prog X.w) X.A (subscriptTail value slice v u) (EP X pins σ Q) X.xe s
def Kj (X:Cx) (id:String) (r:V->List V->Hp->VK->Prop):Prop:=
 ∀(pins:List (Addr×Obj)) (s:Shared) (σ:St) (H:Hp) (x:V) (xs:List V) (v:Value) (us:List Value) (Q:VK),qu X pins σ H s->qG x v->qD xs us->r x xs H Q->
   wpAny (model X.prog X.w) X.A (call (.builtin id) (v::us)) (EP X pins σ Q) X.xe s
section
variable {X:Cx} {a b:Expr} {ta tb:TE} {pos:Pos}
theorem jg {r:R2} (hr:Kk X r) (ha:JE X a ta) (hb:JE X b tb) (hs:ym b):JE X (.Subscript a b pos) (Xs r ta tb):=.of (by
 have ha:=ha.to
 have hb:=hb.to
 intro pins s σ H Q I h
 exact Subscript_ (x9 ha hb I h λv u s2 x y H2 I2 rx ry q=>hr a b pins s2 σ H2 x y v u Q I2 rx ry q (hs _ _)))
def xi (K:PySem.W.Frag):R2:=λx y H Q=>∃p xs i v,x=.ref p/\y=.int i/\SqL K H p xs/\Xl xs i=some v/\Q v H
def XN (K:PySem.W.Frag):R2:=λx y H Q=>∃p xs i v,x=.ref p/\y=.int i/\SqT K H p xs/\Xl xs i=some v/\Q v H
def KG:R2:=λx y H Q=>∃z i c,x=.str z/\y=.int i/\z.length<=sizeLine/\Xl z.cps.toList i=some c/\Q (.str ⟨#[c]⟩) H
theorem jl:Kk X (xi X.K):=by
 intro value slice pins s σ H x y v u Q I rx ry h hs
 obtain⟨p,xs,i,z,rfl,rfl,hq,he,q⟩:=h
 cases rx
 obtain⟨t,rfl⟩:=ry
 obtain⟨its,r,pl,hz⟩:=I.list hq
 obtain⟨j,h1,h2,h3,h4,h5⟩:=atI_get he
 obtain⟨w,ew,rw'⟩:=r.get h2
 have hl:=r.length
 have hn:=zc
 have fin:EP X pins σ Q w s:=⟨z,H,I,rw',q⟩
 by_cases h0:0<=i
 . have hj:i.toNat=j:=by
     rw[seqIndex_of h0 h5]at h1
     exact Option.some.inj h1
   exact item_listR pl.isList h0 (by omega) (by rw[hj];simpa using ew) fin hs
 . have hj:(i+(its.toArray.size:Int)).toNat=j:=by
     rw[seqIndex_neg (by omega) h4]at h1
     rw[List.size_toArray,<-hl]
     exact Option.some.inj h1
   exact subscriptTail_builtinR (x:=w) pl.isList.typeIs slot_list_getitem.lookup
     (wpAny_getItem_list_neg (Q:=λr s'=>r=w/\EP X pins σ Q r s') pl.isList (by omega) (by rw[List.size_toArray]<;>omega) (by omega) (by rw[hj];simpa using ew) ⟨rfl,fin⟩) hs
theorem Qn:Kk X (XN X.K):=by
 intro value slice pins s σ H x y v u Q I rx ry h hs
 obtain⟨p,xs,i,z,rfl,rfl,hq,he,q⟩:=h
 cases rx
 obtain⟨t,rfl⟩:=ry
 obtain⟨its,r,pl,hz⟩:=I.tuple hq
 obtain⟨j,h1,h2,h3,h4,h5⟩:=atI_get he
 obtain⟨w,ew,rw'⟩:=r.get h2
 have hl:=r.length
 have hn:=zc
 have fin:EP X pins σ Q w s:=⟨z,H,I,rw',q⟩
 exact subscriptTail_builtinR (x:=w) pl.typeIs slot_tuple_getitem.lookup
   (getItem_tuple (j:=j) (Q:=λr s'=>r=w/\EP X pins σ Q r s') pl (by omega) (by omega) (by rw[List.size_toArray,<-hl];exact h1) (by simpa using ew) ⟨rfl,fin⟩) hs
theorem vi:Kk X KG:=by
 intro value slice pins s σ H x y v u Q I rx ry h hs
 obtain⟨z,i,c,rfl,rfl,hz,he,q⟩:=h
 obtain⟨t,rfl⟩:=rx
 obtain⟨t',rfl⟩:=ry
 obtain⟨j,h1,h2,h3,h4,h5⟩:=atI_get he
 have hl:z.cps.toList.length=z.length:=by simp [Str.length]
 rw[hl]at h1 h4 h5
 have hn:=zc
 exact tail_any (typeIs_str s z t) slot_str_getitem.lookup (getItem_str (c:=c) (by
   have e1:decide (i < -(2^63:Int))=false:=decide_eq_false (by omega)
   have e2:decide (i ≥ 2^63)=false:=decide_eq_false (by omega)
   rw[e1,e2,Bool.or_false]) (by rw[h1];simpa using h2) ⟨.str ⟨#[c]⟩,H,I.tok _,⟨_,rfl⟩,q⟩) hs
theorem Yc (lo hi:Option Int) (n:Nat):(sliceBounds lo hi none n).1=((HT.sIx n 0 lo:Nat):Int)/\(sliceBounds lo hi none n).2.1=((HT.sIx n n hi:Nat):Int)/\(sliceBounds lo hi none n).2.2=1:=by
 refine⟨?_,?_,rfl⟩
 . cases lo with
   | none=>simp [sliceBounds,HT.sIx]
   | some i=>
     simp only[sliceBounds,HT.sIx,Option.getD_none,show (1:Int) > 0 by decide,if_true]
     by_cases h:i < 0
     . simp only[h,if_true]<;>omega
     . simp only[h,if_false]<;>omega
 . cases hi with
   | none=>simp [sliceBounds,HT.sIx]
   | some i=>
     simp only[sliceBounds,HT.sIx,Option.getD_none,show (1:Int) > 0 by decide,if_true]
     by_cases h:i < 0
     . simp only[h,if_true]<;>omega
     . simp only[h,if_false]<;>omega
theorem Jq (its:List Value) (lo hi:Option Int):slicePick its.toArray lo hi none=((its.drop (HT.sIx its.length 0 lo)).take (HT.sIx its.length its.length hi - HT.sIx its.length 0 lo)).toArray:=by
 obtain⟨h1,h2,h3⟩:=Yc lo hi its.toArray.size
 unfold slicePick
 rw[h1,h2,h3]
 simp only[sliceRange_one,pick_run,List.size_toArray]<;>rfl
def KF (K:PySem.W.Frag):V->Option Int->Option Int->Hp->VK->Prop:=λx lo hi H Q=>∃a xs,x=.ref a/\SqL K H a xs/\∀p,H p=none->Q (.ref p) (upd H p (.lst (cutV xs lo hi)))
theorem Yd:Ki X (KF X.K):=by
 intro pins s σ H x v vl vu lo hi sl Q I rx hs pl pu h
 obtain⟨a,xs,rfl,hx,q⟩:=h
 cases rx
 obtain⟨its,r,ht,hz⟩:=I.list hx
 have hlen:=r.length
 refine⟨"list",_,slot_list_getitem.lookup,ht.isList.typeIs,?_⟩
 refine wpAny_getItem_list_slice ht.isList hs pl pu .none (by simp) ?_ (by rw[List.size_toArray]<;>omega)
 rw[Jq,<-hlen]
 refine⟨.ref s.heap.objs.size,_,I.laid (t':=s.toks) (o:=.lst (cutV xs lo hi)) (λb ob q=>Heap.get?_push_of_some _ q) (Nat.le_refl _) ?_,rfl,q _ (I.hok.fresh (Nat.le_refl _))⟩
 exact⟨Nat.le_trans (ZE xs lo hi) hz,_,0,(r.drop (HT.sIx xs.length 0 lo)).take (HT.sIx xs.length xs.length hi - HT.sIx xs.length 0 lo),Heap.get?_push_size _ rfl⟩
def J6:V->Bool
 | .non=>true
 | .bl _=>true
 | .int _=>true
 | .str _=>true
 | _=>false
def yf:V->V->Bool
 | .non,.non=>true
 | .bl a,.bl b=>a==b
 | .bl a,.int b=>(if a then 1 else 0)==b
 | .int a,.bl b=>a==(if b then 1 else 0)
 | .int a,.int b=>a==b
 | .str a,.str b=>a==b
 | _,_=>false
theorem x5 {A:Around} {s:Shared} {y x:V} {u v:Value} (ry:qG y u) (rx:qG x v) (fy:J6 y=true) (fx:J6 x=true):SeqAt.EqAt A s u v (yf y x):=by
 cases y with
 | non=>
   cases ry
   cases x with
   | non=>cases rx;exact SeqAt.EqAt.same _
   | bl b=>cases rx;exact SeqAt.EqAt.none_bool b
   | int b=>obtain⟨t,rfl⟩:=rx;exact SeqAt.EqAt.none_int b t
   | str b=>obtain⟨t,rfl⟩:=rx;exact SeqAt.EqAt.none_str b t
   | _=>exact absurd (show false=true from fx) Bool.false_ne_true
 | bl a=>
   cases ry
   cases x with
   | non=>cases rx;exact SeqAt.EqAt.bool_none a
   | bl b=>cases rx;exact SeqAt.EqAt.bool_bool a b
   | int b=>obtain⟨t,rfl⟩:=rx;exact SeqAt.EqAt.bool_int a b t
   | str b=>obtain⟨t,rfl⟩:=rx;exact SeqAt.EqAt.bool_str a b t
   | _=>exact absurd (show false=true from fx) Bool.false_ne_true
 | int a=>
   obtain⟨t',rfl⟩:=ry
   cases x with
   | non=>cases rx;exact SeqAt.EqAt.int_none a t'
   | bl b=>cases rx;exact SeqAt.EqAt.int_bool a t' b
   | int b=>obtain⟨t,rfl⟩:=rx;exact SeqAt.EqAt.int_int a t' b t
   | str b=>obtain⟨t,rfl⟩:=rx;exact SeqAt.EqAt.int_str a t' b t
   | _=>exact absurd (show false=true from fx) Bool.false_ne_true
 | str a=>
   obtain⟨t',rfl⟩:=ry
   cases x with
   | non=>cases rx;exact SeqAt.EqAt.str_none a t'
   | bl b=>cases rx;exact SeqAt.EqAt.str_bool a t' b
   | int b=>obtain⟨t,rfl⟩:=rx;exact SeqAt.EqAt.str_int a t' b t
   | str b=>obtain⟨t,rfl⟩:=rx;exact SeqAt.EqAt.str_str a t' b t
   | _=>exact absurd (show false=true from fx) Bool.false_ne_true
 | _=>exact absurd (show false=true from fy) Bool.false_ne_true
def Wa (x:V) (u:Value):Bool:=match u with
 | .none=>yf .non x
 | .bool b=>yf (.bl b) x
 | .int i _=>yf (.int i) x
 | .str z _=>yf (.str z) x
 | _=>false
theorem vx {x y:V} {u:Value} (r:qG y u) (f:J6 y=true):Wa x u=yf y x:=by
 cases y with
 | non=>cases r;rfl
 | bl b=>cases r;rfl
 | int i=>obtain⟨t,rfl⟩:=r;rfl
 | str z=>obtain⟨t,rfl⟩:=r;rfl
 | _=>exact absurd (show false=true from f) Bool.false_ne_true
theorem Za {x:V}:∀{xs:List V} {us:List Value},qD xs us->xs.all J6=true->us.any (Wa x)=xs.any λy=>yf y x
 | _,_,.nil,_=>rfl
 | y::xs,u::us,.cons r t,f=>by
   rw[List.all_cons,Bool.and_eq_true]at f
   rw[List.any_cons,List.any_cons,vx r f.1,Za t f.2]
theorem Jd {A:Around} {s:Shared} {x:V} {v:Value} (rx:qG x v) (fx:J6 x=true):∀{xs:List V} {us:List Value},qD xs us->xs.all J6=true->∀u∈us,SeqAt.EqAt A s u v (Wa x u)
 | _,_,.nil,_=>λu hu=>by cases hu
 | y::xs,u::us,.cons r t,f=>λu' hu=>by
   rw[List.all_cons,Bool.and_eq_true]at f
   rcases List.mem_cons.mp hu with rfl | hu
   . rw[vx r f.1];exact x5 r rx f.1 fx
   . exact Jd rx fx t f.2 u' hu
def Xt (x:V) (xs:List V):Bool:=xs.any λy=>yf y x
def KH (K:PySem.W.Frag) (neg:Bool):R2:=λx y H Q=>∃p xs,y=.ref p/\(SqL K H p xs\/SqT K H p xs)/\J6 x=true/\xs.all J6=true/\Q (.bl (if neg then !Xt x xs else Xt x xs)) H
theorem zF:JF X (compareOp .In) (KH X.K false):=by
 intro pins s σ H x y v u Q I rx ry h
 obtain⟨p,xs,rfl,hq,fx,fs,q⟩:=h
 cases ry
 rcases hq with hq | hq
 . obtain⟨its,r,pl,hz⟩:=I.list hq
   refine SeqAt.in_listAt (Wa x) pl.isList (λw hw=>Jd rx fx r fs w (by simpa using hw)) ⟨.bl _,H,I,rfl,?_⟩
   rw[show its.toArray.any (Wa x)=its.any (Wa x) by simp,Za r fs]
   exact q
 . obtain⟨its,r,pl,hz⟩:=I.tuple hq
   refine SeqAt.in_tupleAt (Wa x) pl (λw hw=>Jd rx fx r fs w (by simpa using hw)) ⟨.bl _,H,I,rfl,?_⟩
   rw[show its.toArray.any (Wa x)=its.any (Wa x) by simp,Za r fs]
   exact q
theorem J0:JF X (compareOp .NotIn) (KH X.K true):=by
 intro pins s σ H x y v u Q I rx ry h
 obtain⟨p,xs,rfl,hq,fx,fs,q⟩:=h
 cases ry
 rcases hq with hq | hq
 . obtain⟨its,r,pl,hz⟩:=I.list hq
   refine SeqAt.notIn_listAt (Wa x) pl.isList (λw hw=>Jd rx fx r fs w (by simpa using hw)) ⟨.bl _,H,I,rfl,?_⟩
   rw[show its.toArray.any (Wa x)=its.any (Wa x) by simp,Za r fs]
   exact q
 . obtain⟨its,r,pl,hz⟩:=I.tuple hq
   refine SeqAt.notIn_tupleAt (Wa x) pl (λw hw=>Jd rx fx r fs w (by simpa using hw)) ⟨.bl _,H,I,rfl,?_⟩
   rw[show its.toArray.any (Wa x)=its.any (Wa x) by simp,Za r fs]
   exact q
theorem qB:jX X (.builtin "len") (λxs H Q=>∃p ys,xs=[.ref p]/\(SqL X.K H p ys\/SqT X.K H p ys)/\Q (.int ys.length) H):=by
 intro pins s σ H xs us Q I r h
 obtain⟨p,ys,rfl,hq,q⟩:=h
 obtain⟨u,rfl,rx⟩:=Qz r
 cases rx
 have hn:=zc
 rcases hq with hq | hq
 . obtain⟨its,r',pl,hz⟩:=I.list hq
   have hlen:=r'.length
   exact Calls.call_len_list pl.isList (by simp only[List.size_toArray]<;>omega) ⟨.int ys.length,H,I.tok _,⟨s.toks+1,by rw[List.size_toArray,hlen]⟩,q⟩
 . obtain⟨its,r',pl,hz⟩:=I.tuple hq
   have hlen:=r'.length
   exact len_tuple pl (by simp only[List.size_toArray]<;>omega) ⟨.int ys.length,H,I.tok _,⟨s.toks+1,by rw[List.size_toArray,hlen]⟩,q⟩
theorem QW:jX X (.builtin "len") (λxs H Q=>∃z,xs=[.str z]/\z.length<=sizeLine/\Q (.int z.length) H):=by
 intro pins s σ H xs us Q I r h
 obtain⟨z,rfl,hz,q⟩:=h
 obtain⟨u,rfl,t,rfl⟩:=Qz r
 have hn:=zc
 exact len_str (by omega) ⟨.int z.length,H,I.tok _,⟨_,rfl⟩,q⟩
theorem jQ:jX X (.type "list") (λxs H Q=>∃p ys,xs=[.ref p]/\(SqL X.K H p ys\/SqT X.K H p ys)/\∀l,H l=none->Q (.ref l) (upd H l (.lst ys))):=by
 intro pins s σ H xs us Q I r h
 obtain⟨p,ys,rfl,hq,q⟩:=h
 obtain⟨u,rfl,rx⟩:=Qz r
 cases rx
 have fin:∀(its:List Value),qD ys its->ys.length<=sizeLine->∀(h':Heap) (c':Nat),(∀b o',s.heap.get? b=some o'->h'.get? b=some o')->
     h'.get? s.heap.objs.size=some {cls:=.type "list",dict:=none,data:=.seq its.toArray c',slots:=#[]}->EP X pins σ Q (.ref s.heap.objs.size) {s with heap:=h'}:=λits r' hz h' c' kp e=>
   ⟨.ref s.heap.objs.size,_,I.laid (t':=s.toks) kp (Nat.le_refl _) (show qx X.prog X.w _ h' _ (.lst ys) from⟨hz,its,c',r',e⟩),rfl,q _ (I.hok.fresh (Nat.le_refl _))⟩
 rcases hq with hq | hq
 . obtain⟨its,r',pl,hz⟩:=I.list hq
   have hlen:=r'.length
   obtain⟨o,ho,hc,n,hd⟩:=pl.isList
   exact call_list_seq p (.inl rfl) ho hc hd (λh' c' kp e=>fin its r' hz h' c' kp e) (by simp only[List.size_toArray]<;>omega)
 . obtain⟨its,r',pl,hz⟩:=I.tuple hq
   have hlen:=r'.length
   obtain⟨o,ho,hc,n,hd⟩:=pl
   exact call_list_seq p (.inr rfl) ho hc hd (λh' c' kp e=>fin its r' hz h' c' kp e) (by simp only[List.size_toArray]<;>omega)
theorem Jv:jX X (.type "tuple") (λxs H Q=>∃p ys,xs=[.ref p]/\((SqL X.K H p ys/\∀l,H l=none->Q (.ref l) (upd H l (.tup ys)))\/(SqT X.K H p ys/\Q (.ref p) H))):=by
 intro pins s σ H xs us Q I r h
 obtain⟨p,ys,rfl,h⟩:=h
 obtain⟨u,rfl,rx⟩:=Qz r
 cases rx
 rcases h with ⟨hq,q⟩ | ⟨hq,q⟩
 . obtain⟨its,r',pl,hz⟩:=I.list hq
   have hlen:=r'.length
   refine call_tuple_list pl.isList (λh' kp=>?_) (by simp only[List.size_toArray]<;>omega)
   have I1:qu X pins σ H {s with heap:=h'}:=I.kept (t':=s.toks) kp
   have I2:qu X pins σ (upd H h'.objs.size (.tup ys)) {s with heap:=h'.push {cls:=.type "tuple",data:=.seq its.toArray}}:=
     I1.laid (t':=s.toks) (λb o e=>Heap.get?_push_of_some _ e) (Nat.le_refl _) (show qx X.prog X.w _ _ _ (.tup ys) from⟨hz,its,r',IsTup.new _ _⟩)
   exact⟨.ref h'.objs.size,_,I2,rfl,q _ (I1.hok.fresh (Nat.le_refl _))⟩
 . obtain⟨its,r',pl,hz⟩:=I.tuple hq
   exact call_tuple_same pl ⟨.ref p,H,I,rfl,q⟩
def Km (K:PySem.W.Frag) (T:String) (x:V) (H:Hp):Prop:=match x with
 | .str _=>T="str"
 | .int _=>T="int"
 | .ref p=>(T="list"/\∃xs,SqL K H p xs)\/(T="tuple"/\∃o,K.lookup p=some o/\o.cls=.type "tuple"/\o.dict=none)\/
     (T="dict"/\((∃kvs,H p=some (.dK kvs))\/∃kvs,H p=some (.dT kvs)))\/(T="set"/\∃S n,H p=some (.set S n))
 | _=>False
theorem V8 {pins:List (Addr×Obj)} {σ:St} {H:Hp} {s:Shared} {T:String} {x:V} {v:Value} (I:qu X pins σ H s) (r:qG x v) (ty:Km X.K T x H):
   s.TypeIs v T/\∀a,v=.ref a->∃ob,s.heap.get? a=some ob/\ob.dict=none:=by
 cases x with
 | str z=>
   obtain⟨t,rfl⟩:=r
   cases (show T="str" from ty)
   exact⟨typeIs_str s z t,λ_ e=>nomatch e⟩
 | int i=>
   obtain⟨t,rfl⟩:=r
   cases (show T="int" from ty)
   exact⟨typeIs_int s i t,λ_ e=>nomatch e⟩
 | ref p=>
   cases r
   rcases ty with ⟨rfl,xs,hq⟩ | ⟨rfl,o,hk,hc,hd⟩ | ⟨rfl,hk⟩ | ⟨rfl,S,n,hk⟩
   . obtain⟨its,_,pl,_⟩:=I.list hq
     refine⟨pl.isList.typeIs,λa e=>?_⟩
     cases e
     obtain⟨o,n,e,c,hd,_⟩:=pl
     exact⟨o,e,hd⟩
   . refine⟨⟨o,I.kIn p o hk,hc⟩,λa e=>?_⟩
     cases e
     exact⟨o,I.kIn _ o hk,hd⟩
   . have z:∃o,s.heap.get? p=some o/\o.ExactDict:=by
       rcases hk with ⟨kvs,hk⟩ | ⟨kvs,hk⟩
       . obtain⟨_,_,_,_,o,_,_,e,ex,_⟩:=I.hok p _ hk
         exact⟨o,e,ex⟩
       . obtain⟨_,_,_,_,o,_,_,e,ex,_⟩:=I.hok p _ hk
         exact⟨o,e,ex⟩
     obtain⟨o,e,ex⟩:=z
     refine⟨⟨o,e,ex.1⟩,λa e2=>?_⟩
     cases e2
     exact⟨o,e,ex.2.1⟩
   . obtain⟨o,_,_,_,e,ex,_⟩:=I.hok p _ hk
     refine⟨⟨o,e,ex.1⟩,λa e2=>?_⟩
     cases e2
     exact⟨o,e,ex.2.1⟩
 | _=>exact False.elim ty
def Kw (K:PySem.W.Frag) (T:String) (r:V->List V->Hp->VK->Prop) (to:TE):TE:=λσ H Q=>to σ H λx H1=>Km K T x H1/\r x [] H1 Q
def tBM (K:PySem.W.Frag) (T:String) (r:V->List V->Hp->VK->Prop) (to:TE) (t:TA):TE:=λσ H Q=>to σ H λx H1=>Km K T x H1/\t σ H1 λxs H2=>r x xs H2 Q
variable {o e:Expr} {es:List Expr} {to:TE} {t:TA} {name:Str} {apos cpos:Pos} {T id:String} {r:V->List V->Hp->VK->Prop}
theorem xU (pa:PlainAttrs T) (slot:Slot T name id) (hty:typeOf (.builtin id)=pure (.type "method_descriptor")) (hm:Kj X id r) (ho:JE X o to) (hbase:attributeBase o name X.env (eval o X.env)=eval o X.env:=by rfl) (hline:(apos.endLine==cpos.line)=true:=by rfl):JE X (.Call (.Attribute o name apos) [] [] cpos) (Kw X.K T r to):=.of (by
 have ho:=ho.to
 intro pins s σ H Q I h
 refine wpAny_Call_method0_late hbase hline (qY (ho pins s σ H _ I h) λv s1 ⟨x,H1,I1,r1,ty,q1⟩=>?_)
 obtain⟨h1,h2⟩:=V8 I1 r1 ty
 exact⟨T,id,pa,slot,hty,h1,h2,Calls.callWith_builtin rfl (PySem.evalArgs_none (hm pins s1 σ H1 x [] v [] Q I1 r1 .nil q1))⟩)
theorem ud (pa:PlainAttrs T) (slot:Slot T name id) (hty:typeOf (.builtin id)=pure (.type "method_descriptor")) (hm:Kj X id r) (ho:PE X o to) (ha:PA X (e::es) t)
   (hbase:attributeBase o name X.env (eval o X.env)=eval o X.env:=by rfl)
   (hfew:((backTo cpos (starEach (e::es) X.env)).all (λx=> !x.1)&&(backToKw cpos (keywordEach [] X.env)).all (λx=>x.1.isSome)
     &&decide ((e::es).length+([]:List Keyword).length+(if ([]:List Keyword).isEmpty then 0 else 1) < 30))=true:=by rfl)
   (hline:(apos.endLine==cpos.line)=true:=by rfl) (hs:starEach (e::es) X.env=(false,eval e X.env)::starEach es X.env:=by rfl) (hplain:(backTo cpos (starEach es X.env)).any (·.1)=false:=by rfl):
   PE X (.Call (.Attribute o name apos) (e::es) [] cpos) (tBM X.K T r to t):=by
 intro pins s σ H Q I h
 refine wpAny_Call_method_late hbase hfew hline rfl (qY (ho pins s σ H _ I h) λv s1 ⟨x,H1,I1,r1,ty,q1⟩=>?_)
 obtain⟨h1,h2⟩:=V8 I1 r1 ty
 refine⟨T,id,pa,slot,hty,h1,h2,?_⟩
 have hA:=ha cpos pins s1 σ H1 _ I1 q1
 rw[hs]at hA ⊢
 refine Calls.callWith_builtin (by show (false || (backTo cpos (starEach es X.env)).any (·.1))=false;rw[hplain]<;>rfl) (Calls.evalArgs_plain ?_)
 exact qY hA λus s2 ⟨vs,H2,I2,r2,q2⟩=>hm pins s2 σ H2 x vs v us Q I2 r1 r2 q2
theorem Y8 (pa:PlainAttrs T) (slot:Slot T name id) (hty:typeOf (.builtin id)=pure (.type "method_descriptor")) (hm:Kj X id r) (ho:JE X o to) (ha:JA X (e::es) t) (hbase:attributeBase o name X.env (eval o X.env)=eval o X.env:=by rfl) (hfew:((backTo cpos (starEach (e::es) X.env)).all (λx=> !x.1)&&(backToKw cpos (keywordEach [] X.env)).all (λx=>x.1.isSome)
     &&decide ((e::es).length+([]:List Keyword).length+(if ([]:List Keyword).isEmpty then 0 else 1) < 30))=true:=by rfl) (hline:(apos.endLine==cpos.line)=true:=by rfl) (hs:starEach (e::es) X.env=(false,eval e X.env)::starEach es X.env:=by rfl) (hplain:(backTo cpos (starEach es X.env)).any (·.1)=false:=by rfl):JE X (.Call (.Attribute o name apos) (e::es) [] cpos) (tBM X.K T r to t):=.of (ud pa slot hty hm ho.to ha.to hbase hfew hline hs hplain)
end
end L2
namespace L2
open PySem PySem.Spec PyProof.Rows
def Ge (X:Cx) (id:String) (r:V->List V->Hp->VK->Prop):Prop:=
 ∀(pins:List (Addr×Obj)) (s:Shared) (σ:St) (H:Hp) (x:V) (xs:List V) (v:Value) (us:List Value) (Q:VK),qu X pins σ H s->qG x v->qD xs us->r x xs H Q->
   wpAny (model X.prog X.w) X.A (call (.builtin id) (v::us)) (EP X pins σ Q) X.xe s
theorem qD.one:∀{x:V} {us:List Value},qD [x] us->∃u,us=[u]/\qG x u
 | _,_,.cons r .nil=>⟨_,rfl,r⟩
theorem qD.zero:∀{us:List Value},qD [] us->us=[]
 | _,.nil=>rfl
theorem qD.reverse {xs:List V} {us:List Value} (h:qD xs us):qD xs.reverse us.reverse:=by
 induction h with
 | nil=>exact .nil
 | cons r t ih=>rw[List.reverse_cons,List.reverse_cons];exact qD.append ih (.cons r .nil)
section
variable {X:Cx} {pins:List (Addr×Obj)} {σ:St} {H:Hp} {s:Shared} {l b:Addr} {xs ys zs:List V}
theorem qu.lset {its its':List Value} {n:Nat} {f:Array Value->Array Value} {t':Nat} (I:qu X pins σ H s) (hH:H l=some (.lst xs))
   (e:s.heap.get? l=some {cls:=.type "list",data:=.seq its.toArray n}) (hf:f its.toArray=its'.toArray) (hv:qD ys its') (hz:ys.length<=sizeLine):
   qu X pins σ (upd H l (.lst ys)) {s with heap:=s.heap.update l (Obj.mapSeq f),toks:=t'}:=by
 have q:=PySem.IsL.update e f
 rw[hf]at q
 refine I.write (x:=l) (e:=l) (by rw[hH];exact trivial) (.inl rfl) (λb' u hb hu=>(Heap.get?_update_other s.heap (Obj.mapSeq f) (Ne.symm hb)).trans hu) ⟨_,q⟩ ?_
 exact⟨hz,its',_,hv,q⟩
theorem qu.lstM (I:qu X pins σ H s) (hH:H l=some (.lst xs)):xs.length<=sizeLine/\∃(its:List Value) (n:Nat),qD xs its/\xs.length=its.length/\s.heap.get? l=some {cls:=.type "list",data:=.seq its.toArray n}:=by
 obtain⟨z,its,n,r,e⟩:=I.hok l _ hH
 exact⟨z,its,n,r,r.length,e⟩
theorem U3 {n:Nat} (h:n<=sizeLine):Builtin.List.listTooLong n=false:=by
 unfold Builtin.List.listTooLong
 exact decide_eq_false (by omega)
end
section
variable {X:Cx}
def kz:V->List V->Hp->VK->Prop:=λx vs H Q=>∃l xs y,x=.ref l/\vs=[y]/\H l=some (.lst xs)/\xs.length < sizeLine/\Q .non (upd H l (.lst (xs++[y])))
theorem Jl:Ge X "list.append" kz:=by
 intro pins s σ H x vs v us Q I rx rv h
 obtain⟨l,xs,y,rfl,rfl,hH,hz,q⟩:=h
 cases rx
 obtain⟨u,rfl,ru⟩:=rv.one
 obtain⟨z,its,n,r,hl,e⟩:=I.lstM hH
 refine call_meets F.slot_list_append ⟨_,e,rfl⟩ F.entry_list_append (F.args_list_append_2 _ _) (PySem.list_append l its.toArray n u (by rw[List.size_toArray];omega)) ⟨e,?_⟩
 refine⟨.non,_,I.lset (its':=its++[u]) hH e (by simp) (r.append (.cons ru .nil)) ?_,rfl,q⟩
 rw[List.length_append,List.length_singleton]
 omega
def ky:V->List V->Hp->VK->Prop:=λx vs H Q=>∃l b xs zs,x=.ref l/\vs=[.ref b]/\H l=some (.lst xs)/\H b=some (.lst zs)/\xs.length+zs.length<=sizeLine/\Q .non (upd H l (.lst (xs++zs)))
theorem VF:Ge X "list.extend" ky:=by
 intro pins s σ H x vs v us Q I rx rv h
 obtain⟨l,b,xs,zs,rfl,rfl,hH,hB,hz,q⟩:=h
 cases rx
 obtain⟨u,rfl,ru⟩:=rv.one
 cases ru
 obtain⟨z,its,n,r,hl,e⟩:=I.lstM hH
 obtain⟨z2,its2,n2,r2,hl2,e2⟩:=I.lstM hB
 have hsz:its.toArray.size+its2.toArray.size<=sizeLine:=by rw[List.size_toArray,List.size_toArray];omega
 have hlong:¬(!its.toArray.isEmpty&&Builtin.List.listTooLong (its.toArray.size+its2.toArray.size))=true:=by
   rw[U3 hsz,Bool.and_false]
   exact Bool.false_ne_true
 refine call_meets F.slot_list_extend ⟨_,e,rfl⟩ F.entry_list_extend (F.args_list_extend_2 _ _)
   (AutoSeq1.list_extend_list_list_0 l its.toArray n b its2.toArray n2 hlong (by rw[List.size_toArray];omega) (by omega)) ⟨e,e2,?_⟩
 refine⟨.non,_,I.lset (its':=its++its2) hH e (by simp) (r.append r2) ?_,rfl,q⟩
 rw[List.length_append]
 omega
def UC:V->List V->Hp->VK->Prop:=λx vs H Q=>∃l xs,x=.ref l/\vs=[]/\H l=some (.lst xs)/\Q .non (upd H l (.lst xs.reverse))
theorem XW:Ge X "list.reverse" UC:=by
 intro pins s σ H x vs v us Q I rx rv h
 obtain⟨l,xs,rfl,rfl,hH,q⟩:=h
 cases rx
 have hus:=rv.zero
 subst hus
 obtain⟨z,its,n,r,hl,e⟩:=I.lstM hH
 refine call_meets F.slot_list_reverse ⟨_,e,rfl⟩ F.entry_list_reverse (F.args_list_reverse_1 _) (AutoSeq1.list_reverse_list_0 l its.toArray n (by rw[List.size_toArray];omega)) ⟨e,?_⟩
 refine⟨.non,_,I.lset (its':=its.reverse) hH e (by simp) r.reverse ?_,rfl,q⟩
 rw[List.length_reverse]
 omega
end
section
variable {prog:Program} {w:World} {A:Around} {E:Value->Shared->Prop} {s:Shared}
set_option maxRecDepth 100000 in
end
section
variable {X:Cx}
end
end L2
namespace L2
open PySem PySem.Spec PyProof.Rows
section
variable {κ:Type} [DecidableEq κ]
def jy (kvs:List (κ×V)) (k:κ):Option V:=(kvs.find? λkv=>decide (kv.1=k)).map (·.2)
def jE (kvs:List (κ×V)) (k:κ) (v:V):List (κ×V):=
 if (kvs.any λkv=>decide (kv.1=k))=true then kvs.map (λkv=>if kv.1=k then (kv.1,v) else kv) else kvs++[(k,v)]
theorem qT {p:κ×V} {r:List (κ×V)} {k:κ} (e:p.1=k):jy (p::r) k=some p.2:=by simp [jy,List.find?_cons,e]
theorem qU {p:κ×V} {r:List (κ×V)} {k:κ} (e:¬p.1=k):jy (p::r) k=jy r k:=by simp [jy,List.find?_cons,e]
theorem QA (k:κ):∀kvs:List (κ×V),(kvs.any λkv=>decide (kv.1=k))=(jy kvs k).isSome
 | []=>rfl
 | p::r=>by
   rw[List.any_cons]
   by_cases e:p.1=k
   . simp only[qT e,decide_eq_true e,Bool.true_or,Option.isSome_some]
   . rw[qU e,decide_eq_false e,Bool.false_or];exact QA k r
theorem YK (k j:κ) (y:V):∀kvs:List (κ×V),jy (kvs.map λkv=>if kv.1=k then (kv.1,y) else kv) j=(jy kvs j).map λx=>if j=k then y else x
 | []=>rfl
 | p::r=>by
   have ih:=YK k j y r
   rw[List.map_cons]
   by_cases h:p.1=k
   . rw[if_pos h]
     by_cases e:p.1=j
     . rw[qT (p:=(p.1,y)) e,qT e,Option.map_some,if_pos (e.symm.trans h)]
     . rw[qU (p:=(p.1,y)) e,qU e,ih]
   . rw[if_neg h]
     by_cases e:p.1=j
     . rw[qT (p:=p) e,qT e,Option.map_some,if_neg (λz=>h (e.trans z))]
     . rw[qU (p:=p) e,qU e,ih]
theorem zA (k j:κ) (y:V):∀kvs:List (κ×V),jy kvs k=none->jy (kvs++[(k,y)]) j=if j=k then some y else jy kvs j
 | [],_=>by
   by_cases e:k=j
   . rw[if_pos e.symm];exact qT (p:=(k,y)) e
   . rw[if_neg (λz=>e z.symm)];exact qU (p:=(k,y)) e
 | p::r,hn=>by
   rw[List.cons_append]
   have hk:¬p.1=k:=λz=>by rw[qT z]at hn;cases hn
   rw[qU hk]at hn
   have ih:=zA k j y r hn
   by_cases e:p.1=j
   . rw[qT e,qT e,if_neg (λz=>hk (e.trans z))]
   . rw[qU e,qU e,ih]
theorem YJ (kvs:List (κ×V)) (k j:κ) (y:V):jy (jE kvs k y) j=if j=k then some y else jy kvs j:=by
 unfold jE
 by_cases a:(kvs.any λkv=>decide (kv.1=k))=true
 . rw[if_pos a,YK]
   rw[QA]at a
   by_cases e:j=k
   . obtain⟨x,hx⟩:=Option.isSome_iff_exists.mp a
     rw[if_pos e,e,hx,Option.map_some,if_pos rfl]
   . rw[if_neg e]
     cases jy kvs j with
     | none=>rfl
     | some x=>rw[Option.map_some,if_neg e]
 . rw[if_neg a]
   refine zA k j y kvs ?_
   rw[QA]at a
   cases q:jy kvs k with
   | none=>rfl
   | some x=>rw[q]at a;exact(a rfl).elim
theorem Je (kvs:List (κ×V)) (k:κ) (v:V):(jE kvs k v).length<=kvs.length+1:=by
 unfold jE
 split
 . rw[List.length_map];omega
 . rw[List.length_append,List.length_cons,List.length_nil];omega
theorem UF {kvs:List (κ×V)} {k:κ} (v:V) (h:jy kvs k=none):jE kvs k v=kvs++[(k,v)]:=by
 unfold jE
 rw[QA,h]
 exact if_neg (by decide)
theorem Q4.isSome_eq {o:Option V} {u:Option Value} (r:Q4 o u):o.isSome=u.isSome:=by
 cases o with
 | none=>cases u with
   | none=>rfl
   | some _=>exact(show False from r).elim
 | some _=>cases u with
   | none=>exact(show False from r).elim
   | some _=>rfl
theorem KV.val {kvs:List (κ×V)} {vs:List (κ×Value)} (r:KV kvs vs) (k:κ):Q4 (jy kvs k) (valueAt vs k):=by
 unfold KV at r
 induction r with
 | nil=>exact True.intro
 | @cons p q ps qs h t ih=>
   obtain⟨h1,h2⟩:=h
   by_cases e:p.1=k
   . have e':q.1=k:=h1.symm.trans e
     have b:valueAt (q::qs) k=some q.2:=by simp [valueAt,List.find?_cons,e']
     rw[qT e,b];exact h2
   . have e':¬q.1=k:=λz=>e (h1.trans z)
     have b:valueAt (q::qs) k=valueAt qs k:=by simp [valueAt,List.find?_cons,e']
     rw[qU e,b];exact ih
theorem KV.any {kvs:List (κ×V)} {vs:List (κ×Value)} (r:KV kvs vs) (k:κ):(kvs.any λkv=>decide (kv.1=k))=vs.any λkv=>decide (kv.1=k):=by
 unfold KV at r
 induction r with
 | nil=>rfl
 | cons h t ih=>rw[List.any_cons,List.any_cons,ih,h.1]
theorem KV.repl {kvs:List (κ×V)} {vs:List (κ×Value)} (r:KV kvs vs) (k:κ) {y:V} {u:Value} (ry:qG y u):
   KV (kvs.map λkv=>if kv.1=k then (kv.1,y) else kv) (vs.map λkv=>if kv.1=k then (kv.1,u) else kv):=by
 unfold KV at r ⊢
 induction r with
 | nil=>exact .nil
 | @cons p q ps qs h t ih=>
   rw[List.map_cons,List.map_cons]
   refine .cons ?_ ih
   obtain⟨h1,h2⟩:=h
   by_cases e:p.1=k
   . rw[if_pos e,if_pos (h1.symm.trans e)];exact⟨h1,ry⟩
   . rw[if_neg e,if_neg (λz=>e (h1.trans z))];exact⟨h1,h2⟩
theorem KV.put {kvs:List (κ×V)} {vs:List (κ×Value)} (r:KV kvs vs) (k:κ) {y:V} {u:Value} (ry:qG y u):KV (jE kvs k y) (stored vs k u):=by
 unfold jE stored
 rw[r.any k]
 by_cases e:(vs.any λkv=>decide (kv.1=k))=true
 . rw[if_pos e,if_pos e];exact r.repl k ry
 . rw[if_neg e,if_neg e];exact Paired.snoc r ⟨rfl,ry⟩
theorem KV.length {kvs:List (κ×V)} {vs:List (κ×Value)} (r:KV kvs vs):kvs.length=vs.length:=Paired.length r
end
theorem zM {P:Program} {w:World} {k:qP} {u:Value} (r:qG (kV k) u):(jd P w).is k u=true:=by
 cases k with
 | inl i=>obtain⟨t,e⟩:=(show ∃t,u=Value.int i t from r);subst e;exact Y6 P w i t
 | inr x=>obtain⟨t,e⟩:=(show ∃t,u=Value.str x t from r);subst e;exact Y5 P w x t
theorem zN {P:Program} {w:World}:∀{ks:List qP} {us:List Value},qD (ks.map kV) us->ItemsAre (jd P w) ks us
 | [],_,r=>by rw[List.map_nil]at r;cases r;exact .nil
 | k::ks,_,r=>by
   rw[List.map_cons]at r
   cases r with
   | cons h t=>exact .cons (zM h) (zN t)
abbrev KT (H:Hp):List (List qP×V)->List (List qP×Addr×Value)->Prop:=Paired λp q=>p.1=q.1/\H q.2.1=some (.tup (p.1.map kV))/\qG p.2 q.2.2
theorem KT.val {H:Hp} {kvs:List (List qP×V)} {xs:List (List qP×Addr×Value)} (r:KT H kvs xs) (k:List qP):Q4 (jy kvs k) ((atKey xs k).map (·.2)):=by
 induction r with
 | nil=>exact True.intro
 | @cons p q ps qs h t ih=>
   obtain⟨h1,_,h2⟩:=h
   by_cases e:p.1=k
   . have e':q.1=k:=h1.symm.trans e
     have b:atKey (q::qs) k=some q.2:=by simp [atKey,List.find?_cons,e']
     rw[qT e,b];exact h2
   . have e':¬q.1=k:=λz=>e (h1.trans z)
     have b:atKey (q::qs) k=atKey qs k:=by simp [atKey,List.find?_cons,e']
     rw[qU e,b];exact ih
theorem KT.repl {H:Hp} {kvs:List (List qP×V)} {xs:List (List qP×Addr×Value)} (r:KT H kvs xs) (k:List qP) {y:V} {u:Value} (ry:qG y u):
   KT H (kvs.map λkv=>if kv.1=k then (kv.1,y) else kv) (xs.map (putAt k u)):=by
 induction r with
 | nil=>exact .nil
 | @cons p q ps qs h t ih=>
   rw[List.map_cons,List.map_cons]
   refine .cons ?_ ih
   obtain⟨h1,h2,h3⟩:=h
   unfold putAt
   by_cases e:p.1=k
   . rw[if_pos e,if_pos (h1.symm.trans e)];exact⟨h1,h2,ry⟩
   . rw[if_neg e,if_neg (λz=>e (h1.trans z))];exact⟨h1,h2,h3⟩
theorem KT.put {H:Hp} {kvs:List (List qP×V)} {xs:List (List qP×Addr×Value)} (r:KT H kvs xs) (k:List qP) {b:Addr} {y:V} {u:Value} (hb:H b=some (.tup (k.map kV))) (ry:qG y u):
   KT H (jE kvs k y) (storedH xs k b u):=by
 have e:(kvs.any λkv=>decide (kv.1=k))=(atKey xs k).isSome:=by
   rw[QA,(r.val k).isSome_eq,Option.isSome_map]
 unfold jE storedH
 rw[e]
 by_cases q:(atKey xs k).isSome=true
 . rw[if_pos q,if_pos q];exact r.repl k ry
 . rw[if_neg q,if_neg q];exact Paired.snoc r ⟨rfl,hb,ry⟩
theorem KT.keeps {H H':Hp} {kvs:List (List qP×V)} {xs:List (List qP×Addr×Value)} (r:KT H kvs xs) (ht:∀b ys,H b=some (.tup ys)->H' b=some (.tup ys)):KT H' kvs xs:=
 Paired.mapP r λ_ _ z=>⟨z.1,ht _ _ z.2.1,z.2.2⟩
section
variable {P:Program} {w:World} {H:Hp} {h:Heap} {a:Addr}
theorem yI {u:HO} (ok:QZ P w H h) (e:Rd H a u):qx P w H h a u:=e.ok ok
theorem Xf {kvs:List (qP×V)} (ok:QZ P w H h) (e:Rd H a (.dK kvs)):kvs.length<=sizeLine/\(a==sysModules)=false/\∃vs,KV kvs vs/\h.DictOf (jd P w) a vs:=
 show qx P w H h a (.dK kvs) from yI ok e
theorem yS {kvs:List (qP×V)} (ok:QZ P w H h) (e:H a=some (.dK kvs)):kvs.length<=sizeLine/\(a==sysModules)=false/\∃vs,KV kvs vs/\h.DictOf (jd P w) a vs:=Xf ok (.inl e)
theorem ze {ks:List qP} (ok:QZ P w H h) (e:H a=some (.tup (ks.map kV))):(tupleKind (jd P w)).is h ks a:=by
 obtain⟨_,its,r,o,h1,h2,n,h3⟩:=(show qx P w H h a (.tup (ks.map kV)) from ok a _ e)
 exact⟨o,its.toArray,n,h1,h2,h3,by simpa using zN r⟩
theorem Xe {kvs:List (List qP×V)} (ok:QZ P w H h) (e:Rd H a (.dT kvs)):kvs.length<=sizeLine/\(a==sysModules)=false/\
   ∃xs,KT H kvs xs/\h.DictOfH (tupleKind (jd P w)) a xs:=by
 obtain⟨z,y,xs,r,o,es,ep,h1,h2,h3,h4,h5⟩:=(show qx P w H h a (.dT kvs) from yI ok e)
 refine⟨z,y,xs,r,o,es,ep,h1,h2,h3,h4,λx hx=>?_,h5⟩
 have all:∀{l:List (List qP×V)} {m:List (List qP×Addr×Value)},KT H l m->∀x∈m,(tupleKind (jd P w)).is h x.1 x.2.1:=by
   intro l m q
   induction q with
   | nil=>intro x hx;exact nomatch hx
   | @cons p q ps qs hq t ih=>
     intro x hx
     rcases List.mem_cons.mp hx with e | hx
     . subst e
       exact ze ok (by rw[<-hq.1];exact hq.2.1)
     . exact ih x hx
 exact all r x hx
theorem uN {kvs:List (List qP×V)} (ok:QZ P w H h) (e:H a=some (.dT kvs)):kvs.length<=sizeLine/\(a==sysModules)=false/\
   ∃xs,KT H kvs xs/\h.DictOfH (tupleKind (jd P w)) a xs:=Xe ok (.inl e)
end
def Qy (H:Hp) (a:Addr) (y:V) (r:Option V):Prop:=
 (∃kvs k,Rd H a (.dK kvs)/\y=kV k/\r=jy kvs k)\/∃kvs k b,Rd H a (.dT kvs)/\y=.ref b/\H b=some (.tup (k.map kV))/\r=jy kvs k
def Zb (H:Hp) (a:Addr) (y v:V) (H':Hp):Prop:=
 (∃kvs k,H a=some (.dK kvs)/\y=kV k/\kvs.length < sizeLine/\H'=upd H a (.dK (jE kvs k v)))\/
 ∃kvs k b,H a=some (.dT kvs)/\y=.ref b/\H b=some (.tup (k.map kV))/\kvs.length < sizeLine/\H'=upd H a (.dT (jE kvs k v))
theorem Qy.k {H:Hp} {a:Addr} {kvs:List (qP×V)} {k:qP} (e:H a=some (.dK kvs)):Qy H a (kV k) (jy kvs k):=.inl ⟨kvs,k,.inl e,rfl,rfl⟩
theorem Zb.k {H:Hp} {a:Addr} {kvs:List (qP×V)} {k:qP} {v:V} (e:H a=some (.dK kvs)) (hl:kvs.length < sizeLine):Zb H a (kV k) v (upd H a (.dK (jE kvs k v))):=.inl ⟨kvs,k,e,rfl,hl,rfl⟩
theorem Zb.t {H:Hp} {a b:Addr} {kvs:List (List qP×V)} {k:List qP} {v:V} (e:H a=some (.dT kvs)) (eb:H b=some (.tup (k.map kV))) (hl:kvs.length < sizeLine):
   Zb H a (.ref b) v (upd H a (.dT (jE kvs k v))):=.inr ⟨kvs,k,b,e,rfl,eb,hl,rfl⟩
section
variable {X:Cx} {pins:List (Addr×Obj)} {σ:St} {H:Hp} {s:Shared} {a:Addr} {y v:V} {u r:Value} {o:Option V} {A:Around} {E:Value->Shared->Prop}
theorem qu.big (I:qu X pins σ H s):sysModules < s.heap.objs.size:=by
 have h:mainGlobals < s.heap.objs.size:=(I.mod.glob.keeps I.bk).lt
 exact Nat.lt_trans (by decide) h
theorem V0 {Q:Value->Shared->Prop} (hu:A.units+1 < cLine) (I:qu X pins σ H s) (g:Qy H a y (some v)) (ry:qG y u) (h:∀w' s',qu X pins σ H s'->qG v w'->Q w' s'):
   wpAny (model X.prog X.w) A (getItem (.ref a) u) Q E s:=by
 rcases g with ⟨kvs,k,e,ey,l⟩ | ⟨kvs,k,b,e,ey,eb,l⟩
 . subst ey
   obtain⟨z,hd,vs,rel,dd⟩:=Xf I.hok e
   obtain⟨w',hw,rw'⟩:=Q4.some_of (v:=v) (o:=valueAt vs k) (by rw[l];exact rel.val k)
   exact wpAny_getItem_of (zM ry) dd.mapOf hw (h w' _ (I.tok _) rw')
 . subst ey
   cases (show u=Value.ref b from ry)
   obtain⟨z,hd,xs,rel,dd⟩:=Xe I.hok e
   obtain⟨w',hw,rw'⟩:=Q4.some_of (v:=v) (o:=(atKey xs k).map (·.2)) (by rw[l];exact rel.val k)
   obtain⟨p,hp,hp2⟩:=Option.map_eq_some_iff.mp hw
   refine wpAny_getItem_heap (tupleKind_room_in1 hu) (ze I.hok eb) dd hp ?_
   rw[hp2]
   exact h w' _ (I.tok _) rw'
theorem K7 {Q:Value->Shared->Prop} (hu:A.units+1 < cLine) (I:qu X pins σ H s) (g:Qy H a y o) (ry:qG y u) (h:∀s',qu X pins σ H s'->Q (.bool o.isSome) s'):
   wpAny (model X.prog X.w) A (compareOp .In u (.ref a)) Q E s:=by
 rcases g with ⟨kvs,k,e,ey,l⟩ | ⟨kvs,k,b,e,ey,eb,l⟩
 . subst ey
   obtain⟨z,hd,vs,rel,dd⟩:=Xf I.hok e
   refine wpAny_in_of (zM ry) hd dd.mapOf ?_
   rw[<-(rel.val k).isSome_eq,<-l]
   exact h _ (I.tok _)
 . subst ey
   cases (show u=Value.ref b from ry)
   obtain⟨z,hd,xs,rel,dd⟩:=Xe I.hok e
   refine wpAny_in_heap (tupleKind_room_in1 hu) (ze I.hok eb) hd dd ?_
   have q:=(rel.val k).isSome_eq
   rw[Option.isSome_map]at q
   rw[<-q,<-l]
   exact h _ (I.tok _)
theorem yg {Q:Value->Shared->Prop} (hu:A.units+1 < cLine) (I:qu X pins σ H s) (g:Qy H a y o) (ry:qG y u) (h:∀s',qu X pins σ H s'->Q (.bool (!o.isSome)) s'):
   wpAny (model X.prog X.w) A (compareOp .NotIn u (.ref a)) Q E s:=by
 rcases g with ⟨kvs,k,e,ey,l⟩ | ⟨kvs,k,b,e,ey,eb,l⟩
 . subst ey
   obtain⟨z,hd,vs,rel,dd⟩:=Xf I.hok e
   refine wpAny_notIn_of (zM ry) hd dd.mapOf ?_
   rw[<-(rel.val k).isSome_eq,<-l]
   exact h _ (I.tok _)
 . subst ey
   cases (show u=Value.ref b from ry)
   obtain⟨z,hd,xs,rel,dd⟩:=Xe I.hok e
   refine wpAny_notIn_heap (tupleKind_room_in1 hu) (ze I.hok eb) hd dd ?_
   have q:=(rel.val k).isSome_eq
   rw[Option.isSome_map]at q
   rw[<-q,<-l]
   exact h _ (I.tok _)
theorem Yw {h':Heap} {t':Nat} {ob:HO} (I:qu X pins σ H s) (mu:wp (H a)) (hs:Heap.SameBut a s.heap h') (he:∃q,h'.get? a=some q) (new:qx X.prog X.w (upd H a ob) h' a ob):
   qu X pins σ (upd H a ob) {s with heap:=h',toks:=t'}:=
 I.write (x:=a) (e:=a) mu (.inl rfl) (λb q hb z=>(hs.2 b hb).trans z) he new
theorem vz {P:Program} {w:World} {H':Hp} {h':Heap} {kvs:List (qP×V)} {vs:List (qP×Value)} (z:kvs.length<=sizeLine) (hd:(a==sysModules)=false) (rel:KV kvs vs) (dd:h'.DictOf (jd P w) a vs):
   qx P w H' h' a (.dK kvs):=⟨z,hd,vs,rel,dd⟩
theorem VZ {H':Hp} {Q:Unit->Shared->Prop} (hu:A.units+1 < cLine) (I:qu X pins σ H s) (g:Zb H a y v H') (ry:qG y u) (rv:qG v r) (h:∀s',qu X pins σ H' s'->Q () s'):
   wpAny (model X.prog X.w) A (setItem (.ref a) u r) Q E s:=by
 rcases g with ⟨kvs,k,e,ey,l,eH⟩ | ⟨kvs,k,b,e,ey,eb,l,eH⟩
 . subst ey eH
   obtain⟨z,hd,vs,rel,dd⟩:=yS I.hok e
   have hz:vs.length<=sizeLine:=by rw[<-rel.length];exact z
   have hl:(jE kvs k v).length<=sizeLine:=by have:=Je kvs k v;omega
   refine wpAny_setItem_pairs (hsz:=hz) (zM ry) dd λh' dd' hs=>h _ ?_
   have he:∃q,h'.get? a=some q:=let ⟨q,_,_,hq,_⟩:=dd';⟨q,hq⟩
   exact Yw I (by rw[e];exact True.intro) hs he (vz hl hd (rel.put k rv) dd')
 . subst ey eH
   cases (show u=Value.ref b from ry)
   obtain⟨z,hd,xs,rel,dd⟩:=uN I.hok e
   have hz:xs.length<=sizeLine:=by rw[<-Paired.length rel];exact z
   have hl:(jE kvs k v).length<=sizeLine:=by have:=Je kvs k v;omega
   refine wpAny_setItem_heap (hsz:=hz) (tupleKind_room_in1 hu) (ze I.hok eb) dd λh' dd' hs=>h _ ?_
   obtain⟨q,es,ep,hq,h2,h3,h4,_,h5⟩:=dd'
   refine Yw I (by rw[e];exact True.intro) hs ⟨q,hq⟩ ⟨hl,hd,_,(rel.put k eb rv).keeps λc ys ec=>?_,q,es,ep,hq,h2,h3,h4,h5⟩
   rw[qf (um ec e (λz=>nomatch z))]
   exact ec
end
section
variable {X:Cx} {pins:List (Addr×Obj)} {σ:St} {H:Hp} {s:Shared} {a:Addr} {kvs:List (qP×V)} {k:qP} {u:Value} {A:Around} {E:Value->Shared->Prop}
end
def uT (i:Expr):Prop:=∀ov iv,subscripted i false ov iv=operate [ov,iv] (getItem ov iv)
theorem ka {prog:Program} {w:World} {A:Around} {E:Value->Shared->Prop} {s:Shared} {env:Env} {value slice:Expr} {pos:Pos} {T id:String} {Q:Value->Shared->Prop}
   (hl:typeLookup (.type T) "__getitem__"=pure (some (.builtin id))) (hs:uT slice)
   (h:wpAny (model prog w) A (eval value env) (λo s₁=>wpAny (model prog w) A (eval slice env) (λi s₂=>s₂.TypeIs o T/\wpAny (model prog w) A (getItem o i) Q E s₂) E s₁) E s):
   wpAny (model prog w) A (eval (.Subscript value slice pos) env) Q E s:=by
 refine Subscript_ (wpAny_mono h (λo s₁ h₁=>wpAny_mono h₁ (λi s₂ h₂=>?_) λ_ _ x=>x) λ_ _ x=>x)
 obtain⟨hT,h₂⟩:=h₂
 unfold subscriptTail
 refine wpAny_bind ?_
 rw[getitemInPython_of_ne hT.not_modules]
 refine wpAny_bind (wpAny_specialOf hT hl ?_)
 have fin:wpAny (model prog w) A (subscripted slice false o i) (λr s₃=>wpAny (model prog w) A (letTemporaryGo value o r >>= λ_=>pure r) Q E s₃) E s₂:=by
   rw[hs o i]
   exact wpAny_operating (wpAny_mono h₂ (λr s₃ h₃=>wpAny_bind (wpAny_letTemporaryGo (wpAny_pure h₃))) λ_ _ x=>x)
 first
   | exact wpAny_pure (wpAny_bind fin)
   | exact wpAny_bind (wpAny_pure (wpAny_bind fin))
   | exact wpAny_bind fin
theorem Xh {X:Cx} {pins:List (Addr×Obj)} {σ:St} {H:Hp} {s:Shared} {a:Addr} {y:V} {o:Option V} (I:qu X pins σ H s) (g:Qy H a y o):s.TypeIs (.ref a) "dict":=by
 rcases g with ⟨kvs,k,e,_,_⟩ | ⟨kvs,k,b,e,_,_,_⟩
 . obtain⟨_,_,vs,_,dd⟩:=Xf I.hok e
   exact dd.typeIs
 . obtain⟨_,_,xs,_,dd⟩:=Xe I.hok e
   exact dd.typeIs
def wI (td ty:TE):TE:=λσ H Q=>td σ H λx H1=>ty σ H1 λy H2=>∃a v,x=.ref a/\Qy H2 a y (some v)/\Q v H2
def Kv (ty td:TE):TE:=λσ H Q=>ty σ H λy H1=>td σ H1 λx H2=>∃a o,x=.ref a/\Qy H2 a y o/\Q (.bl o.isSome) H2
def vX (ty td:TE):TE:=λσ H Q=>ty σ H λy H1=>td σ H1 λx H2=>∃a o,x=.ref a/\Qy H2 a y o/\Q (.bl (!o.isSome)) H2
def yH (td ty tv:TE):TS:=λD σ H=>tv σ H λv H1=>td σ H1 λx H2=>ty σ H2 λy H3=>∃a H4,x=.ref a/\Zb H3 a y v H4/\D.nx σ H4
section
variable {X:Cx} {o i e value:Expr} {pos pos' tpos:Pos} {td ty tv:TE}
theorem Qr (hu:X.A.units+1 < cLine) (ho:JE X o td) (hi:JE X i ty) (hs:uT i):JE X (.Subscript o i pos) (wI td ty):=.of (by
 have ho:=ho.to
 have hi:=hi.to
 intro pins s σ H Q I h
 refine ka PySem.F.slot_dict_getitem.lookup hs (qY (ho pins s σ H _ I h) λu s1 ⟨x,H1,I1,rx,q1⟩=>qY (hi pins s1 σ H1 _ I1 q1) λiv s2 ⟨y,H2,I2,ry,a,v,ex,g,q2⟩=>?_)
 subst ex
 obtain rfl:u=Value.ref a:=rx
 exact⟨Xh I2 g,V0 hu I2 g ry λw' s3 I3 rw'=>⟨v,H2,I3,rw',q2⟩⟩)
theorem vh (hu:X.A.units+1 < cLine) (hi:JE X i ty) (ho:JE X o td):JC X .In i o (Kv ty td):=.of (by
 have hi:=hi.to
 have ho:=ho.to
 intro pins s σ H Q I h
 refine qY (hi pins s σ H _ I h) λiv s1 ⟨y,H1,I1,ry,q1⟩=>qY (ho pins s1 σ H1 _ I1 q1) λu s2 ⟨x,H2,I2,rx,a,ov,ex,g,q2⟩=>?_
 subst ex
 obtain rfl:u=Value.ref a:=rx
 exact K7 hu I2 g ry λs3 I3=>⟨.bl ov.isSome,H2,I3,rfl,q2⟩)
theorem VM (hu:X.A.units+1 < cLine) (hi:JE X i ty) (ho:JE X o td):JC X .NotIn i o (vX ty td):=.of (by
 have hi:=hi.to
 have ho:=ho.to
 intro pins s σ H Q I h
 refine qY (hi pins s σ H _ I h) λiv s1 ⟨y,H1,I1,ry,q1⟩=>qY (ho pins s1 σ H1 _ I1 q1) λu s2 ⟨x,H2,I2,rx,a,ov,ex,g,q2⟩=>?_
 subst ex
 obtain rfl:u=Value.ref a:=rx
 exact yg hu I2 g ry λs3 I3=>⟨.bl (!ov.isSome),H2,I3,rfl,q2⟩)
theorem j5 (hu:X.A.units+1 < cLine) (ho:JE X o td) (hi:JE X i ty) (hv:JE X value tv) (hs:swapsWith value (some (.Subscript o i pos')) pos.line X.env=pure false):JS X (.Assign [.Subscript o i pos'] value pos) (yH td ty tv):=.of (by
 have ho:=ho.to
 have hi:=hi.to
 have hv:=hv.to
 intro pins s σ H D I h
 refine wpAny_Assign_Subscript (qY (hv pins s σ H _ I h) λr s1 ⟨v,H1,I1,rv,q1⟩=>qY (ho pins s1 σ H1 _ I1 q1) λu s2 ⟨x,H2,I2,rx,q2⟩=>qY (hi pins s2 σ H2 _ I2 q2) λiv s3 ⟨y,H3,I3,ry,a,H4,ex,g,q3⟩=>?_) hs
 subst ex
 obtain rfl:u=Value.ref a:=rx
 exact VZ hu I3 g ry rv λs4 I4=>⟨σ,H4,I4,q3⟩)
end
theorem Xg {P:Program} {w:World} {H:Hp} (h:Heap) (hb:sysModules < h.objs.size):qx P w H (h.push {cls:=.type "dict",data:=.dict #[]}) h.objs.size (.dK []):=
 ⟨Nat.zero_le _,beq_eq_false_iff_ne.mpr (Ne.symm (Nat.ne_of_lt hb)),[],.nil,Heap.DictOf.new h⟩
theorem vy {P:Program} {w:World} {H:Hp} (h:Heap) (hb:sysModules < h.objs.size):qx P w H (h.push {cls:=.type "dict",data:=.dict #[]}) h.objs.size (.dT []):=
 ⟨Nat.zero_le _,beq_eq_false_iff_ne.mpr (Ne.symm (Nat.ne_of_lt hb)),[],.nil,_,#[],0,Heap.get?_push_size _ rfl,⟨rfl,rfl,rfl⟩,rfl,rfl,List.nodup_nil⟩
def Ue:TE:=λ_ H Q=>∀p,H p=none->Q (.ref p) (upd H p (.dK []))
def Ud:TE:=λ_ H Q=>∀p,H p=none->Q (.ref p) (upd H p (.dT []))
section
variable {X:Cx} {pos:Pos}
theorem UL:PE X (.Dict [] [] pos) Ue:=λpins s σ H Q I h=>
 wpAny_Dict_empty ⟨.ref s.heap.objs.size,_,I.laid (a:=s.heap.objs.size) (o:=.dK []) (t':=s.toks) (λ_ _ q=>Heap.get?_push_of_some _ q) (Nat.le_refl _) (Xg s.heap I.big),rfl,h _ (I.hok.fresh (Nat.le_refl _))⟩
theorem Jh:JE X (.Dict [] [] pos) Ue:=.of (UL)
theorem UK:PE X (.Dict [] [] pos) Ud:=λpins s σ H Q I h=>
 wpAny_Dict_empty ⟨.ref s.heap.objs.size,_,I.laid (a:=s.heap.objs.size) (o:=.dT []) (t':=s.toks) (λ_ _ q=>Heap.get?_push_of_some _ q) (Nat.le_refl _) (vy s.heap I.big),rfl,h _ (I.hok.fresh (Nat.le_refl _))⟩
theorem vf:JE X (.Dict [] [] pos) Ud:=.of (UK)
end
def Xz:List (TE×TE)->St->Hp->(List (V×V)->Hp->Prop)->Prop
 | [],_,H,Q=>Q [] H
 | (tk,tv)::r,σ,H,Q=>tk σ H λx H1=>tv σ H1 λy H2=>Xz r σ H2 λps H3=>Q ((x,y)::ps) H3
abbrev VV:List (V×V)->List (Value×Value)->Prop:=Paired λp q=>qG p.1 q.1/\qG p.2 q.2
def uS (X:Cx) (pos:Pos) (keys:List (Option Expr)) (values:List Expr) (trs:List (TE×TE)):Prop:=
 ∀(pins:List (Addr×Obj)) (s:Shared) (σ:St) (H:Hp) (Q:List (V×V)->Hp->Prop),qu X pins σ H s->Xz trs σ H Q->
   wpAny (model X.prog X.w) X.A (evalPairs (pairTrees keys values X.env pos)) (λvs s'=>∃ps H',qu X pins σ H' s'/\VV ps vs/\Q ps H') X.xe s
@[irreducible] def vO (X:Cx) (pos:Pos) (keys:List (Option Expr)) (values:List Expr) (trs:List (TE×TE)):Prop:=uS X pos keys values trs
theorem vO.of {X:Cx} {pos:Pos} {keys:List (Option Expr)} {values:List Expr} {trs:List (TE×TE)} (h:uS X pos keys values trs):vO X pos keys values trs:=by unfold vO;exact h
theorem vO.to {X:Cx} {pos:Pos} {keys:List (Option Expr)} {values:List Expr} {trs:List (TE×TE)} (h:vO X pos keys values trs):uS X pos keys values trs:=by unfold vO at h;exact h
theorem WP {X:Cx} {pos:Pos}:vO X pos [] [] []:=.of (by
 exact λpins s σ H Q I h=>pairTrees_nil_walk ⟨[],H,I,.nil,h⟩)
theorem UH {X:Cx} {pos:Pos} {k v:Expr} {ks:List (Option Expr)} {vs:List Expr} {tk tv:TE} {trs:List (TE×TE)} (hk:PE X k tk) (hv:PE X v tv) (hr:uS X pos ks vs trs):
   uS X pos (some k::ks) (v::vs) ((tk,tv)::trs):=λpins s σ H Q I h=>
 pairTrees_cons_walk (qY (hk pins s σ H _ I h) λu s1 ⟨x,H1,I1,rx,q1⟩=>qY (hv pins s1 σ H1 _ I1 q1) λw2 s2 ⟨y,H2,I2,ry,q2⟩=>
   qY (hr pins s2 σ H2 _ I2 q2) λws s3 ⟨ps,H3,I3,rel,q3⟩=>⟨(x,y)::ps,H3,I3,.cons ⟨rx,ry⟩ rel,q3⟩)
theorem J4 {X:Cx} {pos:Pos} {k v:Expr} {ks:List (Option Expr)} {vs:List Expr} {tk tv:TE} {trs:List (TE×TE)} (hk:JE X k tk) (hv:JE X v tv) (hr:vO X pos ks vs trs):vO X pos (some k::ks) (v::vs) ((tk,tv)::trs):=.of (UH hk.to hv.to hr.to)
def Jc (kvs more:List (qP×V)):List (qP×V):=more.foldl (λacc kv=>jE acc kv.1 kv.2) kvs
theorem KV.merge:∀{more:List (qP×V)} {rs:List (qP×Value)} {kvs:List (qP×V)} {vs:List (qP×Value)},KV more rs->KV kvs vs->KV (Jc kvs more) (merged vs rs):=by
 intro more rs kvs vs r
 unfold KV at r
 induction r generalizing kvs vs with
 | nil=>intro q;exact q
 | @cons p q ps qs h t ih=>
   intro r0
   have e:KV (jE kvs p.1 p.2) (stored vs q.1 q.2):=by
     have:=r0.put p.1 h.2
     rw[<-h.1];exact this
   exact ih e
theorem Ju:∀(more kvs:List (qP×V)),(Jc kvs more).length<=kvs.length+more.length
 | [],kvs=>by show kvs.length<=kvs.length+0;omega
 | p::r,kvs=>by
   have h1:=Ju r (jE kvs p.1 p.2)
   have h2:=Je kvs p.1 p.2
   show (Jc (jE kvs p.1 p.2) r).length<=_
   rw[List.length_cons];omega
theorem zm {P:Program} {w:World}:∀{kvs:List (qP×V)} {ws:List (Value×Value)},VV (kvs.map λkv=>(kV kv.1,kv.2)) ws->∃rs,Carries (jd P w) ws rs/\KV kvs rs
 | [],_,r=>by rw[List.map_nil]at r;cases r;exact⟨[],True.intro,.nil⟩
 | p::kvs,_,r=>by
   rw[List.map_cons]at r
   cases r with
   | @cons a b as bs h t=>
     obtain⟨rs,c,q⟩:=zm (P:=P) (w:=w) t
     obtain⟨b1,b2⟩:=b
     exact⟨(p.1,b2)::rs,⟨zM h.1,rfl,c⟩,.cons ⟨rfl,h.2⟩ q⟩
def wH (trs:List (TE×TE)):TE:=λσ H Q=>∀p,H p=none->Xz trs σ (upd H p (.dK [])) λps H2=>H2 p=some (.dK [])/\∃kvs:List (qP×V),ps=kvs.map (λkv=>(kV kv.1,kv.2))/\kvs.length<=15/\Q (.ref p) (upd H2 p (.dK (Jc [] kvs)))
theorem WR {X:Cx} {pos:Pos} {keys:List (Option Expr)} {values:List Expr} {trs:List (TE×TE)} (h:vO X pos keys values trs) (hall:keys.all (·.isSome)=true) (hl:keys.length=values.length) (h0:keys≠[]) (h15:keys.length<=15):JE X (.Dict keys values pos) (wH trs):=.of (by
 have h:=h.to
 intro pins s σ H Q I q
 have hn:=I.hok.fresh (Nat.le_refl s.heap.objs.size)
 have I1:=I.laid (a:=s.heap.objs.size) (o:=.dK []) (h':=s.heap.push {cls:=.type "dict",data:=.dict #[]}) (t':=s.toks) (λ_ _ q=>Heap.get?_push_of_some _ q) (Nat.le_refl _) (Xg s.heap I.big)
 refine wpAny_Dict_walk (knd:=jd X.prog X.w) hall hl h0 h15 (qY (h pins _ σ _ _ I1 (q _ hn)) λws s2 ⟨ps,H2,I2,rel,e,kvs,ep,lk,q2⟩=>?_)
 subst ep
 obtain⟨rs,c,rk⟩:=zm (P:=X.prog) (w:=X.w) rel
 obtain⟨z,hd,vs0,r0,dd⟩:=yS I2.hok e
 cases r0
 refine⟨rs,c,dd,λh' dd' hs=>⟨.ref s.heap.objs.size,_,?_,rfl,q2⟩⟩
 have hz:(Jc [] kvs).length<=sizeLine:=by
   have h1:=Ju kvs []
   rw[List.length_nil]at h1
   rw[sizeLine_eq];omega
 have he:∃q,h'.get? s.heap.objs.size=some q:=let ⟨q,_,_,hq,_⟩:=dd';⟨q,hq⟩
 exact Yw I2 (by rw[e];exact True.intro) hs he (vz hz hd (rk.merge .nil) dd'))
structure M1 (X:Cx) (o:Expr) (m:Str) (apos:Pos) (e:Expr) (cpos:Pos):Prop where
 base:attributeBase o m X.env (eval o X.env)=eval o X.env
 few:((backTo cpos (starEach [e] X.env)).all (λx=> !x.1)&&(backToKw cpos (keywordEach [] X.env)).all (λx=>x.1.isSome)
   &&decide (([e]:List Expr).length+([]:List Keyword).length+(if ([]:List Keyword).isEmpty then 0 else 1) < 30))=true
 line:(apos.endLine==cpos.line)=true
 trees:backTo cpos (starEach [e] X.env)=[(false,eval e X.env)]
structure M2 (X:Cx) (o:Expr) (m:Str) (apos:Pos) (e f:Expr) (cpos:Pos):Prop where
 base:attributeBase o m X.env (eval o X.env)=eval o X.env
 few:((backTo cpos (starEach [e,f] X.env)).all (λx=> !x.1)&&(backToKw cpos (keywordEach [] X.env)).all (λx=>x.1.isSome)
   &&decide (([e,f]:List Expr).length+([]:List Keyword).length+(if ([]:List Keyword).isEmpty then 0 else 1) < 30))=true
 line:(apos.endLine==cpos.line)=true
 trees:backTo cpos (starEach [e,f] X.env)=[(false,eval e X.env),(false,eval f X.env)]
section
variable {X:Cx} {pins:List (Addr×Obj)} {σ:St} {H:Hp} {s:Shared} {a:Addr} {y d:V} {u r:Value} {o:Option V} {A:Around} {E:Value->Shared->Prop}
end
section
variable {X:Cx} {o e f:Expr} {apos cpos:Pos} {td ty tx:TE}
end
section
variable {X:Cx} {pins:List (Addr×Obj)} {σ:St} {H:Hp} {s:Shared} {a:Addr} {kvs:List (qP×V)} {A:Around} {E:Value->Shared->Prop}
end
section
variable {X:Cx} {pins:List (Addr×Obj)} {σ:St} {H:Hp} {s:Shared} {a:Addr} {y:V} {u:Value} {A:Around} {E:Value->Shared->Prop}
end
end L2
namespace Att
open PySem PySem.W PySem.Calls PyProof.Rows
theorem ZH {P:Params} {h:Heap}:∀(ns:List Int) (vs:List Value),WellAll P h vs (ns.map WData.int)->IntsAre vs ns:=by
 intro ns
 induction ns with
 | nil=>
   intro vs w
   rw[List.map_nil]at w
   cases w
   exact .nil
 | cons n ns ih=>
   intro vs w
   rw[List.map_cons]at w
   cases w with
   | cons a b=>
     cases a
     exact .cons _ _ (ih _ b)
theorem Vh {l:OpenLaw} {n:Nat} (hn:l.most=some n) {P:Params} {h:Heap} {args:List WData} {vals:List Value}
   (hpre:l.row.toRowW.claim.pre args=true) (hwl:WellAll P h vals args):
   ∃a vs ns,vals=[Value.ref a]/\args=[WData.list (ns.map WData.int)]/\h.get? a=some {cls:=.type "list",data:=.seq vs.toArray}/\IntsAre vs ns/\ns.length<=n:=by
 have hsh:WShape.hasAll [] args [.list .int]=true:=(pre_splitW hpre).1
 have hc:l.pre.holds [] {args:=args}=true:=(pre_splitW hpre).2
 obtain⟨d,r,rfl,h1,h2⟩:=hasAllW_cons hsh
 obtain rfl:=hasAllW_nil h2
 obtain⟨xs,rfl,h3⟩:=hasW_list h1
 obtain⟨ns,rfl⟩:=items_int h3
 have hlen:ns.length<=n:=by
   unfold OpenLaw.pre at hc
   have h4:(WTm.not (.lt (.lit (.int (n:Int))) (.len (.arg 0)))).holds [] {args:=[.list (ns.map .int)]}=true:=by
     have h4:=(holds_andW hc).1
     rw[hn]at h4
     exact h4
   have h5:=condW_of h4 (w_not (w_lt w_lit (w_len_list (w_arg rfl))))
   rw[List.length_map]at h5
   refine Nat.le_of_not_lt λq=>?_
   have q':(n:Int) < ((ns.length:Nat):Int):=by omega
   first
     | (rw[decide_eq_true q']at h5;exact absurd h5 (by decide))
     | (simp at h5;omega)
 cases hwl with
 | cons w1 w2=>
   cases w2
   cases w1 with
   | list ho hall=>exact⟨_,_,ns,rfl,rfl,ho,ZH ns _ hall,hlen⟩
theorem Vq (l:OpenLaw) (args:List WData):l.row.toRowW.claim.post args (.bool true) args=true:=
 postW_of (r:=l.row.toRowW) (X:=(true==true))
   (show WShape.has [] (.bool true) .bool=true by first | rfl | decide | simp [WShape.has,WShape.arms,WShape.armsAll])
   (show (WTm.eq .res (.lit (.bool true))).value [] {args:=args,res:=some (.bool true),after:=args}=some (.bool (true==true)) from w_eq_bool (w_res rfl) w_lit) rfl
theorem attach_call {l:OpenLaw} {n:Nat} {q:Program} {loose:List Str} {XP:(Str->Option Value)->Heap->Prop} {YP:World->Heap->Prop} {d:DefRec}
   (hn:l.most=some n) (hdf:d.params.defaults=[])
   (call:∀(w:World) (s₀ s₁:Shared) (mg mb:Str->Option Value) (fa:Addr) (o:Obj) (pm cd doc:Value) (a:Addr) (vs:List Value) (ns:List Int),
     Ground q loose [] XP w s₀ mg mb s₁.heap->YP w s₁.heap->
     s₁.heap.get? fa=some o->o.data=.func (docDef d.name d.params d.body d.scope pm cd doc)->s₁.heap.CodeRec cd d.name->mg d.name=some (.ref fa)->
     s₁.heap.get? a=some {cls:=.type "list",data:=.seq vs.toArray}->IntsAre vs ns->ns.length<=n->s₁.gens=#[]->
     codeAny (model l.prog w) callerA (.call (.ref fa) ⟨[.ref a],[]⟩) (λr s'=>r=.ok (.ret (.bool true))/\OldK s₁.heap s'.heap/\s'.os=s₁.os/\AllBare s'.gens) s₁):
   WalkO q loose XP YP l.row.toRowW d [] (λf vs=>PySem.call f vs):=by
 intro w s₀ s₁ mg mb G Y fa o pm cd doc dV kV ho hd hcd hD hmg hg args vals as hpre hlay hrd hwl hlo
 obtain rfl:dV=.none:=Dflts.none hD hdf
 obtain rfl:kV=.none:=Dflts.noKw hD
 obtain⟨a,vs,ns,rfl,rfl,hobj,hints,hlen⟩:=Vh hn hpre hwl
 refine enter_call (codeAny_mono (call w s₀ s₁ mg mb fa o pm cd doc a vs ns G Y ho (fd_plain hd) hcd hmg hobj hints hlen hg) λr s' hq=>?_)
 obtain⟨rfl,h2,h3,h4⟩:=hq
 exact⟨.inl ⟨.bool true,.bool true,[],rfl,λ_=>rfl,.bool true,Vq l _,λ_=>⟨List.Pairwise.nil,λ_ hm=>(nomatch hm)⟩⟩,h2,h3,h4⟩
section
variable {prog:Program} {w:World} {A:Around} {E:Value->Shared->Prop} {s:Shared} {K:Frag}
end
end Att
namespace L2
open PySem PySem.Spec PyProof.Rows
theorem zz:∀{vs:List Value} {ns:List Int},IntsAre vs ns->qD (ns.map V.int) vs
 | _,_,.nil=>.nil
 | _,_,.cons n t h=>.cons ⟨t,rfl⟩ (zz h)
def Gd (H:Hp):Prop:=∀b,H b=none\/∃o xs,H b=some (.frz o (.lst xs))
end L2
namespace L2
open PySem PySem.Spec PyProof.Rows
end L2
namespace L2
open PySem PySem.Spec PyProof.Rows
def QR (s:Stmt) (j:Nat):Stmt:=match s with
 | .ClassDef _ _ _ body _ _ _ _ _ _ _=>body.getD j (.Pass ⟨0,0,0,0⟩)
 | _=>.Pass ⟨0,0,0,0⟩
def jH (s:Stmt):Arguments:=match s with
 | .FunctionDef _ a _ _ _ _ _ _ _ _=>a
 | _=>{posonlyargs:=[],args:=[],vararg:=none,kwonlyargs:=[],kw_defaults:=[],kwarg:=none,defaults:=[]}
def je (s:Stmt):List Stmt:=match s with
 | .FunctionDef _ _ b _ _ _ _ _ _ _=>b
 | _=>[]
def qi (s:Stmt):Scope:=match s with
 | .FunctionDef _ _ _ _ _ _ sc _ _ _=>sc
 | _=>{kind:=.function,names:=[],isGenerator:=false,isCoroutine:=false}
abbrev qZ:Zd:=λ_ _ _ _ _ _=>False
abbrev E0:XK:=λ_ _ _=>False
theorem Js {X:Cx}:jm qZ X E0:=λ_ _ _ _ _ _ _ h=>h.elim
structure jU (K:PySem.W.Frag) (x qual:Str) (st:Stmt) (f:Addr) (fd:FuncData):Prop where
 ex:∃(oc:Value) (od:Option Addr) (kV doc pm:Value) (an:Option Addr) (cdv ct:Value) (osl:Array (Option Value)),
   fd=PySem.W.fnOf x qual (jH st) (je st) (qi st) .none kV doc pm an cdv ct/\K.lookup f=some ⟨oc,od,.func fd,osl⟩/\PySem.W.codeIn K cdv qual=true
 kp:PySem.W.keepIn K (.ref f)=true
section
variable {P:Program} {w:World} {K:PySem.W.Frag} {mg:Str->Option Value} {base:Heap}
theorem jU.ok {x qual:Str} {st:Stmt} {f:Addr} {fd:FuncData} {N ps:List Str} {k:Nat} {sp:Sp} (F:jU K x qual st f fd) (S:qz N ps (qi st)) (len:∀vs H Q E,sp vs H Q E->vs.length=ps.length)
   (hbody:∀(cdv:Value) (A:Around) (outer:List Env) (s:Shared) (H:Hp) (vs:List V) (Q:VK) (E:XK),qS k (A.deeper (envOfC qual (qi st) s.heap.objs.size f cdv))->sp vs H Q E->
     ∃t,vM (js qZ P w K mg base N qual (qi st) f cdv A outer s H E).nox (je st) t/\t {nx:=λ_ H'=>Q .non H',rt:=Q} (jM N vs) H):qo P w K mg base qZ (k+1) f fd ps sp:=by
 obtain⟨oc,od,kV,doc,pm,an,cdv,ct,osl,rfl,lk,hcd⟩:=F.ex
 refine yR lk hcd S len λA outer s H vs Q E hr hsp=>?_
 obtain⟨t,h,q⟩:=hbody cdv A outer s H vs Q E hr hsp
 exact⟨t,h.nox,q⟩
theorem jU.okJ {x qual:Str} {st:Stmt} {f:Addr} {fd:FuncData} {N ps:List Str} {k:Nat} {sp:Sp} (F:jU K x qual st f fd) (S:qz N ps (qi st)) (len:∀vs H Q E,sp vs H Q E->vs.length=ps.length)
   (hbody:∀(cdv:Value) (A:Around) (outer:List Env) (s:Shared) (H:Hp) (vs:List V) (Q:VK) (E:XK),qS k (A.deeper (envOfC qual (qi st) s.heap.objs.size f cdv))->sp vs H Q E->
     ∃t,zr (js qZ P w K mg base N qual (qi st) f cdv A outer s H E).nox (je st) t/\t {nx:=λ_ H'=>Q .non H',rt:=Q} (jM N vs) H):qo P w K mg base qZ (k+1) f fd ps sp:=
 F.ok S len λcdv A outer s H vs Q E hr h=>let ⟨t,a,b⟩:=hbody cdv A outer s H vs Q E hr h;⟨t,a.to,b⟩
theorem jU.binds {x qual:Str} {st:Stmt} {f:Addr} {fd:FuncData} {ps:List Str} (F:jU K x qual st f fd)
   (h:∀(kV doc pm:Value) (an:Option Addr) (cdv ct:Value) (us:List Value),us.length=ps.length->bindArgs (PySem.W.fnOf x qual (jH st) (je st) (qi st) .none kV doc pm an cdv ct) ⟨us,[]⟩=pure (ps.zip us)):jx K fd ps []:=by
 obtain⟨oc,od,kV,doc,pm,an,cdv,ct,osl,rfl,lk,hcd⟩:=F.ex
 exact .all (h kV doc pm an cdv ct)
theorem Yt {x qual:Str} {st:Stmt} {f:Addr} {oc:Value} {od an:Option Addr} {osl:Array (Option Value)} {kV doc pm cdv ct:Value} (l:K.lookup f=some ⟨oc,od,.func (PySem.W.fnOf x qual (jH st) (je st) (qi st) .none kV doc pm an cdv ct),osl⟩)
   (c:PySem.W.codeIn K cdv qual=true) (k:PySem.W.keepIn K (.ref f)=true):jU K x qual st f (PySem.W.fnOf x qual (jH st) (je st) (qi st) .none kV doc pm an cdv ct):=⟨⟨oc,od,kV,doc,pm,an,cdv,ct,osl,rfl,l,c⟩,k⟩
end
theorem zP {A:Around} {k:Nat} (hr:qS k A):A.units+1 < cLine:=Nat.lt_of_le_of_lt (Nat.add_le_add_left (by decide:1<=64) _) hr.units
theorem qw {n:Nat} (h:n<=1000):n < sizeLine:=Nat.lt_of_le_of_lt h (by decide)
section
variable {X:Cx}
theorem pv (i:Nat) {x:Str} {pos:Pos} (hN:X.N[i]?=some x:=by rfl) (hv:wn X.env.scope x:=by first | exact Or.inl rfl | exact Or.inr (Or.inl rfl) | exact Or.inr (Or.inr rfl)) (hd:(x==("__debug__":Str))=false:=by decide)
   (hcd:(x==("__classdict__":Str))=false:=by decide):PE X (.Name x pos) (jt i):=UI hN hv hd hcd
theorem jv (i:Nat) {x:Str} {pos:Pos} (hN:X.N[i]?=some x:=by rfl) (hv:wn X.env.scope x:=by first | exact Or.inl rfl | exact Or.inr (Or.inl rfl) | exact Or.inr (Or.inr rfl)) (hd:(x==("__debug__":Str))=false:=by decide) (hcd:(x==("__classdict__":Str))=false:=by decide):JE X (.Name x pos) (jt i):=.of (pv i hN hv hd hcd)
end
theorem jT {A B:Prop} (h:B):if false=true then A else B:=by
 rw[if_neg Bool.false_ne_true]
 exact h
theorem Qq {A B:Prop} (h:A):if true=true then A else B:=by
 rw[if_pos rfl]
 exact h
theorem zh {c A B:Prop} [Decidable c] (h1:c->A) (h2:¬c->B):if c then A else B:=by
 by_cases h:c
 . rw[if_pos h]
   exact h1 h
 . rw[if_neg h]
   exact h2 h
def Same (H H':Hp):Prop:=∀b o,H b=some o->H' b=some o
theorem Same.refl (H:Hp):Same H H:=λ_ _ h=>h
theorem Same.trans {H H1 H2:Hp} (a:Same H H1) (b:Same H1 H2):Same H H2:=λc o h=>b c o (a c o h)
section
variable {X:Cx}
end
section
variable {κ:Type} [DecidableEq κ]
theorem vR {kvs:List (κ×V)} {k:κ} {v:V} (h:jy kvs k=some v):k∈kvs.map (·.1):=by
 have q:(kvs.any λkv=>decide (kv.1=k))=true:=by
   rw[QA,h]
   all_goals rfl
 obtain⟨p,hp,e⟩:=List.any_eq_true.mp q
 exact List.mem_map.mpr ⟨p,hp,of_decide_eq_true e⟩
end
end L2
set_option Elab.async false
set_option linter.all false
set_option maxRecDepth 100000
set_option maxHeartbeats 4000000
namespace L2
open PySem PySem.Spec PyProof.Rows
theorem WW:(NameKind.free==NameKind.free)=true:=rfl
def qO (env:Env):List (Str×NameKind)->List (Str×Addr)->List (Str×Addr)
 | [],cs=>cs
 | (n,k)::r,cs=>qO env r (if k==.free then (n,(env.cells.lookup n).getD 0)::cs else cs)
theorem Qv {scope:Scope} {env:Env} (h:∀x∈scope.names,x.2=.free->∃c,env.cells.lookup x.1=some c):closureFor scope env=pure (qO env scope.names []):=by
 simp only[closureFor]
 have key:∀(l:List (Str×NameKind)) (cs:List (Str×Addr)),(∀x∈l,x.2=.free->∃c,env.cells.lookup x.1=some c)->
     (forIn l cs λx (r:List (Str×Addr))=>if (x.snd==NameKind.free)=true then (do let a <-cellOf env x.fst;pure (ForInStep.yield ((x.fst,a)::r)):Sem (ForInStep (List (Str×Addr)))) else pure (ForInStep.yield r))=(pure (qO env l cs):Sem (List (Str×Addr))):=by
   intro l
   induction l with
   | nil=>intro cs _;rfl
   | cons x l ih=>
     intro cs hl
     obtain⟨n,k⟩:=x
     have ihl:=λcs'=>ih cs' λy hy=>hl y (List.mem_cons_of_mem _ hy)
     rw[List.forIn_cons]
     by_cases hk:k=.free
     . subst hk
       obtain⟨c,hc⟩:=hl (n,.free) List.mem_cons_self rfl
       have e1:cellOf env n=pure c:=by
         unfold cellOf
         have hc':env.cells.lookup n=some c:=hc
         rw[hc']
       have e2:qO env ((n,NameKind.free)::l) cs=qO env l ((n,c)::cs):=by
         have hc':env.cells.lookup n=some c:=hc
         show qO env l (if (NameKind.free==NameKind.free)=true then (n,(env.cells.lookup n).getD 0)::cs else cs)=_
         rw[if_pos WW,hc']
         rfl
       rw[e2,<-ihl]
       dsimp only
       rw[if_pos WW,e1]
       rfl
     . have hb:(k==NameKind.free)=false:=by simpa using hk
       have e2:qO env ((n,k)::l) cs=qO env l cs:=by
         show qO env l (if (k==NameKind.free)=true then (n,(env.cells.lookup n).getD 0)::cs else cs)=_
         rw[if_neg (by rw[hb];decide)]
       rw[e2,<-ihl]
       dsimp only
       rw[if_neg (by rw[hb];decide)]
       rfl
 rw[key scope.names [] h]
 rfl
theorem Qa {env:Env} {x:Str} {c:Addr}:∀{l:List (Str×NameKind)} {cs:List (Str×Addr)},(qO env l cs).lookup x=some c->cs.lookup x=some c\/((x,NameKind.free)∈l/\c=(env.cells.lookup x).getD 0)
 | [],cs,h=>.inl h
 | (n,k)::r,cs,h=>by
   rcases Qa (l:=r) h with h | ⟨h1,h2⟩
   . by_cases hk:k=.free
     . subst hk
       rw[if_pos WW,List.lookup_cons]at h
       by_cases hx:x=n
       . subst hx
         simp only[beq_self_eq_true]at h
         exact .inr ⟨List.mem_cons_self,(Option.some.inj h).symm⟩
       . have hb:(x==n)=false:=beq_eq_false_iff_ne.mpr hx
         simp only[hb]at h
         exact .inl h
     . have hb:(k==NameKind.free)=false:=by simpa using hk
       rw[if_neg (by rw[hb];decide)]at h
       exact .inl h
   . exact .inr ⟨List.mem_cons_of_mem _ h1,h2⟩
theorem QT {env:Env} {x:Str}:∀{l:List (Str×NameKind)} {cs:List (Str×Addr)},((x,NameKind.free)∈l\/∃c,cs.lookup x=some c)->∃c,(qO env l cs).lookup x=some c
 | [],cs,h=>by
   rcases h with h | h
   . cases h
   . exact h
 | (n,k)::r,cs,h=>by
   show ∃c,(qO env r (if (k==NameKind.free)=true then (n,(env.cells.lookup n).getD 0)::cs else cs)).lookup x=some c
   refine QT (l:=r) ?_
   rcases h with h | ⟨c,h⟩
   . rcases List.mem_cons.mp h with h | h
     . cases h
       refine .inr ⟨(env.cells.lookup x).getD 0,?_⟩
       rw[if_pos WW,List.lookup_cons]
       simp only[beq_self_eq_true]
     . exact .inl h
   . refine .inr ?_
     by_cases hk:(k==NameKind.free)=true
     . rw[if_pos hk,List.lookup_cons]
       cases hx:x==n with
       | true=>exact⟨_,rfl⟩
       | false=>exact⟨c,h⟩
     . rw[if_neg hk]
       exact⟨c,h⟩
theorem JZ {scope:Scope} {env:Env} {x:Str} {k:NameKind}:∀{names:List (Str×NameKind)},names.lookup x=some k->
   ∃k',(names.map λ(n,k)=>if (k==NameKind.free&&env.scope.kind==.function&&env.kindOf n==some .cell) then (n,NameKind.cell) else (n,k)).lookup x=some k'/\(k'=k\/(k=.free/\k'=.cell))
 | [],h=>by simp at h
 | (n,j)::r,h=>by
   rw[List.map_cons]
   by_cases hx:x=n
   . subst hx
     rw[List.lookup_cons]at h
     simp only[beq_self_eq_true]at h
     cases h
     dsimp only
     by_cases hc:(k==NameKind.free&&env.scope.kind==.function&&env.kindOf x==some .cell)=true
     . rw[if_pos hc,List.lookup_cons]
       simp only[beq_self_eq_true]
       refine⟨_,rfl,.inr ⟨?_,rfl⟩⟩
       simp only[Bool.and_eq_true,beq_iff_eq]at hc
       exact hc.1.1
     . rw[if_neg hc,List.lookup_cons]
       simp only[beq_self_eq_true]
       exact⟨_,rfl,.inl rfl⟩
   . have hb:(x==n)=false:=beq_eq_false_iff_ne.mpr hx
     rw[List.lookup_cons]at h
     simp only[hb]at h
     obtain⟨k',h1,h2⟩:=JZ (env:=env) (scope:=scope) h
     refine⟨k',?_,h2⟩
     dsimp only
     by_cases hc:(j==NameKind.free&&env.scope.kind==.function&&env.kindOf n==some .cell)=true
     . rw[if_pos hc,List.lookup_cons]
       simp only[hb]
       exact h1
     . rw[if_neg hc,List.lookup_cons]
       simp only[hb]
       exact h1
theorem mem_of_lookup {x:Str} {k:NameKind}:∀{l:List (Str×NameKind)},l.lookup x=some k->(x,k)∈l
 | [],h=>by simp at h
 | (n,j)::r,h=>by
   rw[List.lookup_cons]at h
   by_cases hx:x=n
   . subst hx
     simp only[beq_self_eq_true]at h
     cases h
     exact List.mem_cons_self
   . have hb:(x==n)=false:=beq_eq_false_iff_ne.mpr hx
     simp only[hb]at h
     exact List.mem_cons_of_mem _ (mem_of_lookup h)
theorem Jt {f:Str×NameKind->Str×NameKind} (hf:∀p,(f p).1=p.1) {x:Str} {k:NameKind}:∀{l:List (Str×NameKind)},(l.map f).lookup x=some k->∃j,l.lookup x=some j/\(f (x,j)).2=k
 | [],h=>by simp at h
 | (n,j)::r,h=>by
   rw[List.map_cons]at h
   have e:f (n,j)=(n,(f (n,j)).2):=by
     have:=hf (n,j)
     exact Prod.ext this rfl
   rw[e,List.lookup_cons]at h
   rw[List.lookup_cons]
   by_cases hx:x=n
   . subst hx
     simp only[beq_self_eq_true]at h ⊢
     exact⟨j,rfl,Option.some.inj h⟩
   . have hb:(x==n)=false:=beq_eq_false_iff_ne.mpr hx
     simp only[hb]at h ⊢
     exact Jt hf h
def ZD (X:Cx) (N:List Str) (scope:Scope) (C:Addr) (s₂:Shared) (H₂:Hp) (fp:List Addr) (pins:List (Addr×Obj)):Cx where
 prog:=X.prog
 w:=X.w
 K:=X.K
 mg:=X.mg
 base:=X.base
 A:=X.A
 N:=N
 s₀:=s₂
 H₀:=H₂
 env:=compEnvC scope (qO X.env scope.names []) C X.env
 outer:=X.stack
 stack:=X.stack
 ex:=fp
 fn:=λ_=>false
 calm:=X.calm
 pn:=X.pn++pins
 xe:=λ_ _=>False
def yZ (ix:List (Option Nat)) (σ:St):St:=ix.map λo=>o.bind λj=>(σ[j]?).join
def k4 (N' N:List Str) (sc esc:Scope) (ix:List (Option Nat)):Bool:=
 ix.length==N'.length&&(ix.zip N').all λp=>match p.1 with
   | none=>true
   | some j=>N[j]?==some p.2&&sc.names.lookup p.2==some .free&&(esc.names.lookup p.2==some .cell || esc.names.lookup p.2==some .free)
structure jL (X:Cx) (N':List Str) (ix:List (Option Nat)) (scope:Scope):Prop where
 kind:scope.kind=.function
 nocell:(scope.names.all λx=>x.2 != .cell)=true
 locs:(scope.names.all λx=>x.2 != .local || scope.names.lookup x.1==some .local)=true
 frees:(scope.names.all λx=>x.2 != .free || (X.env.scope.names.lookup x.1==some .cell || X.env.scope.names.lookup x.1==some .free))=true
 ixs:k4 N' X.N scope X.env.scope ix=true
section
variable {X:Cx} {N':List Str} {ix:List (Option Nat)} {scope:Scope} {pins:List (Addr×Obj)} {σ:St} {H:Hp} {s:Shared}
theorem jL.cellH (S:jL X N' ix scope):∀y∈scope.names,y.2≠.cell:=λy hy e=>by
 have:=List.all_eq_true.mp S.nocell y hy
 rw[e]at this
 exact absurd this (by decide)
theorem jL.locH (S:jL X N' ix scope):∀y∈scope.names,y.2=.local->scope.names.lookup y.1=some .local:=λy hy e=>by
 have:=List.all_eq_true.mp S.locs y hy
 simp only[e,Bool.or_eq_true,bne_self_eq_false,Bool.false_eq_true,false_or,beq_iff_eq]at this
 exact this
theorem jL.freeH (S:jL X N' ix scope) (ok:X.Ok):∀x∈scope.names,x.2=.free->∃c,X.env.cells.lookup x.1=some c:=λx hx e=>by
 have:=List.all_eq_true.mp S.frees x hx
 simp only[e,Bool.or_eq_true,bne_self_eq_false,Bool.false_eq_true,false_or,beq_iff_eq]at this
 exact ok.has x.1 this
theorem jL.clook (S:jL X N' ix scope) (ok:X.Ok) {x:Str} {c:Addr} (h:(qO X.env scope.names []).lookup x=some c):X.env.cells.lookup x=some c/\(x,NameKind.free)∈scope.names:=by
 rcases Qa h with h | ⟨h1,h2⟩
 . simp at h
 . obtain⟨c',hc'⟩:=S.freeH ok _ h1 rfl
   have hc2:X.env.cells.lookup x=some c':=hc'
   rw[hc2]at h2
   subst h2
   exact⟨hc2,h1⟩
theorem uO {C:Addr} {fp:List Addr} (S:jL X N' ix scope) (I:qu X pins σ H s) (hC:s.heap.objs.size<=C) (hf:∀b∈fp,JJ X pins H b) (hfo:∀b∈fp,b < s.heap.objs.size):(ZD X N' scope C s H fp pins).Ok where
 mod:=I.ok.mod
 kind:=S.kind
 glob:=I.ok.glob
 blt:=I.ok.blt
 above:=hC
 inj:=λx y c h1 h2=>I.ok.inj x y c (S.clook I.ok h1).1 (S.clook I.ok h2).1
 has:=λx hx=>by
   have hx':(relabel scope X.env).names.lookup x=some .cell\/(relabel scope X.env).names.lookup x=some .free:=hx
   refine QT (.inl ?_)
   have go:∀k,(k=NameKind.cell\/k=.free)->(relabel scope X.env).names.lookup x=some k->(x,NameKind.free)∈scope.names:=λk hk h=>by
     obtain⟨j,h1,h2⟩:=Jt (f:=λ(n,k)=>if (k==NameKind.free&&X.env.scope.kind==.function&&X.env.kindOf n==some .cell) then (n,NameKind.cell) else (n,k)) (λp=>by dsimp only;split<;>rfl) h
     have hm:=mem_of_lookup h1
     by_cases hj:j=.free
     . subst hj;exact hm
     . exfalso
       have hb:(j==NameKind.free)=false:=by simpa using hj
       dsimp only at h2
       rw[hb,Bool.false_and,Bool.false_and,if_neg (by decide)]at h2
       have h2':j=k:=h2
       rcases hk with e | e
       . exact S.cellH _ hm (h2'.trans e)
       . exact hj (h2'.trans e)
   rcases hx' with h | h
   . exact go _ (.inl rfl) h
   . exact go _ (.inr rfl) h
 cab:=λx c h _=>by cases h
 hd:=I.ok.hd
 frames:=I.ok.frames
 stk:=.inl rfl
 exf:=λb hb=>⟨Nat.ne_of_lt (Nat.lt_of_lt_of_le (hfo b hb) hC),λx c h=>(hf b hb).2.2.2.2.1 x c (S.clook I.ok h).1⟩
 bs:=I.bs
 bsz:=Nat.le_trans I.ok.bsz I.sz
 noex:=λb o e hb=>by
   rcases(hf b hb).2.2.2.1 with h | h
   . exact I.ok.noex b o e h
   . exact absurd (Nat.lt_of_lt_of_le (Heap.lt_size e) (Nat.le_trans I.ok.bsz h)) (Nat.lt_irrefl _)
 exfs:=λb hb hm=>by
   rcases List.mem_cons.mp (I.stkSub b hm) with e | e
   . exact(hf b hb).2.1 e
   . exact(hf b hb).2.2.1 e
 funs:=I.stack
 frf:=I.stkFree
theorem VQ {C D:Addr} {fp:List Addr} {h₁:Heap} {m:Str->Option Value} {t':Nat} {n₀:Nat} (S:jL X N' ix scope) (I:qu X pins σ H s) (hf:∀b∈fp,JJ X pins H b) (hfo:∀b∈fp,b < s.heap.objs.size)
   (hD:s.heap.objs.size<=D) (hC:s.heap.objs.size<=C) (hDC:D≠C) (kp:∀b o,s.heap.get? b=some o->h₁.get? b=some o) (hn:h₁.Ns C m) (hl:h₁.get? D=some {cls:=.type "list",data:=.seq #[] n₀}):
   qu (ZD X N' scope C s H fp pins) [] (yZ ix σ) (upd H D (.lst [])) {s with heap:=h₁,toks:=t'} where
 ok:=uO S I hC hf hfo
 os:=rfl
 bare:=I.bare
 base:=Un.laid kp hD (I.hok.fresh hD)
 loc:=by
   refine⟨m,hn,λi x v e1 e2 e3=>?_⟩
   have hix:=S.ixs
   unfold k4 at hix
   rw[Bool.and_eq_true]at hix
   obtain⟨hlen,hall⟩:=hix
   have hlen':ix.length=N'.length:=by simpa using hlen
   have e1':N'[i]?=some x:=e1
   unfold yZ at e2
   rw[List.getElem?_map]at e2
   cases ho:ix[i]? with
   | none=>rw[ho]at e2;cases e2
   | some o=>
     rw[ho]at e2
     cases o with
     | none=>cases e2
     | some j=>
       have e2':(σ[j]?).join=some v:=Option.some.inj e2
       have hz:(ix.zip N')[i]?=some (some j,x):=by
         rw[List.getElem?_zip_eq_some]
         exact⟨ho,e1'⟩
       have hm:=List.all_eq_true.mp hall _ (List.mem_of_getElem? hz)
       dsimp only at hm
       simp only[Bool.and_eq_true,beq_iff_eq,Bool.or_eq_true]at hm
       obtain⟨⟨hN,hfr⟩,hk⟩:=hm
       have e2'':σ[j]?=some (some v):=by
         cases q:σ[j]? with
         | none=>rw[q]at e2';cases e2'
         | some z=>
           rw[q]at e2'
           have:z=some v:=e2'
           rw[this]
       obtain⟨mX,hnX,hlX⟩:=I.loc
       have hvis:wn X.env.scope x:=by
         rcases hk with h | h
         . exact .inr (.inl h)
         . exact .inr (.inr h)
       obtain⟨u,ru,lu⟩:=hlX j x v hN e2'' hvis
       refine⟨u,ru,?_⟩
       rcases lu with ⟨hk',_⟩ | ⟨_,c,hc,hcell⟩
       . exfalso
         have hk'':X.env.scope.names.lookup x=some .local:=hk'
         rcases hk with h | h<;>rw[h]at hk''<;>cases hk''
       . right
         obtain⟨k',r1,r2⟩:=JZ (scope:=scope) (env:=X.env) hfr
         refine⟨?_,?_⟩
         . rcases r2 with z | ⟨_,z⟩
           . right;rw[z]at r1;exact r1
           . left;rw[z]at r1;exact r1
         . obtain⟨c',hc'⟩:=QT (env:=X.env) (cs:=[]) (.inl (mem_of_lookup hfr))
           have:=(S.clook I.ok hc').1
           rw[hc]at this
           cases this
           obtain⟨o,ho',hd⟩:=hcell
           exact⟨c,hc',o,kp _ _ ho',hd⟩
 cell:=λx c h=>by
   obtain⟨v,o,ho,hd⟩:=I.cell x c (S.clook I.ok h).1
   exact⟨v,o,kp _ _ ho,hd⟩
 free:=by
   show (upd H D _) C=none
   rw[qf (Ne.symm hDC)]
   exact I.hok.fresh hC
 freeC:=λx c h=>by
   have h1:=(S.clook I.ok h).1
   obtain⟨v,o,ho,hd⟩:=I.cell x c h1
   rw[qf (Nat.ne_of_lt (Nat.lt_of_lt_of_le (Heap.lt_size ho) hD))]
   exact(I.freeC x c h1).imp id λz=>⟨rfl,z.2⟩
 pin:=λp hp=>by
   have hp':p∈X.pn++pins:=by
     have:p∈(X.pn++pins)++[]:=hp
     simpa using this
   obtain⟨e,n,ne,nf,d⟩:=I.pin p hp'
   have hlt:=Heap.lt_size e
   refine⟨kp _ _ e,?_,Nat.ne_of_lt (Nat.lt_of_lt_of_le hlt hC),λhm=>?_,d⟩
   . rw[qf (Nat.ne_of_lt (Nat.lt_of_lt_of_le hlt hD))];exact n
   . rcases List.mem_cons.mp (I.stkSub p.1 hm) with z | z
     . exact ne z
     . exact nf z
 hok:=I.hok.laid kp hD ⟨Nat.zero_le _,[],n₀,.nil,hl⟩
 len:=by
   have hix:=S.ixs
   unfold k4 at hix
   rw[Bool.and_eq_true]at hix
   have:ix.length=N'.length:=by simpa using hix.1
   show (yZ ix σ).length=N'.length
   unfold yZ
   rw[List.length_map,this]
theorem vm {C:Addr} {fp:List Addr} {σ':St} {H':Hp} {s':Shared} {pl:List (Addr×Obj)} (I:qu X pins σ H s) (hf:∀b∈fp,JJ X pins H b) (J:qu (ZD X N' scope C s H fp pins) pl σ' H' s'):qu X pins σ H' s':=
 I.call' (ch:=fp) J.os J.base J.hok J.bare λb hb=>⟨(hf b hb).2.2.2.1,(hf b hb).2.1,(hf b hb).2.2.2.2.1,(hf b hb).2.2.2.2.2⟩
theorem vk {C:Addr} {H':Hp} {s₀ s':Shared} {h':Heap} (I₀:qu X pins σ H s₀) (I:qu X pins σ H' s') (hC:s₀.heap.objs.size<=C) (hn:H' C=none) (sb:Heap.SameBut C s'.heap h'):qu X pins σ H' {s' with heap:=h'}:=by
 refine I.turned (it:=C) (t':=s'.toks) (λb o hb e=>(sb.2 b hb).trans e) hn (Nat.ne_of_gt (Nat.lt_of_lt_of_le I₀.lt hC)) (.inr (Nat.le_trans I₀.sz hC)) (λx c e z=>?_) λp hp z=>?_
 . obtain⟨v,q⟩:=I₀.cell x c e
   exact absurd (Nat.lt_of_lt_of_le q.lt (by rw[z];exact hC)) (Nat.lt_irrefl _)
 . exact absurd (Nat.lt_of_lt_of_le (Heap.lt_size (I₀.pin p hp).1) (by rw[z];exact hC)) (Nat.lt_irrefl _)
end
def wo (X:Cx) (ifs:List Expr) (t:TT):Prop:=
 ∀(pins:List (Addr×Obj)) (s:Shared) (σ:St) (H:Hp) (Q:Bool->Hp->Prop),qu X pins σ H s->t σ H Q->
   wpAny (model X.prog X.w) X.A (forIn ifs true λc r=>if r=true then do let ok <-isTrue c X.env (eval c X.env);pure (ForInStep.yield ok) else pure (ForInStep.yield r)) (TP X pins σ Q) X.xe s
@[irreducible] def vN (X:Cx) (ifs:List Expr) (t:TT):Prop:=wo X ifs t
theorem vN.of {X:Cx} {ifs:List Expr} {t:TT} (h:wo X ifs t):vN X ifs t:=by unfold vN;exact h
theorem vN.to {X:Cx} {ifs:List Expr} {t:TT} (h:vN X ifs t):wo X ifs t:=by unfold vN at h;exact h
def Kn:TT:=λ_ H Q=>Q true H
theorem j4 {X:Cx}:vN X [] Kn:=.of (by
 exact λ_ _ _ H _ I h=>wpAny_tests_nil ⟨H,I,h⟩)
theorem WM {X:Cx} {c:Expr} {t:TT} (h:JT X c t):vN X [c] t:=.of (by
 have h:=h.to
 exact λpins s σ H Q I hw=>wpAny_tests_one (h pins s σ H Q I hw))
section
variable {prog:Program} {w:World} {A:Around} {R:Result->Shared->Prop} {s:Shared}
theorem Yx {elt target iter:Expr} {ifs:List Expr} {scope:Scope} {pos:Pos} {it acc:Value} {env:Env} (I:Nat->Shared->Prop)
   (turn:∀n s,I n s->wpAny (model prog w) A (pyNext it) (λr s₁=>match r with
     | none=>R (.ok .next) s₁
     | some v=>wpAny (model prog w) A (letOwnedTupleGo target it v) (λ_ s₁'=>wpAny (model prog w) A (assign target env v) (λ_ s₂=>
         wpAny (model prog w) A (forIn ifs true λc r=>if r=true then do let ok <-isTrue c env (eval c env);pure (ForInStep.yield ok) else pure (ForInStep.yield r)) (λok s₃=>
           if ok=true then wpAny (model prog w) A (eval elt env) (λx s₄=>
             wpAny (model prog w) A (call (.builtin "list.append") [acc,x]) (λ_ s₅=>∃m,m < n/\I m s₅) (λ_ _=>False) s₄) (λ_ _=>False) s₃
           else ∃m,m < n/\I m s₃) (λ_ _=>False) s₂) (λ_ _=>False) s₁') (λ_ _=>False) s₁) (λ_ _=>False) s)
   (n:Nat) (h:I n s):
   codeAny (model prog w) A (.compLoop (.ListComp elt [⟨target,iter,ifs,0⟩] scope pos) 0 it acc env) R s:=by
 refine codeAny_loop rfl I (λn s hI=>?_) n h
 show wpAny _ A ((compTurn (.ListComp elt [⟨target,iter,ifs,0⟩] scope pos) 0 it acc env).onRaise (λx=>do noteFrame x env;theTreesLotGoes x)) _ _ s
 refine wpAny_noted ?_
 rw[compTurn_list]
 refine wpAny_bind (wpAny_standAt (wpAny_bind (wpAny_mono (turn n s hI) (λr s₁ h₁=>?_) λ_ _ h'=>h'.elim)))
 cases r with
 | none=>exact wpAny_pure h₁
 | some v=>
   refine wpAny_bind (wpAny_mono h₁ (λ_ s₁' h₁'=>?_) λ_ _ h'=>h'.elim)
   refine wpAny_bind (wpAny_mono h₁' (λ_ s₂ h₂=>wpAny_bind (wpAny_mono h₂ (λok s₃ h₃=>?_) λ_ _ h'=>h'.elim)) λ_ _ h'=>h'.elim)
   cases ok with
   | false=>exact wpAny_pure ⟨rfl,h₃⟩
   | true=>
     exact wpAny_bind (wpAny_bind (wpAny_mono h₃ (λx s₄ h₄=>wpAny_bind (wpAny_mono h₄ (λ_ s₅ h₅=>wpAny_pure (wpAny_pure ⟨rfl,h₅⟩)) λ_ _ h'=>h'.elim)) λ_ _ h'=>h'.elim))
end
def XA (J:It) (g:TG) (tt:TT) (te:TE) (D:Addr) (σ:St) (H:Hp) (Q:Hp->Prop):Prop:=
 ∃W:Nat->Nat->St->Hp->Prop,(∃m,W 0 m σ (upd H D (.lst [])))/\∀i m σ' H',W i m σ' H'->
   (J.stop i H'/\Q H')\/(J.go i H'/\∃N:St->Hp->Prop,(∀σ2 H2,N σ2 H2->∃m',m' < m/\W (i+1) m' σ2 H2)/\∀x H2,J.yld i H' x H2->g x σ' H2 λσ2 H3=>tt σ2 H3 λb H4=>
     if b=true then te σ2 H4 λv H5=>∃ys,H5 D=some (.lst ys)/\ys.length < sizeLine/\N σ2 (upd H5 D (.lst (ys++[v]))) else N σ2 H4)
def Kc (wi:TI) (ix:List (Option Nat)) (g:TG) (tt:TT) (te:TE):TE:=λσ H Q=>wi σ H λJ H1=>∀D,H1 D=none->XA J g tt te D (yZ ix σ) H1 λH2=>Q (.ref D) H2
section
variable {X:Cx} {N':List Str} {ix:List (Option Nat)} {scope:Scope}
theorem zY {elt iter target:Expr} {ifs:List Expr} {pos:Pos} {g:TG} {tt:TT} {te:TE} {pins:List (Addr×Obj)} {σ:St} {H:Hp} {s:Shared} {it:Addr} {fp:List Addr} {tn:Nat->Heap->Prop} {J:It} {E:Value->Shared->Prop}
   {RR:Value->Addr->Result->Shared->Prop} {Q:Addr->Hp->Prop}
   (hc:X.calm=true) (S:jL X N' ix scope) (I:qu X pins σ H s) (T:Wd X.prog X.w X.K target J fp it tn) (st:tn 0 s.heap) (hf:∀b∈fp,JJ X pins H b)
   (hb:∀C s₂ H₂ fp pins,PG (ZD X N' scope C s₂ H₂ fp pins) target g/\wo (ZD X N' scope C s₂ H₂ fp pins) ifs tt/\PE (ZD X N' scope C s₂ H₂ fp pins) elt te)
   (h:∀D,H D=none->XA J g tt te D (yZ ix σ) H (Q D))
   (fin:∀(D C:Addr) (H':Hp) (s':Shared) (m:Str->Option Value),s.heap.objs.size<=C->H' C=none->s'.heap.Ns C m->qu X pins σ H' s'->Q D H'->RR (.ref D) C (.ok .next) s'):
   wpAny (model X.prog X.w) X.A (newList []) (λacc s₃=>wpAny (model X.prog X.w) X.A (newFunctionEnv scope X.env.globals (qO X.env scope.names []) [] X.env.qual none .none (some X.env)) (λcenv s₄=>
     codeAny (model X.prog X.w) X.A (.compStart (.ListComp elt [⟨target,iter,ifs,0⟩] scope pos) 0 (.ref it) acc {cenv with scope:=relabel scope X.env}) (RR acc cenv.locals) s₄) E s₃) E s:=by
 have hfo:∀b∈fp,b < s.heap.objs.size:=λb hb=>by
   obtain⟨o,e,_⟩:=T.obj _ _ st b hb
   exact Heap.lt_size e
 refine wpAny_newObj_type (wpAny_newFunctionEnv S.cellH (by intro y hy;simp at hy) (λh₁ hns₁ hsb₁=>?_) S.kind)
 dsimp only at hns₁ hsb₁ ⊢
 generalize hH2:s.heap.push {cls:=.type "list",dict:=none,data:=.seq ([]:List Value).toArray}=H2 at hns₁ hsb₁ ⊢
 have hC:H2.objs.size=s.heap.objs.size+1:=by rw[<-hH2,Heap.size_push]
 have hDC:s.heap.objs.size≠H2.objs.size:=by rw[hC];exact Nat.ne_of_lt (Nat.lt_succ_self _)
 have hCle:s.heap.objs.size<=H2.objs.size:=by rw[hC];exact Nat.le_succ _
 have below:∀b,b < s.heap.objs.size->b≠H2.objs.size:=λb hb=>by rw[hC];exact Nat.ne_of_lt (Nat.lt_succ_of_lt hb)
 have old:∀b o,s.heap.get? b=some o->h₁.get? b=some o:=λb o e=>hsb₁.extBut b o (below b (Heap.lt_size e)) (Heap.get?_push_of_some _ (hH2▸Heap.get?_push_of_some _ e))
 have hacc:h₁.get? s.heap.objs.size=some {cls:=.type "list",data:=.seq #[] 0}:=hsb₁.extBut _ _ hDC (Heap.get?_push_of_some _ (hH2▸Heap.get?_push_size _ rfl))
 obtain⟨W,⟨m0,w0⟩,turn⟩:=h s.heap.objs.size (I.hok.fresh (Nat.le_refl _))
 have I1:qu (ZD X N' scope H2.objs.size s H fp pins) [] (yZ ix σ) (upd H s.heap.objs.size (.lst [])) {s with heap:=h₁,toks:=s.toks+([]:List (Str×Value)).length}:=
   VQ S I hf hfo (Nat.le_refl _) hCle hDC old hns₁ hacc
 have st₁:tn 0 h₁:=T.keep _ _ _ st λb hb o e=>old b o e
 have fpn:∀b∈fp,(upd H s.heap.objs.size (.lst [])) b=none:=λb hb=>by
   rw[qf (Nat.ne_of_lt (hfo b hb))]
   exact(hf b hb).1
 obtain⟨hg,htt,hte⟩:=hb H2.objs.size s H fp pins
 have okY:=I1.ok
 have stat:∀{H':Hp},(∀b∈fp,H' b=none)->∀b∈fp,JJ (ZD X N' scope H2.objs.size s H fp pins) [] H' b:=λ{H'} hn b hb=>
   ⟨hn b hb,(okY.exf b hb).1,okY.exfs b hb,.inl hb,(okY.exf b hb).2,λp hp=>by
     have hp':p∈X.pn++pins:=by
       have:p∈(X.pn++pins)++[]:=hp
       simpa using this
     exact(hf b hb).2.2.2.2.2 p hp'⟩
 have loop:codeAny (model X.prog X.w) X.A (.compLoop (.ListComp elt [⟨target,iter,ifs,0⟩] scope pos) 0 (.ref it) (.ref s.heap.objs.size) (compEnvC scope (qO X.env scope.names []) H2.objs.size X.env))
     (RR (.ref s.heap.objs.size) H2.objs.size) {s with heap:=h₁,toks:=s.toks+([]:List (Str×Value)).length}:=by
   refine Yx (λn s'=>∃i σ' H',qu (ZD X N' scope H2.objs.size s H fp pins) [] σ' H' s'/\tn i s'.heap/\(∀b∈fp,H' b=none)/\W i n σ' H') ?_ m0 ⟨0,_,_,I1,st₁,fpn,w0⟩
   rintro n s3 ⟨i,σ3,H3,I3,st3,fr3,w3⟩
   rcases turn i n σ3 H3 w3 with ⟨stop,qn⟩ | ⟨go,NN,hNN,step⟩
   . refine qY (T.done (ZD X N' scope H2.objs.size s H fp pins) rfl rfl rfl hc i [] s3 σ3 H3 _ I3 (stat fr3) st3 stop) λr s4 ⟨hr,I4⟩=>?_
     subst hr
     obtain⟨mm,hnm,_⟩:=I4.loc
     exact fin _ _ H3 s4 mm hCle I4.free hnm (vm I hf I4) qn
   . refine qY (T.item (ZD X N' scope H2.objs.size s H fp pins) rfl rfl rfl hc i [] s3 σ3 H3 _ I3 (stat fr3) st3 go) λr s4 ⟨u,hr,h4⟩=>?_
     subst hr
     refine qY h4 λ_ s5 ⟨x,H5,I5,r5,y5,st5,fr5⟩=>?_
     have I5':=I5.pinned (stat fr5) (T.obj _ _ st5)
     refine qY (hg _ s5 σ3 H5 x u _ I5' r5 (step x H5 y5)) λ_ s6 ⟨σ6,H6,I6,q6⟩=>?_
     refine qY (htt _ s6 σ6 H6 _ I6 q6) λok s7 ⟨H7,I7,q7⟩=>?_
     have again:∀{σ8:St} {H8:Hp} {s8:Shared},qu (ZD X N' scope H2.objs.size s H fp pins) ([]++Z9 fp s5.heap) σ8 H8 s8->NN σ8 H8->
         ∃m,m < n/\∃i σ' H',qu (ZD X N' scope H2.objs.size s H fp pins) [] σ' H' s8/\tn i s8.heap/\(∀b∈fp,H' b=none)/\W i m σ' H':=λ{σ8 H8 s8} I8 n8=>by
       obtain⟨m',hm,w8⟩:=hNN σ8 H8 n8
       refine⟨m',hm,i+1,σ8,H8,I8.unpinned,T.keep _ _ _ st5 λb hb o e=>(I8.pin (b,o) (List.mem_append_right _ (List.mem_append_right _ (QO hb e)))).1,λb hb=>?_,w8⟩
       obtain⟨o,e,d⟩:=T.obj _ _ st5 b hb
       exact(I8.pin (b,o) (List.mem_append_right _ (List.mem_append_right _ (QO hb e)))).2.1
     cases ok with
     | false=>
       rw[if_neg Bool.false_ne_true]at q7 ⊢
       exact again I7 q7
     | true=>
       rw[if_pos rfl]at q7 ⊢
       refine qY (hte _ s7 σ6 H7 _ I7 q7) λv s8 ⟨y,H8,I8,r8,q8⟩=>?_
       obtain⟨ys,hy,hz,q8⟩:=q8
       refine qY (Jl (X:=ZD X N' scope H2.objs.size s H fp pins) _ s8 σ6 H8 (.ref s.heap.objs.size) [y] (.ref s.heap.objs.size) [v] (λ_ H9=>NN σ6 H9) I8 rfl (.cons r8 .nil) ⟨_,ys,y,rfl,rfl,hy,hz,q8⟩) λ_ s9 ⟨_,H9,I9,_,q9⟩=>?_
       exact again I9 q9
 exact codeAny_compStart_list loop (T.self X.A 0 _ _ _ st₁ loop)
theorem uc {elt iter target:Expr} {ifs:List Expr} {pos:Pos} {wi:TI} {g:TG} {tt:TT} {te:TE} (hc:X.calm=true) (S:jL X N' ix scope) (hi:PI X target iter wi)
   (hb:∀C s₂ H₂ fp pins,PG (ZD X N' scope C s₂ H₂ fp pins) target g/\wo (ZD X N' scope C s₂ H₂ fp pins) ifs tt/\PE (ZD X N' scope C s₂ H₂ fp pins) elt te)
   (hs:∀x,foldedSetIterable iter X.env x=pure x:=by intro _;rfl):PE X (.ListComp elt [⟨target,iter,ifs,0⟩] scope pos) (Kc wi ix g tt te):=by
 intro pins s σ H Q I h
 rw[eval_ListComp]
 refine wpAny_comprehension_free (use:=none) rfl hs (Qv (S.freeH I.ok)) S.kind S.locH ?_
 refine qY (hi pins s σ H _ I h) λxv s1 h1=>qY h1 λitv s2 h2=>?_
 obtain⟨it,fp,tn,J,H2,e,I2,T,st2,f2,q2⟩:=h2
 subst e
 refine zY (RR:=λacc C=>compPost (model X.prog X.w) X.A X.xe none (EP X pins σ Q) acc C) (Q:=λD H'=>Q (.ref D) H') hc S I2 T st2 f2 hb q2 ?_
 intro D C H' s' m hC hn hm I' q
 exact⟨m,hm,λh' sb=>⟨.ref D,H',vk I2 I' hC hn sb,rfl,q⟩⟩
theorem ZA {elt iter target:Expr} {ifs:List Expr} {pos:Pos} {wi:TI} {g:TG} {tt:TT} {te:TE} (hc:X.calm=true) (S:jL X N' ix scope) (hi:JI X target iter wi) (hb:∀C s₂ H₂ fp pins,JG (ZD X N' scope C s₂ H₂ fp pins) target g/\vN (ZD X N' scope C s₂ H₂ fp pins) ifs tt/\JE (ZD X N' scope C s₂ H₂ fp pins) elt te) (hs:∀x,foldedSetIterable iter X.env x=pure x:=by intro _;rfl):JE X (.ListComp elt [⟨target,iter,ifs,0⟩] scope pos) (Kc wi ix g tt te):=.of (uc hc S hi.to (λC s₂ H₂ fp pins=>⟨(hb C s₂ H₂ fp pins).1.to,(hb C s₂ H₂ fp pins).2.1.to,(hb C s₂ H₂ fp pins).2.2.to⟩) hs)
theorem UG {i:Nat} {x:Str} {elt iter target:Expr} {ifs:List Expr} {pos spos px:Pos} {wi:TI} {g:TG} {tt:TT} {te:TE} (hN:X.N.Nodup) (hxi:X.N[i]?=some x) (hx:wu X.env.scope x) (hc:X.calm=true) (S:jL X N' ix scope) (hi:PI X target iter wi)
   (hb:∀C s₂ H₂ fp pins,PG (ZD X N' scope C s₂ H₂ fp pins) target g/\wo (ZD X N' scope C s₂ H₂ fp pins) ifs tt/\PE (ZD X N' scope C s₂ H₂ fp pins) elt te)
   (hsw:swapsWith (.ListComp elt [⟨target,iter,ifs,0⟩] scope pos) (some (.Name x px)) spos.line X.env=pure true:=by rfl)
   (hs:∀x,foldedSetIterable iter X.env x=pure x:=by intro _;rfl) (hf:X.fn x=true\/X.env.scope.names.lookup x=some .local:=by first | exact .inl rfl | exact .inr rfl | assumption):
   PS X (.Assign [.Name x px] (.ListComp elt [⟨target,iter,ifs,0⟩] scope pos) spos) (YM (Kc wi ix g tt te) (QI i)):=by
 intro pins s σ H D I h
 rw[exec_Assign_Name_used _ _ _ _ hsw]
 refine wpAny_bind (wpAny_standAt (wpAny_bind ?_))
 show wpAny _ X.A (do let _ <-comprehension (.ListComp elt [⟨target,iter,ifs,0⟩] scope pos) scope X.env _ (newList []) false (eval iter X.env) (some (assign (.Name x px) X.env))) _ _ s
 refine wpAny_bind (qY (wpAny_comprehension_free (use:=some (assign (.Name x px) X.env)) (Q:=λ_ s'=>SP X pins D .next s') rfl hs (Qv (S.freeH I.ok)) S.kind S.locH ?_) λ_ s' hq=>wpAny_pure (wpAny_pure hq))
 refine qY (hi pins s σ H _ I h) λxv s1 h1=>qY h1 λitv s2 h2=>?_
 obtain⟨it,fp,tn,J,H2,e,I2,T,st2,f2,q2⟩:=h2
 subst e
 refine zY (RR:=λacc C=>compPost (model X.prog X.w) X.A X.xe (some (assign (.Name x px) X.env)) (λ_ s'=>SP X pins D .next s') acc C) (Q:=λD' H'=>QI i (.ref D') σ H' D.nx) hc S I2 T st2 f2 hb q2 ?_
 intro D' C H' s' m hC hn hm I' q
 show wpAny _ X.A (assign (.Name x px) X.env (.ref D')) _ _ _
 refine wpAny_assign_Name (Zg I' hN hxi hx (v:=.ref D') rfl (λs'' I'' hch=>?_) hf)
 obtain⟨a,sb,ha⟩:=hch
 have hCa:C≠a:=by
   rcases ha with z | z
   . rw[z];exact Nat.ne_of_gt (Nat.lt_of_lt_of_le I2.lt hC)
   . intro e
     obtain⟨v,qc⟩:=I2.cell x a z
     exact absurd (Nat.lt_of_lt_of_le qc.lt (by rw[<-e];exact hC)) (Nat.lt_irrefl _)
 refine⟨m,hm.sameBut sb hCa,λh' sb'=>?_⟩
 refine⟨_,H',?_,q⟩
 refine I''.turned (it:=C) (t':=s''.toks) (λb o hb e=>(sb'.2 b hb).trans e) hn (Nat.ne_of_gt (Nat.lt_of_lt_of_le I2.lt hC)) (.inr (Nat.le_trans I2.sz hC)) (λy c e z=>?_) λp hp z=>?_
 . obtain⟨v,qc⟩:=I2.cell y c e
   exact absurd (Nat.lt_of_lt_of_le qc.lt (by rw[z];exact hC)) (Nat.lt_irrefl _)
 . exact absurd (Nat.lt_of_lt_of_le (Heap.lt_size (I2.pin p hp).1) (by rw[z];exact hC)) (Nat.lt_irrefl _)
theorem J3 {i:Nat} {x:Str} {elt iter target:Expr} {ifs:List Expr} {pos spos px:Pos} {wi:TI} {g:TG} {tt:TT} {te:TE} (hN:X.N.Nodup) (hxi:X.N[i]?=some x) (hx:wu X.env.scope x) (hc:X.calm=true) (S:jL X N' ix scope) (hi:JI X target iter wi) (hb:∀C s₂ H₂ fp pins,JG (ZD X N' scope C s₂ H₂ fp pins) target g/\vN (ZD X N' scope C s₂ H₂ fp pins) ifs tt/\JE (ZD X N' scope C s₂ H₂ fp pins) elt te) (hsw:swapsWith (.ListComp elt [⟨target,iter,ifs,0⟩] scope pos) (some (.Name x px)) spos.line X.env=pure true:=by rfl) (hs:∀x,foldedSetIterable iter X.env x=pure x:=by intro _;rfl) (hf:X.fn x=true\/X.env.scope.names.lookup x=some .local:=by first | exact .inl rfl | exact .inr rfl | assumption):JS X (.Assign [.Name x px] (.ListComp elt [⟨target,iter,ifs,0⟩] scope pos) spos) (YM (Kc wi ix g tt te) (QI i)):=.of (UG hN hxi hx hc S hi.to (λC s₂ H₂ fp pins=>⟨(hb C s₂ H₂ fp pins).1.to,(hb C s₂ H₂ fp pins).2.1.to,(hb C s₂ H₂ fp pins).2.2.to⟩) hsw hs hf)
end
end L2
set_option Elab.async false
set_option linter.all false
set_option maxRecDepth 100000
set_option maxHeartbeats 4000000
namespace L2
open PySem PySem.Spec PyProof.Rows
def Gi (x:Str):It:=⟨λi _=>i < x.cps.size,λi H v H'=>H'=H/\∃c,x.cps[i]?=some c/\v=.str ⟨#[c]⟩,λi _=>i=x.cps.size⟩
theorem YL {P:Program} {w:World} {K:PySem.W.Frag} {tg:Expr} (it:Addr) (x:Str) (t:Tok) (ty:String)
   (hn:["enumerate","zip","dict_itemiterator","dict_reverseitemiterator","odict_iterator","itertools.zip_longest","itertools.pairwise"].contains ty=false)
   (hW:∀A:Around,A.handled=none->Walks P w A it [it] [it] x.cps.size (SignAt x) (λi h=>h.IsStrIter it ty x t i))
   (hself:∀(A:Around) (i:Nat) (s:Shared) (Q:Value->Shared->Prop) (E:Value->Shared->Prop),s.heap.IsStrIter it ty x t i->Q (.ref it) s->wpAny (model P w) A (pyIter (.ref it)) Q E s):
   Wd P w K tg (Gi x) [it] it (λi h=>h.IsStrIter it ty x t i) where
 mem:=by simp
 obj:=λi h st b hb=>by
   have e:b=it:=by simpa using hb
   subst e
   obtain⟨o,e,c,d⟩:=st
   exact⟨o,e,λv z=>by rw[d]at z;cases z⟩
 keep:=λi h h' st k=>let ⟨o,e,r⟩:=st;⟨o,k it (by simp) o e,r⟩
 item:=by
   intro X hP hw hK hc i pins s σ H E I hf st hg
   subst hP hw hK
   obtain⟨f0,f1,f2,f3,f4,f5⟩:=hf it (by simp)
   refine(hW X.A (I.ok.hd hc)).item i s _ _ hg st λv h' tk hv st' kk=>?_
   obtain⟨c,u,hcu,rfl⟩:=hv
   have I1:qu X pins σ H {s with heap:=h',toks:=tk}:=I.turned (λb o hb e=>kk b o (by simpa using hb) e) f0 f1 f3 f4 f5
   obtain⟨o,e,c1,d1⟩:=id st'
   exact⟨_,rfl,WU (s:={s with heap:=h',toks:=tk}) e c1 d1 hn ⟨.str ⟨#[c]⟩,H,I1,⟨u,rfl⟩,⟨rfl,c,hcu,rfl⟩,st',λb hb=>(hf b hb).1⟩⟩
 done:=by
   intro X hP hw hK hc i pins s σ H E I hf st hg
   subst hP hw hK
   obtain⟨f0,f1,f2,f3,f4,f5⟩:=hf it (by simp)
   have hi:i=x.cps.size:=hg
   subst hi
   exact(hW X.A (I.ok.hd hc)).done s _ _ st λh' tk kk=>⟨rfl,I.turned (λb o hb e=>kk b o (by simpa using hb) e) f0 f1 f3 f4 f5⟩
 self:=hself
def K6 (tl:TE):TI:=λσ H R=>tl σ H λx H1=>∃y,x=.str y/\R (Gi y) H1
theorem xR {X:Cx} {tg l:Expr} {tl:TE} (hl:JE X l tl):JI X tg l (K6 tl):=.of (by
 have hl:=hl.to
 intro pins s σ H R I h
 refine qY (hl pins s σ H _ I h) λv s1 ⟨x,H1,I1,r1,q1⟩=>?_
 obtain⟨y,e,q⟩:=q1
 subst e
 obtain⟨t,rfl⟩:=r1
 have fp:∀b∈[s1.heap.objs.size],JJ X pins H1 b:=λb hb=>by
   have e:b=s1.heap.objs.size:=by simpa using hb
   subst e
   exact I1.fpOk (Nat.le_refl _) (I1.hok.fresh (Nat.le_refl _))
 cases ha:y.cps.all (· < 128)
 . refine wpAny_pyIter_wide ha ?_
   exact⟨s1.heap.objs.size,[s1.heap.objs.size],_,_,H1,rfl,I1.kept (t':=s1.toks) λb o e=>Heap.get?_push_of_some _ e,
     YL _ y t "str_iterator" (by decide) (λA hA=>Walks.strWide hA _ y t) (λA i s Q E st q=>wpAny_pyIter_striter_wide st q),⟨_,Heap.get?_push_size _ rfl,rfl,rfl⟩,fp,q⟩
 . refine wpAny_pyIter_ascii ha ?_
   exact⟨s1.heap.objs.size,[s1.heap.objs.size],_,_,H1,rfl,I1.kept (t':=s1.toks) λb o e=>Heap.get?_push_of_some _ e,
     YL _ y t "str_ascii_iterator" (by decide) (λA hA=>Walks.strAscii hA _ y t) (λA i s Q E st q=>wpAny_pyIter_striter_ascii st q),⟨_,Heap.get?_push_size _ rfl,rfl,rfl⟩,fp,q⟩)
section
variable {K:PySem.W.Frag} {g:TG} {tt:TT} {te:TE} {D a:Addr} {σ:St} {H:Hp} {Q:Hp->Prop}
def Xk (tt:TT) (te:TE) (D:Addr) (N:St->Hp->Prop):St->Hp->Prop:=λσ2 H3=>tt σ2 H3 λb H4=>
 if b=true then te σ2 H4 λv H5=>∃ys,H5 D=some (.lst ys)/\ys.length < sizeLine/\N σ2 (upd H5 D (.lst (ys++[v]))) else N σ2 H4
theorem YA {J:It} {n:Nat} (Pv:Nat->St->Hp->Prop) (h0:Pv 0 σ (upd H D (.lst [])))
   (go:∀i σ' H',i < n->Pv i σ' H'->J.go i H'/\∀x H2,J.yld i H' x H2->g x σ' H2 (Xk tt te D (Pv (i+1)))) (stop:∀σ' H',Pv n σ' H'->J.stop n H'/\Q H'):XA J g tt te D σ H Q:=by
 refine⟨λi m σ' H'=>m=n - i/\i<=n/\Pv i σ' H',⟨n,by simp,Nat.zero_le _,h0⟩,?_⟩
 rintro i m σ' H' ⟨rfl,hi,p⟩
 by_cases hlt:i < n
 . obtain⟨h1,h2⟩:=go i σ' H' hlt p
   exact .inr ⟨h1,Pv (i+1),λσ2 H2 p2=>⟨n - (i+1),by omega,rfl,hlt,p2⟩,h2⟩
 . have e:i=n:=by omega
   subst e
   exact .inl (stop σ' H' p)
theorem Zu {lo:Int} {n:Nat} (Pv:Nat->St->Hp->Prop) (h0:Pv 0 σ (upd H D (.lst [])))
   (hs:∀i σ' H',i < n->Pv i σ' H'->g (.int (lo+i)) σ' H' (Xk tt te D (Pv (i+1)))) (hd:∀σ' H',Pv n σ' H'->Q H'):XA (we lo n) g tt te D σ H Q:=
 YA (n:=n) Pv h0 (λi σ' H' hi p=>⟨hi,λx H2 y=>by
   obtain⟨e,y⟩:=y
   subst e y
   exact hs i σ' H2 hi p⟩) λσ' H' p=>⟨Nat.le_refl _,hd σ' H' p⟩
theorem Qp {xs:List V} (Pv:Nat->St->Hp->Prop) (h0:Pv 0 σ (upd H D (.lst []))) (hl:∀i σ' H',i<=xs.length->Pv i σ' H'->SqL K H' a xs)
   (hs:∀i x σ' H',xs[i]?=some x->Pv i σ' H'->g x σ' H' (Xk tt te D (Pv (i+1)))) (hd:∀σ' H',Pv xs.length σ' H'->Q H'):XA (wx K a) g tt te D σ H Q:=
 YA (n:=xs.length) Pv h0 (λi σ' H' hi p=>⟨⟨xs,xs[i],hl i σ' H' (Nat.le_of_lt hi) p,by simp [hi]⟩,λx H2 y=>by
   obtain⟨e,y⟩:=y
   subst e
   exact hs i x σ' _ (y xs (hl i σ' _ (Nat.le_of_lt hi) p)) p⟩) λσ' H' p=>⟨⟨xs,hl _ σ' H' (Nat.le_refl _) p,Nat.le_refl _⟩,hd σ' H' p⟩
theorem yi {xs:List V} (Pv:Nat->St->Hp->Prop) (h0:Pv 0 σ (upd H D (.lst []))) (hl:∀i σ' H',i<=xs.length->Pv i σ' H'->SqT K H' a xs)
   (hs:∀i x σ' H',xs[i]?=some x->Pv i σ' H'->g x σ' H' (Xk tt te D (Pv (i+1)))) (hd:∀σ' H',Pv xs.length σ' H'->Q H'):XA (wv K a) g tt te D σ H Q:=
 YA (n:=xs.length) Pv h0 (λi σ' H' hi p=>⟨⟨xs,xs[i],hl i σ' H' (Nat.le_of_lt hi) p,by simp [hi]⟩,λx H2 y=>by
   obtain⟨e,y⟩:=y
   subst e
   exact hs i x σ' _ (y xs (hl i σ' _ (Nat.le_of_lt hi) p)) p⟩) λσ' H' p=>⟨⟨xs,hl _ σ' H' (Nat.le_refl _) p,Nat.le_refl _⟩,hd σ' H' p⟩
theorem yj {x:Str} (Pv:Nat->St->Hp->Prop) (h0:Pv 0 σ (upd H D (.lst [])))
   (hs:∀i c σ' H',x.cps[i]?=some c->Pv i σ' H'->g (.str ⟨#[c]⟩) σ' H' (Xk tt te D (Pv (i+1)))) (hd:∀σ' H',Pv x.cps.size σ' H'->Q H'):XA (Gi x) g tt te D σ H Q:=
 YA (n:=x.cps.size) Pv h0 (λi σ' H' hi p=>⟨hi,λv H2 y=>by
   obtain⟨e,c,hc,rfl⟩:=y
   subst e
   exact hs i c σ' _ hc p⟩) λσ' H' p=>⟨rfl,hd σ' H' p⟩
end
section
variable {X:Cx}
theorem zp:∀(bs:List Bool),(List.range bs.length).all (λi=>bs.getD i false)=bs.all id:=by
 intro bs
 induction bs with
 | nil=>rfl
 | cons b bs ih=>
   rw[List.length_cons,List.range_succ_eq_map,List.all_cons,List.all_map,List.all_cons]
   have:((λi=>(b::bs).getD i false) ∘ Nat.succ)=λi=>bs.getD i false:=by
     funext i
     simp [Function.comp]
   rw[this,ih]
   simp
theorem zX (hc:X.calm=true):jX X (.builtin "all") (λxs H Q=>∃(p:Addr) (bs:List Bool),xs=[.ref p]/\SqL X.K H p (bs.map V.bl)/\Q (.bl (bs.all id)) H):=by
 intro pins s σ H xs us Q I r h
 obtain⟨p,bs,rfl,hq,q⟩:=h
 obtain⟨u,rfl,rx⟩:=Qz r
 cases rx
 obtain⟨its,rv,pl,hz⟩:=I.list hq
 have hlt:p < s.heap.objs.size:=by
   obtain⟨o,n,e,_⟩:=pl
   exact Heap.lt_size e
 have hn:its.toArray.size=bs.length:=by
   have:=rv.length
   rw[List.length_map]at this
   simp only[List.size_toArray]
   omega
 have hh:X.A.in1.handled=none:=I.ok.hd hc
 refine call_all_walk (wpAny_pyIter_list pl.isList ?_)
 refine⟨s.heap.objs.size,[s.heap.objs.size,p],[s.heap.objs.size],its.toArray.size,λi v=>its.toArray[i]?=some v,_,λi=>bs.getD i false,rfl,Walks.list hh s.heap.objs.size p (Nat.ne_of_lt hlt) its.toArray,
   ⟨⟨_,Heap.get?_push_size _ rfl,rfl,rfl⟩,pl.isList.at λo e=>Heap.get?_push_of_some _ e⟩,?_,λh' tk hk=>?_⟩
 . intro i v s' Q' E' hP hQ
   have hi:its[i]?=some v:=by simpa using hP
   have hb:∃b,bs[i]?=some b/\v=Value.bool b:=by
     cases e:bs[i]? with
     | none=>
       exfalso
       have h1:(bs.map V.bl)[i]?=none:=by rw[List.getElem?_map,e];rfl
       rw[qD.none_of rv h1]at hi
       cases hi
     | some b=>
       have h1:(bs.map V.bl)[i]?=some (V.bl b):=by rw[List.getElem?_map,e];rfl
       obtain⟨u,hu,ru⟩:=rv.get h1
       rw[hi]at hu
       cases hu
       exact⟨b,rfl,ru⟩
   obtain⟨b,e,rfl⟩:=hb
   refine wpAny_truthy_bool ?_
   have e2:bs.getD i false=b:=by rw[List.getD_eq_getElem?_getD,e];rfl
   have hQ':Q' (bs.getD i false) s':=hQ
   rw[e2]at hQ'
   exact hQ'
 . rw[hn,zp]
   refine⟨.bl (bs.all id),H,?_,rfl,q⟩
   exact I.kept (h':=h') (t':=tk) λb o e=>hk b o (by
     intro z
     have z':b=s.heap.objs.size:=by simpa using z
     exact absurd (Heap.lt_size e) (by rw[z'];exact Nat.lt_irrefl _)) (Heap.get?_push_of_some _ e)
theorem XC {ys:List Str}:∀{us:List Value},qD (ys.map V.str) us->StrsAre us ys:=by
 induction ys with
 | nil=>
   intro us r
   rw[List.map_nil]at r
   cases r
   exact .nil
 | cons y ys ih=>
   intro us r
   rw[List.map_cons]at r
   cases r with
   | cons a b=>
     obtain⟨t,rfl⟩:=a
     exact .cons _ _ (ih b)
def w9 (K:PySem.W.Frag):V->List V->Hp->VK->Prop:=λx xs H Q=>∃(sep:Str) (p:Addr) (ys:List Str),x=.str sep/\xs=[.ref p]/\SqL K H p (ys.map V.str)/\(ys.map (·.length)).sum+ys.length*sep.length<=16777216/\Q (.str (Txt.join sep ys)) H
theorem kQ:Kj X "str.join" (w9 X.K):=by
 intro pins s σ H x xs v us Q I rx rv h
 obtain⟨sep,p,ys,rfl,rfl,hq,hz,q⟩:=h
 obtain⟨t,rfl⟩:=rx
 obtain⟨u,rfl,ru⟩:=Qz rv
 cases ru
 obtain⟨its,r',pl,_⟩:=I.list hq
 exact join_list pl.isList (by simpa using XC r') hz λt' k=>⟨.str _,H,I.tok k,⟨t',rfl⟩,q⟩
def yh:V->Value
 | .ty n=>.type n
 | .ref a=>.ref a
 | _=>.none
def yP:V->Bool
 | .ty _=>true
 | .ref _=>true
 | _=>false
def ua (K:PySem.W.Frag):List V->Hp->VK->Prop:=λxs H Q=>∃x c t b,xs=[x,c]/\yP c=true/\TyOf K H x t/\PySem.W.kitOne K t (yh c)=some b/\Q (.bl b) H
theorem ja:jX X (.builtin "isinstance") (ua X.K):=by
 intro pins s σ H xs us Q I r h
 obtain⟨x,c,t,b,rfl,hc,ty,e,q⟩:=h
 obtain⟨u,w',rfl,ru,rw'⟩:=YI r
 have ew:w'=yh c:=by
   cases c with
   | ty n=>exact rw'
   | ref a=>exact rw'
   | _=>cases hc
 subst ew
 exact VN I ru ty e λtk=>⟨.bl b,H,I.tok tk,rfl,q⟩
end
end L2
namespace L2
open PySem PySem.Spec PyProof.Rows
end L2
set_option Elab.async false
set_option linter.all false
set_option maxRecDepth 100000
set_option maxHeartbeats 4000000
namespace L2
open PySem PySem.Spec PyProof.Rows
abbrev wz (rest:List Value):Obj:={cls:=.type "tuple",data:=.seq rest.toArray}
abbrev xY (C t:Addr):Obj:={cls:=.ref C,data:=.fields #[.ref t,.none,.none,.none,.bool false,.none]}
section
variable {prog:Program} {w:World} {A:Around} {E:Value->Shared->Prop} {h:Heap} {g:Array GenState} {d:Drawn} {t:Nat} {os:OsState}
variable {nm q:Str} {C N fI:Addr} {bs bm bmB bmN:List Value} {hdct:Bool} {sn:List Str} {sub:List Value} {ab:Bool} {col:Option Bool} {dd:Option Addr} {k0 k1 k2 k3 k5:Option Value} {B Bn newId nid initId inN:String} {rest:List Value} {oI:Obj}
theorem Xy {Q:Fin->Shared->Prop} (Fn:ExcBaseFacts Bn newId inN bmN) (hBn:bmB.contains (.type Bn)=true)
   (F:ExcBaseFacts B nid initId bmB) (T:OwnTail h bmB bm)
   (hC:h.get? C=some (excClassObj nm q C N bs bm hdct sn sub ab col dd k0 k1 k2 k3 k5 newId))
   (hi:PySem.W.Looks (model prog w) h (typeLookup (.ref C) "__init__") (some (.ref fI))) (hfI:h.get? fI=some oI) (hfc:oI.cls=.type "function")
   (hq:∀h' e,h.objs.size<=e->Heap.MadeExcOf h h' e (.ref C) rest->
     wpAny (model prog w) A (call (.ref fI) (.ref e::rest)) (λr s'=>r=.none/\Q (.done (.ret (.ref e))) s') E ⟨h',g,d,t,os⟩)
   (hz:rest.length<=sizeLine):
   wpAny (model prog w) A (Builtin.«type.__call__» ⟨.ref C::rest,[]⟩) Q E ⟨h,g,d,t,os⟩:=by
 repeat (first
   | with_reducible refine wpAny_loadPart_at hC ?_
   | with_reducible refine wpAny_madeBy_exc hC ?_
   | wp_step)
 refine codeAny_call_builtin_code (Code.quiet_builtin _ Fn.quiet) (wpAny_check_new_subU Fn hBn T hC
   (codeAny_exc_new_subU Fn hBn F T hC ?_ hz))
 show wpAny _ _ _ _ _ _
 have k:∀b o,h.get? b=some o->((h.push (wz rest)).push (xY C h.objs.size)).get? b=some o:=λb o e=>
   Heap.get?_push_of_some _ (Heap.get?_push_of_some _ e)
 have c1:=k _ _ hC
 have f1:=k _ _ hfI
 have i1:=hi.keeps k
 have e1:((h.push (wz rest)).push (xY C h.objs.size)).get? (h.objs.size+1)=some (xY C h.objs.size):=by heap_get
 have hcC:(Value.ref C::bm).contains (.ref C)=true:=by simp
 unfold isInstance
 repeat (first
   | with_reducible refine wpAny_loadPart_at e1 ?_
   | (with_reducible refine wpAny_isSubtype_exc c1 ?_;rw[hcC])
   | wp_step)
 show wpAny _ _ (typeLookup (.ref C) _) _ _ _
 refine i1.at ?_
 refine wpAny_holding (wpAny_bind ?_)
 unfold bindSpecial
 refine wpAny_bind (wpAny_typeOf (T:="function") ⟨_,f1,hfc⟩ ?_)
 rw[if_pos (by decide)]
 refine wpAny_pure (wpAny_bind (qY (hq _ (h.objs.size+1) (Nat.le_succ _) ⟨k,Heap.get?_none_of_le (Nat.le_succ _),h.objs.size,e1,Heap.get?_none_of_le (Nat.le_refl _),?_⟩) λr s' hr=>?_))
 . exact Heap.get?_push_of_some _ (Heap.get?_push_at rfl rfl)
 . obtain⟨rfl,hQ⟩:=hr
   wp_walk
   exact hQ
theorem V3 {Q:Value->Shared->Prop} (Fn:ExcBaseFacts Bn newId inN bmN) (hBn:bmB.contains (.type Bn)=true)
   (F:ExcBaseFacts B nid initId bmB) (T:OwnTail h bmB bm)
   (hC:h.get? C=some (excClassObj nm q C N bs bm hdct sn sub ab col dd k0 k1 k2 k3 k5 newId))
   (hi:PySem.W.Looks (model prog w) h (typeLookup (.ref C) "__init__") (some (.ref fI))) (hfI:h.get? fI=some oI) (hfc:oI.cls=.type "function")
   (hq:∀h' e,h.objs.size<=e->Heap.MadeExcOf h h' e (.ref C) rest->
     wpAny (model prog w) (A.under (.builtin "type.__call__" ⟨.ref C::rest,[]⟩)) (call (.ref fI) (.ref e::rest)) (λr s'=>r=.none/\Q (.ref e) s') E ⟨h',g,d,t,os⟩)
   (hz:rest.length<=sizeLine):
   wpAny (model prog w) A (call (.ref C) rest) Q E ⟨h,g,d,t,os⟩:=by
 have a1:=tc_lookup
 have a2:=tc_bind (.ref C)
 have a3:(⟨h,g,d,t,os⟩:Shared).TypeIs (.ref C) "type":=⟨_,hC,rfl⟩
 refine wpAny_call (codeAny_of_tree ?_)
 show wpAny _ _ (callAny (.ref C) _) _ _ _
 repeat (any_goals (first
   | assumption
   | with_reducible refine wpAny_loadPart_at hC ?_
   | wp_step))
 refine⟨rfl,codeAny_call_builtin_at (Code.quiet_builtin _ (by decide+kernel)) entry_typeCall
   (wpAny_check_type_call_sub hC (Xy Fn hBn F T hC hi hfI hfc (λh' e he hm=>?_) hz))⟩
 exact hq h' e he hm
end
end L2
namespace L2
open PySem PySem.W PyProof.Rows Builtin Builtin.ObjectAttr
structure Zv (K:Frag) (C:Addr) (bm:List Value):Prop where
 ga:findIn K (.ref C) "__getattribute__"=some (some (.builtin "BaseException.__getattribute__"))
 gt:findIn K (.ref C) "__getattr__"=some none
 sa:findIn K (.ref C) "__setattr__"=some (some (.builtin "object.__setattr__"))
 hd:hasDictIn K C=true
 mr:∃cd,clsIn K C=some cd/\cd.mro=.ref C::bm
 mb:mroIn K C (.type "BaseException")=some true
 mo:mroIn K C (.type "object")=some true
 cl:findIn K (.ref C) "__class__"=some (some (.builtin "object.__class__"))
def XQ:List Value->Prop
 | .ref _::r=>XQ r
 | l=>l=[.type "ValueError",.type "Exception",.type "BaseException",.type "object"]
theorem WE (self:Value):∀{l:List Value},XQ l->refuseLoop self "__setattr__" l=pure ()
 | .ref c::r,e=>by rw[refuseLoop_ref];exact WE self (l:=r) e
 | [],e=>nomatch (show ([]:List Value)=[.type "ValueError",.type "Exception",.type "BaseException",.type "object"] from e)
 | .type n::r,e=>by
   have e':(Value.type n::r)=[.type "ValueError",.type "Exception",.type "BaseException",.type "object"]:=e
   rw[e'];kernel_rfl
 | .none::r,e=>by have e':(Value.none::r)=[.type "ValueError",.type "Exception",.type "BaseException",.type "object"]:=e;cases e'
 | .bool _::r,e=>by have e':_=[Value.type "ValueError",.type "Exception",.type "BaseException",.type "object"]:=e;cases e'
 | .int _ _::r,e=>by have e':_=[Value.type "ValueError",.type "Exception",.type "BaseException",.type "object"]:=e;cases e'
 | .float _ _::r,e=>by have e':_=[Value.type "ValueError",.type "Exception",.type "BaseException",.type "object"]:=e;cases e'
 | .str _ _::r,e=>by have e':_=[Value.type "ValueError",.type "Exception",.type "BaseException",.type "object"]:=e;cases e'
 | .bytes _ _::r,e=>by have e':_=[Value.type "ValueError",.type "Exception",.type "BaseException",.type "object"]:=e;cases e'
 | .builtin _::r,e=>by have e':_=[Value.type "ValueError",.type "Exception",.type "BaseException",.type "object"]:=e;cases e'
section
variable {prog:Program} {w:World} {A:Around} {E:Value->Shared->Prop} {s:Shared} {K:Frag} {x C:Addr} {ox:Obj} {od:Option Obj} {bm:List Value} {name:Str} {v:Value}
theorem kC {tk:Tok} {R:Result->Shared->Prop} (X:K.In s.heap) (I:InstAt s.heap x ox C od) (c:Zv K C bm) (hb:XQ bm) (ht:findIn K (.ref C) name=some none)
   (h:∀b,wpAny (model prog w) A.in1 (storeInOwnDict (.ref x) (.ref C) (.str name tk) name v b)
     (λfin s'=>match fin with | .done f=>R (.ok f) s' | .again c'=>c'.quiet=true/\codeAny (model prog w) A c' R s') (λe s'=>R (.error e) s') s):
   codeAny (model prog w) A (.call (.builtin "object.__setattr__") ⟨[.ref x,.str name tk,v],[]⟩) R s:=by
 have SF:=PySem.F.store_object
 obtain⟨cd,hc,hm⟩:=c.mr
 have sub:Looks (model prog w) s.heap (isInstance (.ref x) (.type "object")) true:=I.type.andThen (looks_mroIn X c.mo)
 refine codeAny_call_builtin SF.slot.plain SF.entry
   (@check_slot (model prog w) _ _ s "object.__setattr__" "object" "__setattr__" (.ref x) [.str name tk,v] [] _ SF.kind SF.split sub (SF.args (.ref x) (.str name tk) v) ?_)
 have lm:Looks (model prog w) s.heap (mroOf (.ref C)) cd.mro:=(looks_clsIn X hc).andThen .now
 rw[osa_eq,refuse_eq]
 refine wpAny_bind (wpAny_bind (I.type.here (wpAny_bind (lm.here ?_))))
 rw[hm,refuseLoop_ref,WE _ hb]
 refine wpAny_pure (wpAny_bind (I.type.here (wpAny_bind ((looks_findIn X ht).here ?_))))
 exact wpAny_bind (wpAny_pure (h _))
theorem Uq {Q:Unit->Shared->Prop} (X:K.In s.heap) (hx:s.heap.get? x=some ox) (hc:ox.cls=.ref C) (hdc:ox.dict=none) (hda:∃fl,ox.data=.fields fl) (c:Zv K C bm) (hb:XQ bm) (ht:findIn K (.ref C) name=some none)
   (h:∀h' tk,h'.get? x=some {ox with dict:=some s.heap.objs.size}->h'.Ns1 s.heap.objs.size (λy=>if y=name then some v else none)->
     (∀b o,b≠x->s.heap.get? b=some o->h'.get? b=some o)->Q () {s with heap:=h',toks:=tk}):
   wpAny (model prog w) A (setAttr (.ref x) name v) Q E s:=by
 obtain⟨fl,hfl⟩:=hda
 obtain⟨oc,odi,oda,osl⟩:=ox
 dsimp only at hc hdc hfl
 subst hc hdc hfl
 have I:InstAt s.heap x ⟨.ref C,none,.fields fl,osl⟩ C none:=⟨hx,rfl,rfl,trivial⟩
 refine set_plain X I c.sa (kC (s:={s with toks:=s.toks+1}) X I c hb ht λb=>?_)
 obtain⟨cd,hcd,hdd⟩:=any_some c.hd
 refine wpAny_bind (wpAny_pure (wpAny_bind (wpAny_bind (wpAny_loadPart hx (wpAny_bind (Looks.here (s:={s with toks:=s.toks+1}) (looks_clsIn X hcd) ?_))))))
 rw[hdd]
 have hne:x≠s.heap.objs.size:=Nat.ne_of_lt (Heap.lt_size hx)
 have h1:=Heap.get?_push_of_some PySem.W.emptyDict hx
 refine wpAny_bind (wpAny_alloc (wpAny_bind (wpAny_update h1 ?_)))
 generalize hh2:(s.heap.push emptyDict).update x (λo=>{o with dict:=some s.heap.objs.size})=h2
 have e2:h2.get? x=some ⟨.ref C,some s.heap.objs.size,.fields fl,osl⟩:=by rw[<-hh2];exact Heap.get?_update_self _ h1 rfl
 have k2:∀b o,b≠x->(s.heap.push emptyDict).get? b=some o->h2.get? b=some o:=λb o hb e=>by rw[<-hh2,Heap.get?_update_other _ _ (Ne.symm hb)];exact e
 have n0:(s.heap.push emptyDict).Ns s.heap.objs.size (λ_=>none):=⟨emptyDict,#[],_,Heap.get?_push_size s.heap rfl,rfl,(λe he=>absurd he (by simp)),λ_=>rfl⟩
 have n2:h2.Ns1 s.heap.objs.size (λ_=>none):=(Heap.Ns1.of_empty n0).at λo q=>k2 _ o (Ne.symm hne) q
 refine wpAny_pure (a:=some s.heap.objs.size) (wpAny_bind (wpAny_pure (wpAny_bind ?_)))
 refine wpAny_nsSet1 (s:={s with heap:=h2,toks:=s.toks+1}) n2 λh' hn2 hs2=>?_
 obtain⟨oD,esD,epD,hoD,hdD,hcD⟩:=hn2.count (PySem.Within.cons name v PySem.Within.nil)
 refine wpAny_bind (wpAny_lookBehind hoD (by rw[hdD];exact pastItsLine_dict (Nat.le_trans hcD (by show 1<=sizeLine+1;decide))) ?_)
 refine wpAny_pure (h h' (s.toks+1+1) ((hs2.2 x hne).trans e2) hn2 λb o hb e=>?_)
 exact(hs2.2 b (Nat.ne_of_lt (Heap.lt_size e))).trans (k2 b o hb (Heap.get?_push_of_some _ e))
theorem WV {fill expr:Bool} {tk:Tok} {Q:Value->Shared->Prop} (X:K.In s.heap) (I:InstAt s.heap x ox C od) (c:Zv K C bm)
   (h:wpAny (model prog w) A.in1 (Builtin.«object.__getattribute__» ⟨[.ref x,.str name tk],[]⟩) (λfin s'=>match fin with | .done (.ret u)=>handedIn u=true/\Q u s' | _=>False) (λ_ _=>False) s):
   wpAny (model prog w) A (getAttrBy (.ref x) (.str name tk) fill expr) Q E s:=by
 have ga:=PySem.F.attr_ValueError.ga
 have L1:=looks_findIn (M:=model prog w) X c.ga
 have L2:=looks_findIn (M:=model prog w) X c.gt
 have hk:builtinKind "BaseException.__getattribute__"=some .slot:=by decide+kernel
 have hs:splitId "BaseException.__getattribute__"=some ("BaseException","__getattribute__"):=by decide+kernel
 have sub:Looks (model prog w) s.heap (isInstance (.ref x) (.type "BaseException")) true:=I.type.andThen (looks_mroIn X c.mb)
 unfold getAttrBy
 refine wpAny_holding (wpAny_bind (I.type.here (wpAny_bind (L1.here ?_))))
 dsimp only
 have eb:(Value.builtin "BaseException.__getattribute__"==Value.builtin "object.__getattribute__")=false:=by decide+kernel
 rw[if_neg (by rw[eb,Bool.and_false];decide)]
 unfold getAttrByItsOwn
 refine wpAny_bind (show wpAny _ _ (hookBefore (.ref C)) _ _ _ from L2.here ?_)
 refine wpAny_bind (wpAny_attempt (wpAny_holding ?_))
 unfold callGetattribute
 have e0:(expr&&onTheHeap (Value.builtin "BaseException.__getattribute__"))=false:=by cases expr<;>rfl
 rw[if_neg (by rw[e0];decide)]
 unfold boundAndCalled
 rw[ga.bind]
 refine wpAny_bind (wpAny_pure ?_)
 refine wpAny_call (codeAny_call_builtin ga.plain PySem.F.entry_bexc_ga
   (@check_slot (model prog w) _ _ s "BaseException.__getattribute__" "BaseException" "__getattribute__" (.ref x) [.str name tk] [] _ hk hs sub (PySem.F.args_bexc_ga _ _) ?_))
 refine wpAny_mono h (λfin s' z=>?_) λ_ _ z=>z.elim
 cases fin with
 | again c'=>exact z.elim
 | done f=>
   cases f with
   | next=>exact z.elim
   | brk=>exact z.elim
   | cont=>exact z.elim
   | ret u=>
     obtain⟨hh,q⟩:=z
     show wpAny _ _ (handedOut u) _ _ _
     rw[handedOut_of hh]
     exact wpAny_pure q
theorem ya {expr:Bool} {Q:Value->Shared->Prop} {odd:Obj} (X:K.In s.heap) (I:InstAt s.heap x ox C (some odd)) (c:Zv K C bm) (ha:findIn K (.ref C) name=some none) (hl:lookIn name odd=some (some v)) (hv:handedIn v=true)
   (h:Q v {s with toks:=s.toks+1}):wpAny (model prog w) A (getAttr (.ref x) name expr) Q E s:=by
 have hf:findObj K C (some odd) name=some (.value v):=findObj_own c.hd ha rfl hl
 have LF:=looks_find (M:=model prog w) X I hf
 unfold getAttr
 refine wpAny_bind (wpAny_mkText (WV (s:={s with toks:=s.toks+1}) X I c ?_))
 unfold Builtin.«object.__getattribute__»
 refine wpAny_bind (wpAny_pure (wpAny_bind (wpAny_pure (wpAny_bind (Looks.here (s:={s with toks:=s.toks+1}) I.type (wpAny_bind (Looks.here (s:={s with toks:=s.toks+1}) LF ?_)))))))
 exact wpAny_pure ⟨hv,h⟩
end
end L2
namespace L2
open PySem PySem.W PyProof.Rows Builtin Builtin.ObjectAttr
section
variable {K:Frag} {x C:Addr} {ox odd:Obj} {bm:List Value}
theorem Y7 (c:Zv K C bm) (hn:specialIn K (.builtin "object.__class__") "__get__"=some (some (.builtin "getset_descriptor.__get__"))) (htk:takesIn K (.builtin "object.__class__")=some true):
   KitX K (.ref x) (.ref C) (λh=>InstAt h x ox C (some odd)) where
 ty:=λ_ _ _ I=>I.type
 it:=λ_ _ X _=>by
   obtain⟨cd,hcd,_⟩:=any_some c.hd
   unfold clsIn at hcd
   split at hcd
   . rename_i _ _ _ _ ho
     intro A' Q' E' s' k q
     unfold isType loadHead
     exact wpAny_bind (wpAny_loadPart (k _ _ (X _ _ ho)) (wpAny_pure q))
   . cases hcd
 ne:=λh tp dd its n sl X htp=>by
   obtain⟨cd,hcd,_⟩:=any_some c.hd
   refine Bool.eq_false_iff.mpr λq=>?_
   have e:C=tp:=Value.ref.inj (beq_iff_eq.mp q)
   subst e
   unfold clsIn at hcd
   split at hcd
   . rename_i _ _ _ _ ho
     have z:=(X _ _ ho).symm.trans htp
     cases z
   . cases hcd
 ca:=λ{prog w A E Q s} X I k=>by
   have hf:findObj K C (some odd) "__class__"=some (.bind (.builtin "getset_descriptor.__get__") (.builtin "object.__class__")):=
     findObj_data (by obtain⟨cd,hc,_⟩:=any_some c.hd;rw[hc];rfl) c.cl hn htk
   have LF:=looks_find (M:=model prog w) X I hf
   unfold getAttr? getAttrBy?
   refine wpAny_bind (wpAny_mkText (wpAny_bind (wpAny_attempt (WV (s:={s with toks:=s.toks+1}) X I c ?_))))
   unfold Builtin.«object.__getattribute__»
   refine wpAny_bind (wpAny_pure (wpAny_bind (wpAny_pure (wpAny_bind (Looks.here (s:={s with toks:=s.toks+1}) I.type (wpAny_bind (Looks.here (s:={s with toks:=s.toks+1}) LF ?_)))))))
   dsimp only
   unfold bindTo
   dsimp only
   refine wpAny_bind (wpAny_holding (wpAny_call (class_get (s:={s with toks:=s.toks+1}) X I c.mo ?_)))
   exact wpAny_pure ⟨rfl,wpAny_pure k⟩
end
end L2
set_option Elab.async false
set_option linter.all false
set_option maxRecDepth 100000
set_option maxHeartbeats 4000000
namespace L2
open PySem PySem.Spec PyProof.Rows
def Zt (e C:Addr):HO:=.ext λh=>∃fl,h.get? e=some {cls:=.ref C,data:=.fields fl}/\fl[1]?=some Value.none
def jr (e C dx:Addr) (hd:Value):HO:=.ext λh=>∃fl,h.get? e=some {cls:=.ref C,dict:=some dx,data:=.fields fl}/\fl[1]?=some hd
abbrev Qu (e C dx:Addr):HO:=jr e C dx .none
def qV:List Value:=[.type "ValueError",.type "Exception",.type "BaseException",.type "object"]
structure uW (K:PySem.W.Frag) (C f:Addr) (bm:List Value):Prop where
 obj:∃nm q N bs hdct sn sub ab col dd k0 k1 k2 k3 k5,K.lookup C=some (excClassObj nm q C N bs bm hdct sn sub ab col dd k0 k1 k2 k3 k5 "ValueError.__new__")
 tail:∀h:Heap,K.In h->OwnTail h qV bm
 init:PySem.W.findIn K (.ref C) "__init__"=some (some (.ref f))
 fn:PySem.W.isFn K (.ref f)=true
 kp:PySem.W.keepIn K (.ref C)=true
section
variable {P:Program} {w:World} {H:Hp} {h h':Heap} {e C dx:Addr}
theorem ye (he:∃fl,h.get? e=some {cls:=.ref C,data:=.fields fl}/\fl[1]?=some Value.none):qx P w H h e (Zt e C):=by
 obtain⟨fl,q,z⟩:=he
 exact⟨⟨fl,q,z⟩,⟨_,q⟩,λh1 h2 ⟨fl',q',z'⟩ k=>⟨fl',k _ q',z'⟩⟩
theorem QS {hd:Value} (he:∃fl,h.get? e=some {cls:=.ref C,dict:=some dx,data:=.fields fl}/\fl[1]?=some hd):qx P w H h e (jr e C dx hd):=by
 obtain⟨fl,q,z⟩:=he
 exact⟨⟨fl,q,z⟩,⟨_,q⟩,λh1 h2 ⟨fl',q',z'⟩ k=>⟨fl',k _ q',z'⟩⟩
end
section
variable {X:Cx} {pins:List (Addr×Obj)} {σ:St} {H:Hp} {s:Shared} {e C dx:Addr} {f:Str} {bm:List Value} {y v:V} {u:Value} {A:Around} {E:Value->Shared->Prop}
theorem qu.excSet {h':Heap} {t':Nat} {fs:List (Str×V)} (I:qu X pins σ H s) (hH:H e=some (Zt e C)) (hd:s.heap.objs.size<=dx)
   (h1:∃fl,h'.get? e=some {cls:=.ref C,dict:=some dx,data:=.fields fl}/\fl[1]?=some Value.none) (h2:∃mA,h'.Ns1 dx mA/\∀f,Q4 (fs.lookup f) (mA f))
   (k:∀b o,b≠e->s.heap.get? b=some o->h'.get? b=some o):qu X pins σ (upd (upd H e (Qu e C dx)) dx (.xd fs)) {s with heap:=h',toks:=t'}:=by
 have mu:wp (H e):=by rw[hH];exact trivial
 have heo:∃u,h'.get? e=some u:=let ⟨_,q,_⟩:=h1;⟨_,q⟩
 have hn:H dx=none:=I.hok.fresh hd
 have ne:dx≠e:=λz=>by rw[z,hH]at hn;cases hn
 have U:Un X.fs [] H (upd H e (Qu e C dx)) s.heap h':=Un.write mu (.inl rfl) k heo
 have W:QZ X.prog X.w (upd H e (Qu e C dx)) h':=I.hok.write mu (.inl rfl) k heo (QS h1)
 have hn2:(upd H e (Qu e C dx)) dx=none:=by rw[qf ne];exact hn
 have nb:∀b o,s.heap.get? b=some o->b≠dx:=λb o q=>Nat.ne_of_lt (Nat.lt_of_lt_of_le (Heap.lt_size q) hd)
 refine I.un ⟨U.keep,U.slot,λb o q n hx=>?_,U.there,λb xs q=>?_,λb o z q=>?_,λb ps q=>?_⟩ λb o q=>?_
 . rw[qf (nb b o q)];exact U.free b o q n hx
 . have:=U.tups b xs q
   rw[qf (ql this hn2)];exact this
 . have:=U.frzs b o z q
   rw[qf (ql this hn2)];exact this
 . obtain⟨m,q'⟩:=U.tbls b ps q
   exact⟨m,by rw[qf (ql q' hn2)];exact q'⟩
 . by_cases hb:b=dx
   . subst hb
     rw[qd]at q
     cases q
     exact h2
   . rw[qf hb]at q
     exact(W b o q).stay (λ_ _ _ z=>z) (λc z=>by rw[qf (ql z hn2)];exact z) (λc xs z=>by rw[qf (ql z hn2)];exact z) (λc o z=>by rw[qf (ql z hn2)];exact z)
theorem Vf {Q:Unit->Shared->Prop} (I:qu X pins σ H s) (hH:H e=some (Zt e C)) (c:Zv X.K C bm) (hb:XQ bm) (n:j1 X.K C f) (ry:qG y u)
   (h:∀dx s',H dx=none->qu X pins σ (upd (upd H e (Qu e C dx)) dx (.xd [(f,y)])) s'->Q () s'):wpAny (model X.prog X.w) A (setAttr (.ref e) f u) Q E s:=by
 obtain⟨⟨fl,he,hz⟩,_,_⟩:=(show qx X.prog X.w H s.heap e (Zt e C) from I.hok e _ hH)
 refine Uq I.kIn he rfl rfl ⟨fl,rfl⟩ c hb n λh' tk e1 e2 e3=>?_
 refine h s.heap.objs.size _ (I.hok.fresh (Nat.le_refl _)) (I.excSet hH (Nat.le_refl _) ⟨fl,e1,hz⟩ ⟨_,e2,λg=>?_⟩ e3)
 by_cases hg:g=f
 . subst hg
   rw[List.lookup_cons]
   simp only[beq_self_eq_true,if_true]
   exact ry
 . have hb':(g==f)=false:=beq_eq_false_iff_ne.mpr hg
   rw[List.lookup_cons]
   simp only[hb',hg,if_false]
   exact trivial
theorem VW {b:Bool} {Q:Value->Shared->Prop} {fs:List (Str×V)} {hd:Value} (I:qu X pins σ H s) (hH:H e=some (jr e C dx hd)) (hx:H dx=some (.xd fs)) (c:Zv X.K C bm) (n:j1 X.K C f) (l:fs.lookup f=some v)
   (h:∀u s',qu X pins σ H s'->qG v u->Q u s'):wpAny (model X.prog X.w) A (getAttr (.ref e) f b) Q E s:=by
 obtain⟨⟨fl,he,_⟩,_,_⟩:=(show qx X.prog X.w H s.heap e (jr e C dx hd) from I.hok e _ hH)
 obtain⟨mA,hn,hr⟩:=(show qx X.prog X.w H s.heap dx (.xd fs) from I.hok dx _ hx)
 obtain⟨od,ho,hl⟩:=Jm hn
 have r:=hr f
 rw[l]at r
 obtain⟨u,eu,ru⟩:=Q4.some_of r
 exact ya I.kIn ⟨he,rfl,rfl,ho⟩ c n (by rw[hl,eu]) (zQ ru) (h u _ (I.tok _) ru)
theorem vj {cV:Value} {b:Bool} {Q:Value->Shared->Prop} {fs:List (Str×V)} {hd:Value} (I:qu X pins σ H s) (hH:H e=some (jr e C dx hd)) (hx:H dx=some (.xd fs)) (c:Zv X.K C bm)
   (hn:PySem.W.specialIn X.K (.builtin "object.__class__") "__get__"=some (some (.builtin "getset_descriptor.__get__"))) (htk:PySem.W.takesIn X.K (.builtin "object.__class__")=some true)
   (ek:PySem.W.kitOne X.K (.ref C) cV=some b) (h:∀tk,Q (.bool b) {s with toks:=tk}):wpAny (model X.prog X.w) A (call (.builtin "isinstance") [.ref e,cV]) Q E s:=by
 obtain⟨⟨fl,he,_⟩,_,_⟩:=(show qx X.prog X.w H s.heap e (jr e C dx hd) from I.hok e _ hH)
 obtain⟨mA,hns,hr⟩:=(show qx X.prog X.w H s.heap dx (.xd fs) from I.hok dx _ hx)
 obtain⟨od,ho,hl⟩:=Jm hns
 exact PySem.W.kia_one (Y7 (ox:={cls:=.ref C,dict:=some dx,data:=.fields fl}) (odd:=od) c hn htk) I.kIn ⟨he,rfl,rfl,ho⟩ ek (λz=>nomatch z) h
end
end L2
namespace L2
open PySem PySem.Spec PyProof.Rows
def KD (K:PySem.W.Frag) (bm:List Value) (ta tv:TE) (f:Str):TS:=λD σ H=>tv σ H λy H1=>ta σ H1 λx H2=>∃a C,x=.ref a/\H2 a=some (Zt a C)/\Zv K C bm/\XQ bm/\j1 K C f/\
 ∀dx,H2 dx=none->D.nx σ (upd (upd H2 a (Qu a C dx)) dx (.xd [(f,y)]))
section
variable {X:Cx} {CX:Zd} {k:Nat} {C fI:Addr} {fd:FuncData} {ps:List Str} {sp:Sp} {E:XK} {x f:Str} {o e value:Expr} {es:List Expr} {p pos pos':Pos} {ta tv:TE} {t:TA} {bm:List Value}
theorem Yp (ha:JE X o ta) (hv:JE X value tv) (hs:swapsWith value (some (.Attribute o f pos')) pos.line X.env=pure false):JS X (.Assign [.Attribute o f pos'] value pos) (KD X.K bm ta tv f):=.of (by
 have ha:=ha.to
 have hv:=hv.to
 intro pins s σ H D I h
 refine plainObj_wpAny_Assign_Attribute (qY (hv pins s σ H _ I h) λu s1 ⟨y,H1,I1,ry,q⟩=>
   qY (ha pins s1 σ H1 _ I1 q) λov s2 ⟨x,H2,I2,rx,a,C,ex,ea,c,hb,n,q2⟩=>?_) hs
 subst ex
 obtain rfl:ov=Value.ref a:=rx
 exact Vf I2 ea c hb n ry λdx s3 hdx I3=>⟨σ,_,I3,q2 dx hdx⟩)
theorem Vk {pins:List (Addr×Obj)} {σ:St} {H:Hp} {s:Shared} {Q:VK} {us:List Value} {vs:List V} (M:uW X.K C fI bm) (F:qo X.prog X.w X.K X.mg X.base CX k fI fd ps sp) (hr:qS (k+1) X.A) (hb:jx X.K fd ps [])
   (hx:jm CX X E) (I:qu X pins σ H s) (r:qD vs us) (hz:us.length<=sizeLine)
   (h:∀x,H x=none->sp (.ref x::vs) (upd H x (Zt x C)) (λv H2=>v=.non/\Q (.ref x) H2) E):
   wpAny (model X.prog X.w) X.A (call (.ref C) us) (EP X pins σ Q) X.xe s:=by
 obtain⟨nm,q,N,bs,hdct,sn,sub,ab,col,dd,k0,k1,k2,k3,k5,hC⟩:=M.obj
 have hfn:PySem.W.typeIn X.K (.ref fI)=some (.type "function"):=beq_iff_eq.mp M.fn
 obtain⟨oI,ho,hoc⟩:=Option.map_eq_some_iff.mp hfn
 have KX:=I.kIn
 obtain⟨hp,g,d,tk,os⟩:=s
 refine V3 PySem.F.excBase_ValueError (by decide+kernel) PySem.F.excBase_ValueError (M.tail _ KX) (KX _ _ hC) (PySem.W.looks_findIn KX M.init) (KX _ _ ho) hoc (λh' ex hle hm=>?_) hz
 obtain⟨t0,ht,_,_⟩:=hm.there
 have I2:qu X pins σ (upd H ex (Zt ex C)) ⟨h',g,d,tk,os⟩:=I.laid (t':=tk) hm.keeps hle (ye ⟨_,ht,rfl⟩)
 have hq:=h ex (I.hok.fresh hle)
 have r2:qD (V.ref ex::vs) (Value.ref ex::us):=.cons rfl r
 have hl:(Value.ref ex::us++[]).length=ps.length:=by
   have e:=r2.length
   rw[F.len _ _ _ _ hq]at e
   rw[List.append_nil]
   exact e.symm
 have bb:=hb ⟨h',g,d,tk,os⟩ (Value.ref ex::us) I2.kIn hl
 rw[List.append_nil]at bb
 refine wpAny_call (codeAny_mono (F.run _ X.stack _ _ ⟨Value.ref ex::us,[]⟩ (Value.ref ex::us) _ _ E (hr.make C us []) (I2.env0.make C us []) bb r2 hq) λr s' hq'=>?_)
 cases r with
 | error z=>exact hx pins σ _ _ z s' I2 hq'
 | ok fl=>
   cases fl with
   | ret u=>
     obtain⟨v,H',I3,rv,ev,q3⟩:=I2.after hq'
     subst ev
     exact⟨rv,⟨V.ref ex,H',I3,rfl,q3⟩⟩
   | next=>exact False.elim hq'
   | brk=>exact False.elim hq'
   | cont=>exact False.elim hq'
theorem Jg (M:uW X.K C fI bm) (F:qo X.prog X.w X.K X.mg X.base CX k fI fd ps sp) (hr:qS (k+1) X.A) (hg:Gl X x) (hm:X.mg x=some (.ref C)) (hb:jx X.K fd ps []) (hx:jm CX X E) (ha:JA X (e::es) t) (hz:(e::es).length<=1000:=by decide) (hv:∀vs us,qD vs us->vs.length<=sizeLine->us.length<=sizeLine:=by intro vs us r h;rw[<-r.length];exact h) (hdb:(x==("__debug__":Str))=false:=by decide) (he:starEach (e::es) X.env=(false,eval e X.env)::starEach es X.env:=by rfl) (hpl:(backTo pos (starEach es X.env)).any (·.1)=false:=by rfl):JE X (.Call (.Name x p) (e::es) [] pos) (λσ H Q=>t σ H λvs H1=>vs.length<=sizeLine/\∀x,H1 x=none->sp (.ref x::vs) (upd H1 x (Zt x C)) (λv H2=>v=.non/\Q (.ref x) H2) E):=.of (by
 have ha:=ha.to
 intro pins s σ H Q I h
 refine wpAny_Call_Name_kw (J2 I hg hm ?_ hdb)
 refine PySem.W.callWith_K (h₀:=X.base) I.ok.mod.kin M.kp (qY (ha pos pins s σ H _ I h) λus s1 ⟨vs,H1,I1,r,q⟩=>⟨I1.kIn,?_⟩) he hpl
 exact Vk M F hr hb hx I1 r (hv vs us r q.1) q.2)
end
end L2
set_option Elab.async false
set_option linter.all false
set_option maxRecDepth 100000
set_option maxHeartbeats 4000000
namespace L2
open PySem PySem.Spec PyProof.Rows
def neL (xs ys:List V):Bool:=if xs.length=ys.length then !((List.range xs.length).all λj=>yf (xs.getD j .non) (ys.getD j .non)) else true
mutual
inductive DV (K:PySem.W.Frag) (H:Hp):V->PyData->Prop
 | non:DV K H .non .none
 | bl (b:Bool):DV K H (.bl b) (.bool b)
 | int (i:Int):DV K H (.int i) (.int i)
 | str (x:Str):DV K H (.str x) (.str x)
 | lst {a:Addr} {xs:List V} {ds:List PyData}:SqL K H a xs->DVs K H xs ds->DV K H (.ref a) (.list ds)
 | tup {a:Addr} {xs:List V} {ds:List PyData}:SqT K H a xs->DVs K H xs ds->DV K H (.ref a) (.tuple ds)
inductive DVs (K:PySem.W.Frag) (H:Hp):List V->List PyData->Prop
 | nil:DVs K H [] []
 | cons {x:V} {xs:List V} {d:PyData} {ds:List PyData}:DV K H x d->DVs K H xs ds->DVs K H (x::xs) (d::ds)
end
section
variable {X:Cx} {pins:List (Addr×Obj)} {σ:St} {H:Hp} {s:Shared}
mutual
theorem DV.reads (I:qu X pins σ H s):∀{x:V} {d:PyData},DV X.K H x d->∀{u:Value},qG x u->∃as,Reads s.heap u d as
 | _,_,.non,u,r=>by cases (show u=Value.none from r);exact⟨_,.none⟩
 | _,_,.bl b,u,r=>by cases (show u=Value.bool b from r);exact⟨_,.bool b⟩
 | _,_,.int i,u,r=>by obtain⟨t,q⟩:=(show ∃t,u=Value.int i t from r);subst q;exact⟨_,.int i t⟩
 | _,_,.str x,u,r=>by obtain⟨t,q⟩:=(show ∃t,u=Value.str x t from r);subst q;exact⟨_,.str x t⟩
 | _,_,.lst (a:=a) hq hs,u,r=>by
   cases (show u=Value.ref a from r)
   obtain⟨its,rv,⟨o,n,e,hc,hd,hda⟩,hz⟩:=I.list hq
   obtain⟨as,ra⟩:=DVs.reads I hs rv
   exact⟨_,.list e hc hda (by simpa using ra)⟩
 | _,_,.tup (a:=a) hq hs,u,r=>by
   cases (show u=Value.ref a from r)
   obtain⟨its,rv,⟨o,e,hc,n,hda⟩,hz⟩:=I.tuple hq
   obtain⟨as,ra⟩:=DVs.reads I hs rv
   exact⟨_,.tuple e hc hda (by simpa using ra)⟩
theorem DVs.reads (I:qu X pins σ H s):∀{xs:List V} {ds:List PyData},DVs X.K H xs ds->∀{us:List Value},qD xs us->∃as,ReadsAll s.heap us ds as
 | _,_,.nil,_,.nil=>⟨_,.nil⟩
 | _,_,.cons h hs,_,.cons r rs=>by
   obtain⟨as,a⟩:=DV.reads I h r
   obtain⟨bs,b⟩:=DVs.reads I hs rs
   exact⟨_,.cons a b⟩
end
end
end L2
namespace L2
open PySem PySem.Spec PyProof.Rows
end L2
set_option Elab.async false
set_option linter.all false
set_option maxRecDepth 100000
set_option maxHeartbeats 4000000
namespace L2
open PySem PySem.Spec PyProof.Rows
section
variable {X:Cx}
def KJ (K:PySem.W.Frag) (k:Bool):R2:=λx y H Q=>∃d,DV K H x d/\DV K H y d/\PySem.SeqAt.shaped d=true/\Q (.bl k) H
theorem X9 {d:PyData} (h:PySem.SeqAt.shaped d=true):PyData.eqv d d=true:=PySem.SeqAt.eqv_refl d (PySem.SeqAt.canLay_of_shaped h)
theorem xq (hu:X.A.units+64 < cLine):JF X (compareOp .NotEq) (KJ X.K false):=by
 intro pins s σ H x y v u Q I rx ry h
 obtain⟨d,h1,h2,hs,q⟩:=h
 obtain⟨as,ra⟩:=h1.reads I rx
 obtain⟨bs,rb⟩:=h2.reads I ry
 refine ne_dataH ra rb hs hs hu ?_
 rw[X9 hs]
 exact⟨.bl false,H,I,rfl,q⟩
def Ka (i j:Int):Prop:=0 < j/\j.natAbs < 2^200
theorem UQ:JF X (binaryOp .FloorDiv) (rI Ka λi j=>.int (i / j)):=ui λi j _ _ _ _ _ hc q=>by
 have h1:(0:Int) < j:=hc.1
 have h3:j.natAbs.log2 < 200:=(Nat.log2_lt (by omega)).mpr hc.2
 exact floordiv_int (by omega) (by rw[Int.fdiv_eq_ediv_of_nonneg i (by omega)];exact q) (.inl (PyProof.noPylong_of_log2 (Nat.lt_trans h3 (by decide))))
end
section
variable {X:Cx} {tg:Expr}
end
section
variable {X:Cx} {st:Stmt} {rest:List Stmt} {t u:TS}
def Kp (t u:TS):TS:=λD σ H=>∃W:St->Hp->Prop,t {D with nx:=W} σ H/\∀σ' H',W σ' H'->u D σ' H'
theorem WN (h1:JS X st t) (h2:zr X rest u):zr X (st::rest) (Kp t u):=.of (by
 have h1:=h1.to
 have h2:=h2.to
 intro pins s σ H D I ⟨W,h,k⟩
 refine wpAny_execs_cons (qY (h1 pins s σ H {D with nx:=W} I h) λf s1 q=>?_)
 cases f with
 | next=>
   obtain⟨σ',H',I',q⟩:=q
   exact h2 pins s1 σ' H' D I' (k σ' H' q)
 | ret v=>exact q
 | brk=>exact q
 | cont=>exact q)
end
end L2
set_option Elab.async false
set_option linter.all false
set_option maxRecDepth 100000
set_option maxHeartbeats 4000000
namespace PySem
section
variable {prog:Program} {w:World} {A:Around} {E:Value->Shared->Prop} {s:Shared}
def Z8 (x n c:Int):Obj:={cls:=.type "range_iterator",data:=.fields #[rawInt x,rawInt n,rawInt c]}
theorem WD (n:Nat):Builtin.Range.rangeSize 0 n 1=n:=by
 unfold Builtin.Range.rangeSize
 rw[if_pos (by decide)]
 split<;>omega
theorem zo {r:Addr} {a b c:Int} {t u v:Tok} {Q:Value->Shared->Prop} (hr:IsRange s.heap r a b c t u v)
   (hs:(Builtin.Range.rangeFitsLong a&&Builtin.Range.rangeFitsLong b&&Builtin.Range.rangeFitsLong c&&Builtin.Range.rangeFitsLong (-c)&&Builtin.Range.rangeFitsLong (a - c)&&Builtin.Range.rangeFitsLong (Builtin.Range.rangeSize a b c))=true)
   (h:Q (.ref s.heap.objs.size) {s with heap:=s.heap.push (Z8 (a+(Builtin.Range.rangeSize a b c - 1)*c) (Builtin.Range.rangeSize a b c) (-c))}):wpAny (model prog w) A (call (.builtin "range.__reversed__") [.ref r]) Q E s:=by
 have ty:s.TypeIs (.ref r) "range":=⟨_,hr,rfl⟩
 refine wpAny_call_entry F.slot_range_reversed ty F.entry_range_reversed ?_ (F.args_range_reversed_1 _)
 unfold Builtin.«range.__reversed__»
 refine wpAny_bind (wpAny_of_eq (a:=Value.ref r) rfl ?_)
 refine wpAny_bind ?_
 unfold Builtin.Range.rangeFields
 refine wpAny_bind (wpAny_field hr rfl (x:=.int a t) rfl ?_)
 refine wpAny_bind (m:=asInt? (.int a t)) (wpAny_pure ?_)
 refine wpAny_bind (wpAny_field hr rfl (x:=.int b u) rfl ?_)
 refine wpAny_bind (m:=asInt? (.int b u)) (wpAny_pure ?_)
 refine wpAny_bind (wpAny_field hr rfl (x:=.int c v) rfl ?_)
 refine wpAny_bind (m:=asInt? (.int c v)) (wpAny_pure ?_)
 refine wpAny_pure ?_
 dsimp only
 rw[hs]
 simp only[Bool.not_true,Bool.false_eq_true,if_false,if_true]
 first
 | refine wpAny_bind (wpAny_newObj_type (wpAny_pure ⟨_,rfl,h⟩))
 | refine wpAny_bind (wpAny_pure (wpAny_bind (wpAny_newObj_type (wpAny_pure ⟨_,rfl,h⟩))))
theorem Jp {r:Addr} {n:Nat} {t u v:Tok} {Q:Value->Shared->Prop} (hr:IsRange s.heap r 0 n 1 t u v) (hn:n < 1048576)
   (h:Q (.ref s.heap.objs.size) {s with heap:=s.heap.push (Z8 ((n:Int) - 1) n (-1))}):wpAny (model prog w) A (call (.builtin "range.__reversed__") [.ref r]) Q E s:=by
 have f:∀x:Int,-2000000<=x->x<=2000000->Builtin.Range.rangeFitsLong x=true:=λx p q=>by
   unfold Builtin.Range.rangeFitsLong
   simp
   omega
 have e:=WD n
 have hs:(Builtin.Range.rangeFitsLong 0&&Builtin.Range.rangeFitsLong (n:Int)&&Builtin.Range.rangeFitsLong 1&&Builtin.Range.rangeFitsLong (-1)&&Builtin.Range.rangeFitsLong (0 - 1)&&Builtin.Range.rangeFitsLong (Builtin.Range.rangeSize 0 n 1))=true:=by
   rw[e,f 0 (by omega) (by omega),f n (by omega) (by omega),f 1 (by omega) (by omega),f (-1) (by omega) (by omega),f (0 - 1) (by omega) (by omega)]
   rfl
 refine zo hr hs ?_
 have e2:(0:Int)+(Builtin.Range.rangeSize 0 n 1 - 1)*1=(n:Int) - 1:=by rw[e];omega
 rw[e2,e]
 exact h
end
end PySem
namespace PySem
section
variable {prog:Program} {w:World} {A:Around} {E:Value->Shared->Prop} {s:Shared}
theorem JD {r:Addr} {n:Nat} {t u v:Tok} {Q₁:Value->Shared->Prop} (hr:IsRange s.heap r 0 n 1 t u v) (hn:n < 1048576)
   (h:Q₁ (.ref s.heap.objs.size) {s with heap:=s.heap.push (Z8 ((n:Int) - 1) n (-1))}):
   codeAny (model prog w) A (.call (.builtin "reversed.__new__") ⟨[.type "reversed",.ref r],[]⟩) (wants Q₁ E) s:=by
 have ty:s.TypeIs (.ref r) "range":=⟨_,hr,rfl⟩
 have nn:¬((Value.builtin "range.__reversed__"==Value.none)=true):=Bool.false_ne_true
 refine codeAny_of_tree (show wpAny _ A.in1 (checkBuiltinCall "reversed.__new__" ⟨[.type "reversed",.ref r],[]⟩ >>= λ_=>again (.builtin "reversed.__new__" ⟨[.type "reversed",.ref r],[]⟩)) _ _ s from
   wpAny_bind (wpAny_of_eq (F.newCall_reversed_1 (.ref r)) (wpAny_pure ⟨plainId_quiet F.plain_reversed_new _,codeAny_builtin F.entry_reversed_new ?_⟩)))
 rw[Around.under_plainId F.plain_reversed_new _];unfold Builtin.«reversed.__new__»
 refine wpAny_bind (wpAny_of_eq (newClass_reversed (.ref r)) ?_);dsimp only
 refine wpAny_bind (wpAny_of_eq (a:=()) (by kernel_rfl) (wpAny_bind (wpAny_of_eq (a:=()) (by kernel_rfl) ?_)));try dsimp only
 refine wpAny_bind (wpAny_specialOf ty F.slot_range_reversed.lookup ?_);dsimp only
 refine wpAny_bind (wpAny_of_eq (F.slot_range_reversed.bind _) ?_);dsimp only
 rw[if_neg nn]
 refine wpAny_bind (wpAny_rule (wpAny_bind (m:=runValue (.call (.builtin "range.__reversed__") ⟨[.ref r],[]⟩)) (show wpAny _ _ (call (.builtin "range.__reversed__") [.ref r]) _ _ _ from Jp hr hn ?_)))
 first | exact wpAny_pure h | exact wpAny_bind (wpAny_pure (wpAny_pure h))
theorem ZG:isSubtype (.type "range_iterator") (.type "reversed")=pure false:=by rw[isSubtype_type];kernel_rfl
theorem Jo {r:Addr} {n:Nat} {t u v:Tok} {Q:Value->Shared->Prop} (hr:IsRange s.heap r 0 n 1 t u v) (hn:n < 1048576)
   (h:Q (.ref s.heap.objs.size) {s with heap:=s.heap.push (Z8 ((n:Int) - 1) n (-1))}):wpAny (model prog w) A (call (.type "reversed") [.ref r]) Q E s:=by
 refine callType_other (U:="range_iterator") (Q₁:=λobj s₁=>obj=.ref s.heap.objs.size/\s₁={s with heap:=s.heap.push (Z8 ((n:Int) - 1) n (-1))}) (by decide+kernel) F.create_reversed ⟨_,_,F.mro_reversed⟩ F.made_reversed ZG (F.typeCall_reversed_1 _) (JD hr hn ⟨rfl,rfl⟩) ?_
 rintro obj s₁ ⟨rfl,rfl⟩
 exact⟨⟨_,Heap.get?_push_size _ rfl,rfl⟩,h⟩
theorem Yz {I:Addr} {x left c:Int} {Q:Value->Shared->Prop} (hit:IsRangeIter s.heap I x left c) (h:Q (.int left s.toks) {s with toks:=s.toks+1}):
   wpAny (model prog w) A (call (.builtin "range_iterator.__length_hint__") [.ref I]) Q E s:=by
 have hT:s.TypeIs (.ref I) "range_iterator":=⟨_,hit,rfl⟩
 refine wpAny_call_entry F.slot_range_iterator_length_hint hT F.entry_range_iterator_length_hint ?_ (F.args_range_iterator_length_hint_1 _)
 unfold Builtin.«range_iterator.__length_hint__»
 refine wpAny_bind (wpAny_of_eq (a:=Value.ref I) rfl ?_)
 refine wpAny_bind (wpAny_field hit rfl (x:=rawInt left) rfl ?_)
 show wpAny _ _ (do ret (<-mkInt left)) _ _ _
 exact wpAny_ret_mkInt h
structure Wf (P:Program) (w:World) (T:String) (I:Addr) (fp:List Addr) (n:Nat) (V:Nat->Value->Prop) (St:Nat->Heap->Prop):Prop where
 ty:∀z:Shared,St 0 z.heap->z.TypeIs (.ref I) T
 nl:(Value.type T==Value.type "list")=false
 nt:(Value.type T==Value.type "tuple")=false
 walk:∀B:Around,B.handled=none->Walks P w B I fp [I] n V St
 hint:∀(B:Around) (F:Value->Shared->Prop) (z:Shared) (R:Bool->Shared->Prop),St 0 z.heap->(∀k,R false {z with toks:=k})->wpAny (model P w) B (Builtin.List.listLengthHint (.ref I)) R F z
theorem Wf.list {P:Program} {T:String} {I:Addr} {fp:List Addr} {n:Nat} {V:Nat->Value->Prop} {St:Nat->Heap->Prop} (J:Wf P w T I fp n V St) {B:Around} {F':Value->Shared->Prop} {z:Shared} {R:Value->Shared->Prop}
   (hB:B.handled=none) (st:St 0 z.heap) (mem:I∈fp) (old:∀b∈fp,b < z.heap.objs.size) (hn:n<=1048576)
   (k:∀g tk xs c,(∀b o,b≠I->z.heap.get? b=some o->g.get? b=some o)->g.get? z.heap.objs.size=some (⟨.type "list",none,.seq xs c,#[]⟩:Obj)->ItemsOf V xs n->R (.ref z.heap.objs.size) {z with heap:=g,toks:=tk}):
   wpAny (model P w) B (call (.type "list") [.ref I]) R F' z:=by
 have nI:∀b∈fp,z.heap.objs.size≠b:=λb hb=>Nat.ne_of_gt (old b hb)
 have sI:Builtin.List.listSameRef (.ref z.heap.objs.size) (.ref I)=false:=by unfold Builtin.List.listSameRef;simp [nI I mem]
 refine callType_codes (Q₁:=λob z1=>z1={z with heap:=z.heap.push {cls:=.type "list",data:=.seq #[]}}/\ob=.ref z.heap.objs.size) F.called_list (F.typeCall_list_1 _) F.entry_list_init (code_list_new _ ⟨rfl,rfl⟩) ?_
 rintro ob z1 ⟨rfl,rfl⟩
 have a0:=Heap.get?_push_size z.heap (o:=({cls:=.type "list",data:=.seq #[]}:Obj)) rfl
 refine⟨⟨_,a0,rfl⟩,F.args_list_init_2 _ _,?_⟩
 show wpAny _ _ (Builtin.List.listItems (.ref _) >>= λys=>Builtin.List.listUpdate (.ref _) (λ_=>#[]) >>= λ_=>letGo ys.toList.reverse >>= λ_=>Builtin.List.listExtendWith (.ref _) (.ref I) .none) _ _ _
 refine wpAny_bind (show wpAny _ _ (Builtin.List.listItems (.ref _)) _ _ _ from ?_)
 unfold Builtin.List.listItems
 refine wpAny_bind (wpAny_seqItems a0 rfl (wpAny_pure (wpAny_bind ?_)))
 refine wpAny_updateSeq a0 rfl (wpAny_bind (wpAny_letGo ?_))
 have a1:=Heap.get?_update_self (Obj.mapSeq (λ_=>(#[]:Array Value))) a0 rfl
 have keep1:∀b o,z.heap.get? b=some o->((z.heap.push {cls:=.type "list",data:=.seq #[]}).update z.heap.objs.size (Obj.mapSeq (λ_=>(#[]:Array Value)))).get? b=some o:=λb o e=>
   (Heap.get?_update_other _ _ (Nat.ne_of_gt (Heap.lt_size e))).trans (Heap.get?_push_of_some _ e)
 generalize hg1:(z.heap.push {cls:=.type "list",data:=.seq #[]}).update z.heap.objs.size (Obj.mapSeq (λ_=>(#[]:Array Value)))=g1 at a1 keep1
 have st1:St 0 g1:=(J.walk B hB).frame 0 _ _ st λb _ o e=>keep1 b o e
 unfold Builtin.List.listExtendWith
 refine wpAny_bind (wpAny_typeOf (J.ty {z with heap:=g1} st1) ?_)
 simp only[sI,J.nl,J.nt,Bool.or_false,Bool.false_eq_true,if_false]
 refine wpAny_bind ((J.walk B.in1.in1 hB).self 0 {z with heap:=g1} _ _ st1 ?_)
 refine wpAny_bind (wpAny_holding (J.hint B.in1.in1 _ {z with heap:=g1} _ st1 λtk=>?_))
 have run:∀(g:Heap) (c tk:Nat),St 0 g->(∀b o,z.heap.get? b=some o->g.get? b=some o)->g.get? z.heap.objs.size=some {cls:=.type "list",data:=.seq #[] c}->
     codeAny (model P w) B.in1 (.builtin "list.extend.loop" ⟨[.ref z.heap.objs.size,.ref I,.none],[]⟩) (wants (λr z2=>r=.none/\R (.ref z.heap.objs.size) z2) F') {z with heap:=g,toks:=tk}:=λg c tk sg kg ag=>
   codeAny_extend_loopS (J.walk B.in1.in1 hB).toS (by rw[sizeLine_eq];omega) _ (λq=>nI _ q rfl) .none n 0 _ #[] c rfl (Nat.zero_le _) sg ag (ItemsOf.nil _) λz3 xs c3 mv a3 it=>by
     rw[Moved.eq_with mv]
     refine⟨rfl,k z3.heap z3.toks xs c3 (λb o hb e=>mv.heap b o (λq=>?_) (kg b o e)) a3 it⟩
     rcases List.mem_cons.mp q with q | q
     . exact absurd q (Nat.ne_of_lt (Heap.lt_size e))
     . exact hb (List.mem_singleton.mp q)
 refine wpAny_ite_split (λ_=>?_) (λ_=>wpAny_pure ⟨plainId_quiet F.plain_extend_loop _,run g1 _ tk st1 keep1 a1⟩)
 refine wpAny_bind (wpAny_rule (wpAny_bind (show wpAny _ _ (updateSeq z.heap.objs.size (·.push .none) >>= λ_=>updateSeq z.heap.objs.size (·.pop)) _ _ _ from wpAny_bind (wpAny_updateSeq a1 rfl ?_))))
 have a2:=Heap.get?_update_self (Obj.mapSeq (·.push Value.none)) a1 rfl
 refine wpAny_updateSeq (hz:=by seq_fits) a2 rfl ?_
 have keep3:∀b o,b≠z.heap.objs.size->g1.get? b=some o->((g1.update z.heap.objs.size (Obj.mapSeq (·.push Value.none))).update z.heap.objs.size (Obj.mapSeq (·.pop))).get? b=some o:=λb o hb e=>
   (Heap.get?_update_other _ _ (Ne.symm hb)).trans ((Heap.get?_update_other _ _ (Ne.symm hb)).trans e)
 exact wpAny_pure ⟨plainId_quiet F.plain_extend_loop _,run _ _ tk ((J.walk B hB).frame 0 _ _ st1 λb hb o e=>keep3 b o (λq=>nI b hb q.symm) e) (λb o e=>keep3 b o (Nat.ne_of_lt (Heap.lt_size e)) (keep1 b o e)) (Heap.get?_update_self (Obj.mapSeq (·.pop)) a2 rfl)⟩
theorem Vg {P:Program} {I:Addr} {x c:Int} {n:Nat} (hn:n<=1048576):Wf P w "range_iterator" I [I] n (λi v=>∃t,v=.int (x+i*c) t) (λi h=>IsRangeIter h I (x+(i:Nat)*c) ((n:Int) - (i:Nat)) c) where
 ty:=λ_ st=>⟨_,st,rfl⟩
 nl:=by decide
 nt:=by decide
 walk:=λ_ hB=>Walks.range hB I x c n
 hint:=λB G z R st k=>by
   have st':IsRangeIter z.heap I x n c:=by
     have e1:x+((0:Nat):Int)*c=x:=by simp
     have e2:(n:Int) - ((0:Nat):Int)=n:=by simp
     rw[<-e1,<-e2]
     exact st
   have ty:z.TypeIs (.ref I) "range_iterator":=⟨_,st',rfl⟩
   have few:Builtin.List.listTooLong ((n:Int).toNat)=false:=by unfold Builtin.List.listTooLong;rw[Int.toNat_natCast];exact decide_eq_false (by rw[sizeLine_eq];omega)
   unfold Builtin.List.listLengthHint
   refine wpAny_bind (wpAny_specialOf ty F.nolen_ra ?_)
   refine(show wpAny _ B (specialOf (.ref I) (Str.ofString "__length_hint__") >>= _) _ _ _ from wpAny_bind (wpAny_specialOf ty F.hint_ra ?_))
   (generalize hq:("range_iterator.__length_hint__":String)=q0;(fail_if_success (clear hq q0));wp_delta;rw[show splitId q0=some ("range_iterator","__length_hint__") from by subst hq;decide+kernel];subst hq)
   refine wpAny_bind (wpAny_isInstance (b:=true) ty (by rw[isSubtype_type];kernel_rfl) ?_)
   refine(show wpAny _ B (call (.builtin "range_iterator.__length_hint__") [.ref I] >>= _) _ _ _ from wpAny_bind (Yz st' (wpAny_bind (m:=asInt? (.int (n:Int) _)) (wpAny_pure ?_))))
   dsimp only
   rw[if_neg (by rw[few];decide)]
   exact wpAny_pure (k _)
end
end PySem
namespace L2
open PySem PySem.Spec PyProof.Rows
def J7 (n:Nat):List Nat:=(List.range n).reverse
theorem W8 {n:Nat} {acc:Array Value} (h:ItemsOf (λi v=>∃t,v=.int ((n:Int) - 1+i*(-1)) t) acc n):qD ((J7 n).map λi=>V.int (i:Nat)) acc.toList:=by
 obtain⟨hz,hv⟩:=h
 have key:∀(xs:List V) (us:List Value),xs.length=us.length->(∀(i:Nat) (x:V) (u:Value),xs[i]?=some x->us[i]?=some u->qG x u)->qD xs us:=by
   intro xs
   induction xs with
   | nil=>intro us hl _;cases us with | nil=>exact .nil | cons _ _=>cases hl
   | cons x xs ih=>
     intro us hl hp
     cases us with
     | nil=>cases hl
     | cons u us=>exact .cons (hp 0 x u rfl rfl) (ih us (by simpa using hl) λi y w h1 h2=>hp (i+1) y w (by simpa using h1) (by simpa using h2))
 refine key _ _ (by simp [J7,hz]) λi x u h1 h2=>?_
 have h2':acc[i]?=some u:=by simpa using h2
 obtain⟨t,rfl⟩:=hv i u h2'
 have hi:i < n:=by
   have:=(Array.getElem?_eq_some_iff.mp h2').1
   omega
 rw[List.getElem?_map,J7,List.getElem?_reverse (by simpa using hi),List.length_range,List.getElem?_range (by omega)]at h1
 simp at h1
 subst h1
 refine⟨t,?_⟩
 congr 1
 omega
section
variable {X:Cx} {e:Expr} {te:TE} {p1 p2 p3 pos1 pos2 pos3:Pos}
theorem Ui {M:Model} {A:Around} {E:Value->Shared->Prop} {s:Shared} {env:Env} {e:Expr} {pos:Pos} {R:List Value->Shared->Prop} (hs:starEach [e] env=[(false,eval e env)]) (h:wpAny M A (eval e env) (λv s1=>R [v] s1) E s):
   wpAny M A (spliced (backTo pos (starEach [e] env))) R E s:=by
 rw[hs]
 show wpAny _ _ (spliced ((false,eval e env)::backTo pos [])) _ _ s
 exact Calls.spliced_cons (qY h λu s1 h1=>Calls.spliced_nil h1)
def Kr (te:TE):TE:=λσ H Q=>te σ H λx H1=>∃n:Nat,x=.int n/\n<=1000/\∀l,H1 l=none->Q (.ref l) (upd H1 l (.lst ((J7 n).map λi=>V.int (i:Nat))))
theorem xS (hc:X.calm=true) (g1:Gl X "list") (m1:X.mg "list"=none) (g2:Gl X "reversed") (m2:X.mg "reversed"=none) (g3:Gl X "range") (m3:X.mg "range"=none) (ha:JE X e te) (hs:starEach [e] X.env=[(false,eval e X.env)]:=by rfl) (hs2:starEach [.Call (.Name "range" p3) [e] [] pos3] X.env=[(false,eval (.Call (.Name "range" p3) [e] [] pos3) X.env)]:=by rfl) (hs3:starEach [.Call (.Name "reversed" p2) [.Call (.Name "range" p3) [e] [] pos3] [] pos2] X.env=[(false,eval (.Call (.Name "reversed" p2) [.Call (.Name "range" p3) [e] [] pos3] [] pos2) X.env)]:=by rfl):JE X (.Call (.Name "list" p1) [.Call (.Name "reversed" p2) [.Call (.Name "range" p3) [e] [] pos3] [] pos2] [] pos1) (Kr te):=.of (by
 have ha:=ha.to
 intro pins s σ H Q I h
 refine Call_ (Qt I g1 m1 boot_list (PyProof.Rows.callWith_type1 (Ui hs3 ?_) (by rw[hs3];rfl) rfl))
 refine Call_ (Qt I g2 m2 boot_reversed (PyProof.Rows.callWith_type1 (Ui hs2 ?_) (by rw[hs2];rfl) rfl))
 refine Call_ (Qt I g3 m3 boot_range (PyProof.Rows.callWith_type1 (Ui hs (qY (ha pins s σ H _ I h) λu s1 ⟨x,H1,I1,r1,q1⟩=>?_)) (by rw[hs];rfl) rfl))
 obtain⟨n,rfl,hn,q⟩:=q1
 obtain⟨t,rfl⟩:=r1
 refine call_range_1 ?_
 refine Jo (IsRange.new ..) (by omega) ?_
 refine(Vg (x:=(n:Int) - 1) (c:=-1) (n:=n) (by omega)).list (I1.ok.hd hc) (by
   have e1:(n:Int) - 1+((0:Nat):Int)*(-1)=(n:Int) - 1:=by simp
   have e2:(n:Int) - ((0:Nat):Int)=n:=by simp
   rw[e1,e2]
   exact Heap.get?_push_size _ rfl) (by simp) (λb hb=>by rw[List.mem_singleton.mp hb,Heap.size_push (_:Heap) (Z8 _ _ _)];exact Nat.lt_succ_self _) (by omega) λh' tk acc' c' kp e hi=>?_
 have kk:∀b o,s1.heap.get? b=some o->h'.get? b=some o:=λb o eb=>by
   refine kp b o (Nat.ne_of_lt ?_) (Heap.get?_push_of_some _ (Heap.get?_push_of_some _ eb))
   rw[Heap.size_push]
   exact Nat.lt_succ_of_lt (Heap.lt_size eb)
 have s1z:s1.heap.objs.size<=((s1.heap.push ({cls:=.type "range",data:=.fields #[.int 0 s1.toks,.int n t,.int 1 (s1.toks+1)]}:Obj)).push (Z8 ((n:Int) - 1) n (-1))).objs.size:=by
   rw[Heap.size_push,Heap.size_push]
   omega
 exact⟨.ref _,_,I1.laid (t':=tk) (o:=.lst ((J7 n).map λi=>V.int (i:Nat))) kk s1z ⟨by simp only[List.length_map,J7,List.length_reverse,List.length_range];exact Nat.le_of_lt (qw hn),acc'.toList,c',W8 hi,by simpa using e⟩,rfl,q _ (I1.hok.fresh s1z)⟩)
end
end L2
set_option Elab.async false
set_option linter.all false
set_option maxRecDepth 100000
set_option maxHeartbeats 4000000
namespace PySem
namespace F
end F
end PySem
namespace L2
open PySem PySem.Spec PyProof.Rows
theorem Vr:∀(xs:List V) (us:List Value),xs.length=us.length->(∀(i:Nat) (x:V) (u:Value),xs[i]?=some x->us[i]?=some u->qG x u)->qD xs us:=by
 intro xs
 induction xs with
 | nil=>intro us hl _;cases us with | nil=>exact .nil | cons _ _=>cases hl
 | cons x xs ih=>
   intro us hl hp
   cases us with
   | nil=>cases hl
   | cons u us=>exact .cons (hp 0 x u rfl rfl) (ih us (by simpa using hl) λi y w h1 h2=>hp (i+1) y w (by simpa using h1) (by simpa using h2))
section
variable {X:Cx} {e:Expr} {te:TE} {p1 p2 pos1 pos2:Pos}
end
end L2
set_option Elab.async false
set_option linter.all false
set_option maxRecDepth 100000
set_option maxHeartbeats 4000000
namespace L2
open PySem PySem.Spec PyProof.Rows
section
variable {X:Cx} {pins:List (Addr×Obj)} {σ:St} {H:Hp} {s:Shared} {h':Heap}
theorem qu.turnLaid {L:List Addr} {T:Addr} {o:HO} {t':Nat} (I:qu X pins σ H s) (k:∀b u,b∉L->s.heap.get? b=some u->h'.get? b=some u) (hf:∀b∈L,JJ X pins H b) (hp:s.heap.objs.size<=T)
   (new:qx X.prog X.w (upd H T o) h' T o):qu X pins σ (upd H T o) {s with heap:=h',toks:=t'}:=by
 have hn:H T=none:=I.hok.fresh hp
 have up:∀b u,H b=some u->upd H T o b=some u:=λb u e=>by rw[qf (ql e hn)];exact e
 have nL:∀b u,H b=some u->b∉L:=λb u e z=>by rw[(hf b z).1]at e;cases e
 refine I.step (g':=s.gens) (d':=s.drawn) (ch:=L) (λb hb=>?_) (λb o _ _ hc e _=>k b o hc e) (λb o _ _ hc e _=>⟨o.slots,k b o hc e⟩) (λb ob hc e n=>?_)
   (λb o hc e=>⟨o,k b o hc e⟩) (λb xs e=>up b _ e) (λb o u e=>up b _ e) (λb ps e=>⟨#[],by rw[up b _ e];simp⟩) (λm hm=>?_) (λb u e=>?_) I.bare
 . obtain⟨f0,f1,f2,f3,f4,f5⟩:=hf b hb
   exact⟨f3,f1,f4,f5⟩
 . have:b≠T:=Nat.ne_of_lt (Nat.lt_of_lt_of_le (Heap.lt_size e) hp)
   rw[qf this]
   exact n
 . obtain⟨o,es,ep,ho,r⟩:=hm
   exact⟨o,es,ep,k _ o (λz=>(hf _ z).2.1 rfl) ho,r⟩
 . by_cases hb:b=T
   . subst hb
     rw[qd]at e
     cases e
     exact new
   . rw[qf hb]at e
     refine(I.hok b u e).stay (λc v hc q=>k c v ?_ q) (λc q=>up c _ q) (λc xs q=>up c _ q) (λc o q=>up c _ q)
     rcases hc with z | z
     . rw[z];exact nL b u e
     . exact nL c _ z
theorem qu.turnedL {L:List Addr} {t':Nat} (I:qu X pins σ H s) (k:∀b u,b∉L->s.heap.get? b=some u->h'.get? b=some u) (hf:∀b∈L,JJ X pins H b):qu X pins σ H {s with heap:=h',toks:=t'}:=by
 have nL:∀b u,H b=some u->b∉L:=λb u e z=>by rw[(hf b z).1]at e;cases e
 refine I.step (g':=s.gens) (d':=s.drawn) (ch:=L) (λb hb=>?_) (λb o _ _ hc e _=>k b o hc e) (λb o _ _ hc e _=>⟨o.slots,k b o hc e⟩) (λ_ _ _ _ n=>n)
   (λb o hc e=>⟨o,k b o hc e⟩) (λ_ _ e=>e) (λ_ _ _ e=>e) (λb ps e=>⟨#[],by rw[e];simp⟩) (λm hm=>?_) (λb u e=>?_) I.bare
 . obtain⟨f0,f1,f2,f3,f4,f5⟩:=hf b hb
   exact⟨f3,f1,f4,f5⟩
 . obtain⟨o,es,ep,ho,r⟩:=hm
   exact⟨o,es,ep,k _ o (λz=>(hf _ z).2.1 rfl) ho,r⟩
 . refine(I.hok b u e).stay (λc v hc q=>k c v ?_ q) (λ_ q=>q) λ_ _ q=>q
   rcases hc with z | z
   . rw[z];exact nL b u e
   . exact nL c _ z
end
section
variable {X:Cx} {elts:List Expr} {x1:Nat} {tpos:Pos}
end
end L2
set_option Elab.async false
set_option linter.all false
set_option maxRecDepth 100000
set_option maxHeartbeats 4000000
namespace L2
open PySem PySem.Spec PyProof.Rows
section
variable {X:Cx}
theorem zy:∀{cs:List Addr} {us:List Value},qD (cs.map V.ref) us->us=cs.map Value.ref
 | [],_,.nil=>rfl
 | c::cs,u::us,.cons r t=>by
   obtain rfl:u=Value.ref c:=r
   rw[List.map_cons,zy t]
def KI (K:PySem.W.Frag):R2:=λx y H Q=>∃d d',DV K H x d/\DV K H y d'/\PySem.SeqAt.shaped d=true/\PySem.SeqAt.shaped d'=true/\Q (.bl (PyData.eqv d d')) H
theorem xu (hu:X.A.units+64 < cLine):JF X (compareOp .Eq) (KI X.K):=by
 intro pins s σ H x y v u Q I rx ry h
 obtain⟨d,d',h1,h2,hs,hs',q⟩:=h
 obtain⟨as,ra⟩:=h1.reads I rx
 obtain⟨bs,rb⟩:=h2.reads I ry
 exact eq_dataH ra rb hs hs' hu ⟨.bl _,H,I,rfl,q⟩
end
section
variable {X:Cx} {o e:Expr} {es:List Expr} {ta:TE} {t:TA} {m:Str} {C C' f f':Addr} {fd fd':FuncData} {ps ps':List Str} {k k':Nat} {sp sp':Sp} {apos pos:Pos}
end
section
variable {X:Cx} {e:Expr} {es:List Expr} {te:TE} {t:TA}
end
end L2
set_option Elab.async false
set_option linter.all false
set_option maxRecDepth 100000
set_option maxHeartbeats 4000000
namespace L2
open PySem PySem.Spec PySem.W PyProof.Rows
theorem yL:∀(f n r:Nat),r<=1->minRun' f n r<=n+r
 | 0,n,r,_=>Nat.le_refl _
 | f+1,n,r,hr=>by
   rw[minRun'_succ]
   split
   . exact Nat.le_refl _
   . have h1:max r (n % 2)<=1:=Nat.max_le.mpr ⟨hr,by omega⟩
     have:=yL f (n / 2) (max r (n % 2)) h1
     omega
section
variable {P:Program} {w:World} {B:Around} {F:Value->Shared->Prop} {κ:SortKind} {it:Array Keyed} {z:Shared}
theorem YU {n:Nat} {R:Nat->Shared->Prop} (hc:∀i,1<=i->i < n->∀C:Bool->Shared->Prop,C false z->kas_cmp P w B κ it i (i - 1) C z) (hR:R n z):
   ∀(f a:Nat),1<=a->a+f=n->(kas_asc (List.toArray (List.range n)) f a).kasWp (kas_cmp P w B κ it) R z
 | 0,a,_,e=>by
   have e':a=n:=by omega
   subst e'
   exact hR
 | f+1,a,h1,e=>by
   have g:∀i,i < n->(List.toArray (List.range n)).getD i 0=i:=λi hi=>by simp [Array.getD,hi]
   show kas_cmp P w B κ it ((List.toArray (List.range n)).getD a 0) ((List.toArray (List.range n)).getD (a - 1) 0) _ z
   rw[g a (by omega),g (a - 1) (by omega)]
   refine hc a h1 (by omega) _ ?_
   show KasT.kasWp _ (if false=true then _ else _) R z
   rw[if_neg Bool.false_ne_true]
   exact YU hc hR f (a+1) (by omega) (by omega)
theorem Vn {n:Nat} {Q:Unit->SortSt->Shared->Prop} (h2:2<=n) (hc:∀i,1<=i->i < n->∀C:Bool->Shared->Prop,C false z->kas_cmp P w B κ it i (i - 1) C z)
   (hQ:∀st,arrOf st=(List.toArray (List.range n)).map (kas_item it)->failedOf st=none->Q () st z):kasC (model P w) B F sortRuns' Q (kas_st κ it (List.toArray (List.range n))) z:=by
 obtain⟨r,rfl⟩:∃r,n=r+2:=⟨n - 2,by omega⟩
 have sz:(List.toArray (List.range (r+2))).size=r+2:=by simp
 have sa:(arrOf (kas_st κ it (List.toArray (List.range (r+2))))).size=r+2:=(Array.size_map ..).trans sz
 have le:=yL (r+2) (r+2) 0 (by decide)
 rw[sortRuns'_eq]
 refine kasC_bind (kasC_get ?_)
 dsimp only
 rw[sa]
 generalize minRun' (r+2) (r+2) 0=M at le
 refine kasC_bind (kasC_range (show kasC _ _ _ (forIn (0::1::List.range' 2 r) _ _) _ _ _ from kasC_cons ?_))
 dsimp only
 rw[if_neg (by omega)]
 simp only[Nat.sub_zero,Nat.zero_add]
 refine kasC_bind (kas_count_ (G:=λq z'=>q=(r+2,List.toArray (List.range (r+2)))/\z'=z) (by omega) (by rw[sz];exact Nat.le_refl _) (λm p' z' _ _ _ hg=>?_) ?_)
 . obtain⟨e,rfl⟩:=hg
   cases e
   dsimp only
   rw[if_neg (by omega)]
   refine kasC_bind (kasC_get ?_)
   rw[show (pendingOf (kas_st κ it (List.toArray (List.range (r+2))))).back?=none from rfl]
   dsimp only
   refine kasC_bind (kasC_modify (kasC_pure (show kasC _ _ _ (forIn (1::List.range' 2 r) _ _) _ _ _ from kasC_cons ?_)))
   dsimp only
   rw[if_pos (Nat.le_refl _)]
   refine kasC_pure ?_
   dsimp only
   refine kasC_bind (kasC_range (show kasC _ _ _ (forIn (0::1::List.range' 2 r) _ _) _ _ _ from kasC_cons (kasC_bind (kasC_get ?_))))
   rw[if_pos (show (pendingOf (setPending (kas_st κ it (List.toArray (List.range (r+2)))) ((pendingOf (kas_st κ it (List.toArray (List.range (r+2))))).push (0,r+2,0)))).size<=1 from Nat.le_refl 1)]
   refine kasC_pure ?_
   dsimp only
   exact kasC_pure (hQ _ rfl rfl)
 . unfold kas_count
   rw[KasT.kasWp_bind]
   refine YU hc ?_ _ 1 (Nat.le_refl 1) (by omega)
   rw[if_pos (beq_self_eq_true _)]
   exact⟨rfl,rfl⟩
end
def QY (h:Heap) (v:Value) (k:Int×Int):Prop:=∃p o n t u,v=.ref p/\h.get? p=some o/\o.cls=.type "tuple"/\o.data=.seq #[.int k.1 t,.int k.2 u] n
def zd (a b:Int×Int):Prop:=a.1 < b.1\/(a.1=b.1/\a.2 < b.2)
section
variable {P:Program} {w:World} {B:Around} {F:Value->Shared->Prop} {z:Shared}
theorem YW {v u:Value} {a b:Int×Int} (hv:QY z.heap v b) (hu:QY z.heap u a) (hlt:zd a b) {C:Bool->Shared->Prop} (hC:C false z):wpAny (model P w) B (keyLt' (tuples' true) v u) C (λ_ _=>False) z:=by
 obtain⟨p,o,n,t1,t2,rfl,h1,_,d1⟩:=hv
 obtain⟨p',o',n',t1',t2',rfl,h1',_,d1'⟩:=hu
 refine kat_lt h1 d1 h1' d1' ?_
 show KatLex P w B true _ C [(.int b.1 t1,.int a.1 t1'),(.int b.2 t2,.int a.2 t2')] 0 z
 refine kat_cons (SeqAt.EqAt.int_int b.1 t1 a.1 t1' P w _ _ ?_)
 rcases hlt with h | ⟨h,h'⟩
 . have e:(b.1==a.1)=false:=by
     rw[beq_eq_false_iff_ne]
     omega
   rw[e]
   refine kat_no (show wpAny _ _ (oneLt' true _ _) _ _ _ from oneLt_int ?_)
   rw[decide_eq_false (by omega)]
   exact hC
 . have e:(b.1==a.1)=true:=by rw[h];exact beq_self_eq_true _
   rw[e]
   refine kat_yes (kat_cons (SeqAt.EqAt.int_int b.2 t2 a.2 t2' P w _ _ ?_))
   have e2:(b.2==a.2)=false:=by
     rw[beq_eq_false_iff_ne]
     omega
   rw[e2]
   refine kat_no (show wpAny _ _ (oneLt' false _ _) _ _ _ from kat_one _ _ (lt_int ?_))
   show C (decide (b.2 < a.2)) z
   rw[decide_eq_false (by omega)]
   exact hC
theorem QY.keep {h h':Heap} {v:Value} {k:Int×Int} (x:QY h v k) (kp:∀b o,h.get? b=some o->o.cls=.type "tuple"->h'.get? b=some o):QY h' v k:=by
 obtain⟨p,o,n,t,u,e,h1,c,d⟩:=x
 exact⟨p,o,n,t,u,e,kp p o h1 c,c,d⟩
theorem zE (vs:List Value):(pairsOf vs).map (·.2)=vs.toArray:=by
 apply Array.ext'
 rw[Array.toList_map,pairsOf_toList,List.map_snd_zip (Nat.le_refl _)]
theorem Wj {h:Heap}:∀(vs:List Value) (ks:List (Int×Int)),vs.length=ks.length->(∀(i:Nat) (v:Value) (k:Int×Int),vs[i]?=some v->ks[i]?=some k->QY h v k)->∃fs,KatTups h vs fs/\fs.length=vs.length/\∀v∈fs,∃i t,v=Value.int i t
 | [],_,_,_=>⟨[],.nil,rfl,λv hv=>(nomatch hv)⟩
 | v::vs,[],hl,_=>by cases hl
 | v::vs,k::ks,hl,hv=>by
   obtain⟨fs,tf,lf,hf⟩:=Wj vs ks (Nat.succ.inj hl) λi u q e1 e2=>hv (i+1) u q (by simpa using e1) (by simpa using e2)
   obtain⟨p,o,n,t,u,rfl,h1,c,d⟩:=hv 0 v k rfl rfl
   refine⟨.int k.1 t::fs,.cons h1 c d rfl tf,by simp [lf],λx hx=>?_⟩
   rcases List.mem_cons.mp hx with e | hx
   . exact⟨_,_,e⟩
   . exact hf x hx
theorem Ve {a:Addr} {vs:List Value} {ks:List (Int×Int)} {n:Nat} {R:PySem.Fin->Shared->Prop} (ho:z.heap.get? a=some (seqObj "list" vs.toArray n)) (hl:vs.length=ks.length) (hv:∀(i:Nat) (v:Value) (k:Int×Int),vs[i]?=some v->ks[i]?=some k->QY z.heap v k)
   (hr:∀(i:Nat) (k k':Int×Int),ks[i]?=some k->ks[i+1]?=some k'->zd k k') (hz:vs.length<=100000)
   (k:R (.done (.ret .none)) {z with heap:=sortedHeap z.heap a vs vs.toArray}):wpAny (model P w) B (Builtin.«list.sort» ⟨[.ref a],[]⟩) R F z:=by
 have na:∀b o,z.heap.get? b=some o->o.cls=.type "tuple"->b≠a:=λb o e c q=>by
   rw[q,ho]at e
   cases e
   exact absurd c (show ¬Value.type "list"=Value.type "tuple" by decide)
 rw[list_sort_plain]
 refine wpAny_bind (listItems_at ho rfl (wpAny_bind (listUpdate_at ho rfl ?_)))
 obtain⟨c1,o1⟩:∃c,(z.heap.update a (Obj.mapSeq λ_=>#[])).get? a=some (seqObj "list" #[] c):=⟨_,get?_update_seq ho (λ_=>#[])⟩
 refine wpAny_bind (seqEpoch_at o1 rfl (wpAny_bind (wpAny_newTuple (wpAny_bind (wpAny_newList (wpAny_holding ?_))))))
 have lt:=Heap.lt_size ho
 have o2:(((z.heap.update a (Obj.mapSeq λ_=>#[])).push (seqObj "tuple" vs.toArray 0)).push (seqObj "list" #[] 0)).get? a=some (seqObj "list" #[] c1):=Heap.get?_push_of_some _ (Heap.get?_push_of_some _ o1)
 have kp:∀b o,z.heap.get? b=some o->o.cls=.type "tuple"->(((z.heap.update a (Obj.mapSeq λ_=>#[])).push (seqObj "tuple" vs.toArray 0)).push (seqObj "list" #[] 0)).get? b=some o:=λb o e c=>
   Heap.get?_push_of_some _ (Heap.get?_push_of_some _ ((Heap.get?_update_other _ _ (Ne.symm (na b o e c))).trans e))
 show wpAny (model P w) B _ R F {z with heap:=((z.heap.update a (Obj.mapSeq λ_=>#[])).push (seqObj "tuple" vs.toArray 0)).push (seqObj "list" #[] 0)}
 dsimp only
 have sv:vs.toArray.size=vs.length:=by simp
 have ends:∀st:SortSt,(arrOf st).map (·.2)=vs.toArray->failedOf st=none->wpAny (model P w) B (do
     let touched:=(<-seqEpoch a) != c1
     Builtin.List.listUpdate (.ref a) λ_=>(arrOf st).map (·.2)
     if let some e:=failedOf st then rule "list.sort.comparison-raised";throw e
     if touched then rule "list.sort.modified";raiseError "ValueError" "list modified during sort"
     ret .none) R F {z with heap:=((z.heap.update a (Obj.mapSeq λ_=>#[])).push (seqObj "tuple" vs.toArray 0)).push (seqObj "list" #[] 0)}:=λst e f=>by
   refine wpAny_bind (seqEpoch_at o2 rfl ?_)
   rw[e,f]
   refine wpAny_bind (listUpdate_at o2 rfl ?_ (hsz2:=by rw[sv,sizeLine_eq];omega))
   simp only[bne_self_eq_false,Bool.false_eq_true,if_false]
   exact wpAny_pure k
 by_cases h2:vs.toArray.size < 2
 . rw[if_pos h2,if_pos h2]
   refine wpAny_bind (wpAny_pure ?_)
   rw[StateT.run_pure]
   refine wpAny_bind (wpAny_pure ?_)
   exact ends (SortSt.mk' general' (vs.toArray.zip vs.toArray) #[] 7 none) (zE vs) rfl
 . rw[if_neg h2,if_neg h2]
   have l2:2<=vs.length:=by omega
   have hv':∀(i:Nat) (v:Value) (q:Int×Int),vs[i]?=some v->ks[i]?=some q->QY (((z.heap.update a (Obj.mapSeq λ_=>#[])).push (seqObj "tuple" vs.toArray 0)).push (seqObj "list" #[] 0)) v q:=λi v q e1 e2=>(hv i v q e1 e2).keep kp
   obtain⟨fs,tf,lf,hf⟩:=Wj vs ks hl hv'
   refine wpAny_bind (kat_kind (T:=.type "int") tf (by omega) (λv q=>?_) rfl ?_)
   . obtain⟨i,t,rfl⟩:=hf v q
     exact Looks.of_pure rfl
   . have e:vs.toArray.zip vs.toArray=(List.toArray (List.range vs.length)).map (kas_item (pairsOf vs)):=by
       have:=kas_range (pairsOf vs)
       rw[pairsOf_size]at this
       exact this.symm
     rw[e]
     have run:kasC (model P w) B F sortRuns' (λ_ st z'=>z'={z with heap:=((z.heap.update a (Obj.mapSeq λ_=>#[])).push (seqObj "tuple" vs.toArray 0)).push (seqObj "list" #[] 0)}/\(arrOf st).map (·.2)=vs.toArray/\failedOf st=none)
         (kas_st (tuples' true) (pairsOf vs) (List.toArray (List.range vs.length))) {z with heap:=((z.heap.update a (Obj.mapSeq λ_=>#[])).push (seqObj "tuple" vs.toArray 0)).push (seqObj "list" #[] 0)}:=by
       refine Vn l2 (λi i1 i2 C hC=>?_) λst e1 e2=>⟨rfl,by rw[e1,<-e];exact zE vs,e2⟩
       unfold kas_cmp
       rw[kas_item_eq,kas_item_eq]
       have g:∀j,j < vs.length->vs[j]?=some (vs.getD j Value.none):=λj hj=>by simp [hj]
       have gk:∀j,j < vs.length->∃q,ks[j]?=some q:=λj hj=>⟨_,List.getElem?_eq_getElem (by omega)⟩
       obtain⟨q1,eq1⟩:=gk i i2
       obtain⟨q0,eq0⟩:=gk (i - 1) (by omega)
       have eq1':ks[i - 1+1]?=some q1:=by rw[show i - 1+1=i by omega];exact eq1
       exact YW (hv' i _ q1 (g i i2) eq1) (hv' (i - 1) _ q0 (g (i - 1) (by omega)) eq0) (hr (i - 1) q0 q1 eq0 eq1') hC
     refine wpAny_bind (wpAny_mono run (λr z' h3=>?_) λ_ _ x=>x)
     obtain⟨⟨⟩,st⟩:=r
     obtain⟨rfl,e1,e2⟩:=h3
     exact ends st e1 e2
end
end L2
set_option Elab.async false
set_option linter.all false
set_option maxRecDepth 100000
set_option maxHeartbeats 4000000
namespace PySem
def RawD (h:Heap) (d:Addr) (es:Array DictEntry) (ep:Nat):Prop:=∃o,h.get? d=some o/\o.ExactDict/\o.data=.dict es ep
theorem RawD.keep {h h':Heap} {d:Addr} {es:Array DictEntry} {ep:Nat} (x:RawD h d es ep) (k:∀o,h.get? d=some o->h'.get? d=some o):RawD h' d es ep:=let ⟨o,e,r⟩:=x;⟨o,k o e,r⟩
section
variable {P:Program} {w:World} {B:Around} {F':Value->Shared->Prop} {z:Shared} {d I:Addr} {es:Array DictEntry} {ep i:Nat}
theorem RawD.ty (x:RawD z.heap d es ep):z.TypeIs (.ref d) "dict":=let ⟨o,e,c,_⟩:=x;⟨o,e,c.1⟩
theorem UA {R:Value->Shared->Prop} (hd:(d==sysModules)=false) (x:RawD z.heap d es ep)
   (k:R (.ref z.heap.objs.size) {z with heap:=z.heap.push {cls:=.type "dict_keyiterator",data:=.fields #[.ref d,.int 0 0,.int es.size 0,.int ep 0]}}):wpAny (model P w) B (pyIter (.ref d)) R F' z:=by
 have ty:=x.ty
 obtain⟨o,ho,_,dat⟩:=x
 refine wpAny_pyIter_slot ty F.slot_dict_iter (wpAny_call_entry F.slot_dict_iter ty F.entry_dict_iter ?_ (F.args_dict_iter_1 _))
 unfold Builtin.«dict.__iter__»
 refine wpAny_bind (show wpAny _ _ (Builtin.Dict.dictSlotNone _ _) _ _ _ from ?_)
 unfold Builtin.Dict.dictSlotNone
 refine wpAny_bind (wpAny_notOrdered_dict ty (show wpAny _ _ (pure (Value.ref d)) _ _ z from wpAny_pure ?_))
 refine(show wpAny _ _ (Builtin.Dict.showsAll d >>= _) _ _ z from ?_)
 unfold Builtin.Dict.showsAll
 rw[if_neg (by rw[hd];exact Bool.false_ne_true)]
 refine wpAny_bind (wpAny_pure (wpAny_bind (wpAny_dictEntries ho dat (wpAny_bind (wpAny_dictEpoch ho dat ?_)))))
 exact wpAny_bind (wpAny_newObj_type (wpAny_pure ⟨_,rfl,"dict_keyiterator",_,⟨_,Heap.get?_push_size _ rfl,rfl⟩,F.slot_dict_keyiterator_next.lookup,by simpa [rawInt] using k⟩))
theorem Uz {R:Option Value->Shared->Prop} (hit:z.heap.IsKeyIter I d i es.size ep) (x:RawD z.heap d es ep) (hi:i < es.size)
   (k:∀h',h'.IsKeyIter I d (i+1) es.size ep->Heap.SameBut I z.heap h'->R (some es[i].key) {z with heap:=h'}):wpAny (model P w) B (pyNext (.ref I)) R F' z:=by
 obtain⟨o,ho,hc,hd⟩:=id hit
 obtain⟨od,hod,_,dat⟩:=x
 have ty:=hit.typeIs
 unfold pyNext
 refine wpAny_bind (wpAny_attempt (wpAny_callSpecial?_slot (name:=Str.ofString "__next__") ty F.slot_dict_keyiterator_next (wpAny_call_entry F.slot_dict_keyiterator_next ty F.entry_dict_keyiterator_next ?_ (F.args_dict_keyiterator_next_1 _))))
 refine wpAny_bind (wpAny_pure (wpAny_bind (wpAny_bind (wpAny_bind ?_))))
 first | refine wpAny_typeNameOfWhole_keyiter ty (wpAny_pure (wpAny_bind (wpAny_fieldsOf ho hd ?_))) | refine wpAny_typeNameOf_keyiter ty (wpAny_pure (wpAny_bind (wpAny_fieldsOf ho hd ?_)))
 have own:Builtin.Dict_items.ownsTuple "dict_keyiterator"=false:=by decide
 simp only[own,Bool.false_eq_true,if_false]
 show wpAny _ _ (if (Value.ref d==Value.none)=true then _ else _) _ _ z
 rw[if_neg (show ¬((Value.ref d==Value.none)=true) from Bool.false_ne_true)]
 refine wpAny_bind (wpAny_pure (wpAny_bind (wpAny_dictEntries hod dat ?_)))
 rw[if_neg (by simp)]
 refine wpAny_bind (wpAny_pure (wpAny_bind (wpAny_dictEpoch hod dat ?_)))
 rw[if_neg (by simp)]
 refine wpAny_pure ?_
 simp only[show ¬((i:Int) < 0) from by omega,if_false,Int.toNat_natCast,Array.getElem?_eq_getElem hi]
 refine wpAny_bind (wpAny_bind ?_)
 first | refine wpAny_typeNameOfWhole_keyiter ty (wpAny_pure (wpAny_bind (wpAny_isOneOf_keyiter ty ?_))) | refine wpAny_typeNameOf_keyiter ty (wpAny_pure (wpAny_bind (wpAny_isOneOf_keyiter ty ?_)))
 refine(show wpAny _ _ (setField (.ref I) 1 (rawInt ((i:Int)+1)) >>= _) _ _ z from wpAny_bind (wpAny_setField ho hd (by simp) ?_))
 have hit':(z.heap.update I (Obj.mapFields (·.setIfInBounds 1 (rawInt ((i:Int)+1))))).IsKeyIter I d (i+1) es.size ep:=
   ⟨_,Heap.get?_update_self _ ho (Obj.isFreed_of_fields (Obj.data_mapFields hd _)),(Obj.cls_mapFields ..).trans hc,by rw[Obj.data_mapFields hd];simp [rawInt]⟩
 refine wpAny_bind (wpAny_holding (wpAny_bind (wpAny_isOneOf_keyiter (s:={z with heap:=z.heap.update I (Obj.mapFields (·.setIfInBounds 1 (rawInt ((i:Int)+1))))}) hit'.typeIs ?_)))
 refine(show wpAny _ _ (pure es[i].key) _ _ _ from wpAny_pure (wpAny_pure ⟨_,rfl,wpAny_pure (k _ hit' (Heap.SameBut.update ..))⟩))
theorem ku {R:Option Value->Shared->Prop} (hB:B.handled=none) (hit:z.heap.IsKeyIter I d i es.size ep) (x:RawD z.heap d es ep) (hi:es.size<=i)
   (k:∀h',Heap.ExtBut I z.heap h'->R none {z with heap:=h'}):wpAny (model P w) B (pyNext (.ref I)) R F' z:=by
 obtain⟨o,ho,hc,hd⟩:=id hit
 obtain⟨od,hod,_,dat⟩:=x
 have ty:=hit.typeIs
 unfold pyNext
 refine wpAny_bind (wpAny_attempt (wpAny_callSpecial?_slot (name:=Str.ofString "__next__") ty F.slot_dict_keyiterator_next (wpAny_call_entry F.slot_dict_keyiterator_next ty F.entry_dict_keyiterator_next ?_ (F.args_dict_keyiterator_next_1 _))))
 refine wpAny_bind (wpAny_pure (wpAny_bind (wpAny_bind (wpAny_bind ?_))))
 first | refine wpAny_typeNameOfWhole_keyiter ty (wpAny_pure (wpAny_bind (wpAny_fieldsOf ho hd ?_))) | refine wpAny_typeNameOf_keyiter ty (wpAny_pure (wpAny_bind (wpAny_fieldsOf ho hd ?_)))
 have own:Builtin.Dict_items.ownsTuple "dict_keyiterator"=false:=by decide
 simp only[own,Bool.false_eq_true,if_false]
 show wpAny _ _ (if (Value.ref d==Value.none)=true then _ else _) _ _ z
 rw[if_neg (show ¬((Value.ref d==Value.none)=true) from Bool.false_ne_true)]
 refine wpAny_bind (wpAny_pure (wpAny_bind (wpAny_dictEntries hod dat ?_)))
 rw[if_neg (by simp)]
 refine wpAny_bind (wpAny_pure (wpAny_bind (wpAny_dictEpoch hod dat ?_)))
 rw[if_neg (by simp)]
 refine wpAny_pure ?_
 simp only[show ¬((i:Int) < 0) from by omega,if_false,Int.toNat_natCast,Array.getElem?_eq_none hi]
 refine wpAny_bind (wpAny_bind ?_)
 first | refine wpAny_typeNameOfWhole_keyiter ty (wpAny_pure ?_) | refine wpAny_typeNameOf_keyiter ty (wpAny_pure ?_)
 refine(show wpAny _ _ (setField (.ref I) 0 .none >>= _) _ _ z from wpAny_bind (wpAny_setField ho hd (by simp) ?_))
 refine(show wpAny _ _ (newExc (.type "StopIteration") [] >>= _) _ _ _ from wpAny_bind ?_)
 simp only[newExc,newTuple]
 refine wpAny_bind (wpAny_newObj_type (wpAny_bind (m:=firstArgMember _ _) (wpAny_of_eq (a:=Value.none) (by first | rfl | (simp only[firstArgMember];rfl)) (wpAny_newObj_type ?_ (by size_fits)))) (by size_fits))
 simp only[raiseNew]
 refine wpAny_bind (wpAny_handled ?_)
 rw[show B.in1.handled=none from hB]
 refine wpAny_bind (wpAny_pure (wpAny_throw ?_))
 refine wpAny_bind (wpAny_isInstance (T:="StopIteration") (b:=true) ⟨_,Heap.get?_push_size _ rfl,rfl⟩ isSubtype_stop ?_)
 exact wpAny_pure (k _ ((((Heap.SameBut.update ..).extBut).push _).push _))
end
end PySem
namespace PySem
open PySem.W
section
variable {P:Program} {w:World} {d:Addr} {es:Array DictEntry} {ep:Nat}
theorem Vo {B:Around} (hB:B.handled=none) (I:Addr) (hne:d≠I):Walks P w B I [I,d] [I] es.size (λi v=>∃h:i < es.size,v=es[i].key) (λi h=>h.IsKeyIter I d i es.size ep/\RawD h d es ep) where
 sub:=λb hb=>by simp at hb;simp [hb]
 frame:=λ_ _ _ st k=>⟨st.1.at λo e=>k I (by simp) o e,st.2.keep λo e=>k d (by simp) o e⟩
 item:=λi z R G hi st q=>Uz st.1 st.2 hi λh' it' sb=>q _ h' z.toks ⟨hi,rfl⟩ ⟨it',st.2.keep λo e=>sb.extBut d o hne e⟩ λb o hb e=>sb.extBut b o (λx=>hb (by simp [x])) e
 done:=λz R G st q=>ku hB st.1 st.2 (Nat.le_refl _) λh' eb=>q h' z.toks λb o hb e=>eb b o (λx=>hb (by simp [x])) e
 self:=λ_ _ _ _ st q=>wpAny_pyIter_keyiter st.1 q
theorem kt (hd:(d==sysModules)=false):KdlSrc P w "dict" d d es.size (λi v=>∃h:i < es.size,v=es[i].key) (λh=>RawD h d es ep) where
 type:=λz x=>x.ty
 there:=λh x=>let ⟨o,e,_⟩:=x;⟨Heap.lt_size e,Heap.lt_size e⟩
 keep:=λh h' x k=>x.keep λo e=>k d (.inl rfl) o e
 notList:=by decide
 notTuple:=by decide
 hint:=λ_ _ _ _ x q=>kdl_hint_dict x.ty q
 iter:=λA z hh x=>⟨_,_,λE Q q=>UA hd x q,Vo hh _ (let ⟨o,e,_⟩:=x;Nat.ne_of_lt (Heap.lt_size e)),⟨⟨_,Heap.get?_push_size _ rfl,rfl,rfl⟩,x.keep λo e=>Heap.get?_push_of_some _ e⟩⟩
end
end PySem
namespace L2
open PySem PySem.Spec PySem.W PyProof.Rows
theorem Jy {α β:Type} {G:α->β->Prop}:∀{l:List α} {m:List β},Paired G l m->∀{i:Nat} {a:α},l[i]?=some a->∃b,m[i]?=some b/\G a b
 | _,_,.nil,i,a,e=>by simp at e
 | _,_,.cons r t,0,a,e=>by cases e;exact⟨_,rfl,r⟩
 | _,_,.cons r t,i+1,a,e=>by
   obtain⟨b,eb,g⟩:=Jy t (by simpa using e)
   exact⟨b,by simpa using eb,g⟩
section
variable {X:Cx}
def Zx (k:Int×Int):List qP:=[Sum.inl k.1,Sum.inl k.2]
def xf:List V->Hp->VK->Prop:=λxs H Q=>∃(a:Addr) (kvs:List (List qP×V)) (ks:List (Int×Int)),xs=[.ref a]/\H a=some (.dT kvs)/\kvs.map (·.1)=ks.map Zx/\(∀(i:Nat) (k k':Int×Int),ks[i]?=some k->ks[i+1]?=some k'->zd k k')/\kvs.length<=1000/\
 ∀(l:Addr) (ps:List Addr),H l=none->ps.length=ks.length->(∀(i:Nat) (p:Addr) (k:Int×Int),ps[i]?=some p->ks[i]?=some k->H p=some (.tup [.int k.1,.int k.2]))->Q (.ref l) (upd H l (.lst (ps.map V.ref)))
theorem YH:∀(ps:List Addr),qD (ps.map V.ref) (ps.map Value.ref)
 | []=>.nil
 | p::ps=>.cons rfl (YH ps)
theorem Wc (hc:X.calm=true):jX X (.builtin "sorted") xf:=by
 intro pins s σ H xs us Q I r h
 obtain⟨a,kvs,ks,rfl,ea,eks,hr,hz,q⟩:=h
 obtain⟨u,rfl,ru⟩:=Qz r
 cases ru
 obtain⟨_,hsys,ys,pr,o,es,ep,eo,ex,dat,ents,_⟩:=(show qx X.prog X.w H s.heap a (.dT kvs) from I.hok a _ ea)
 have ly:kvs.length=ys.length:=Paired.length pr
 have lk:kvs.length=ks.length:=by simpa using congrArg List.length eks
 have se:es.size=ys.length:=by rw[<-Array.length_toList,ents,List.length_map]
 have key:∀i (hi:i < es.size),es[i].key=.ref ((ys.map (·.2.1)).getD i 0):=λi hi=>by
   have e1:es.toList[i]?=some es[i]:=by simp [hi]
   have hy:i < ys.length:=by omega
   rw[ents,List.getElem?_map,List.getElem?_eq_getElem hy]at e1
   have e2:=(Option.some.inj e1).symm
   rw[e2]
   show Value.ref ys[i].2.1=_
   simp [hy]
 have tup:∀(i:Nat) (p:Addr) (k:Int×Int),(ys.map (·.2.1))[i]?=some p->ks[i]?=some k->H p=some (.tup [.int k.1,.int k.2]):=λi p k e1 e2=>by
   rw[List.getElem?_map]at e1
   cases ey:ys[i]? with
   | none=>rw[ey]at e1;cases e1
   | some y=>
     rw[ey]at e1
     have ep':y.2.1=p:=Option.some.inj e1
     have hi:i < kvs.length:=by
       have:=(List.getElem?_eq_some_iff.mp ey).1
       omega
     obtain⟨y',ey',g1,g2,_⟩:=Jy pr (List.getElem?_eq_getElem hi)
     rw[ey]at ey'
     cases ey'
     have ek:kvs[i].1=Zx k:=by
       have h1:(kvs.map (·.1))[i]?=some kvs[i].1:=by rw[List.getElem?_map,List.getElem?_eq_getElem hi];rfl
       rw[eks,List.getElem?_map,e2]at h1
       exact(Option.some.inj h1).symm
     rw[ek,ep']at g2
     exact g2
 have hh:X.A.in1.handled=none:=I.ok.hd hc
 refine Calls.call_function_entry kind_sorted plain_sorted entry_sorted (args_sorted1 _) ?_
 unfold Builtin.«sorted»
 refine wpAny_bind (m:=checkCount "sorted" 1 1 _) (wpAny_pure ?_)
 refine wpAny_bind (kdu_collect (kt (es:=es) (ep:=ep) hsys) hh ⟨o,eo,ex,dat⟩ (by rw[se,sizeLine_eq];omega) λh1 tk acc k1 it=>?_)
 have eacc:acc.toList=(ys.map (·.2.1)).map Value.ref:=by
   refine List.ext_getElem? λi=>?_
   by_cases hi:i < es.size
   . have ha:i < acc.size:=by rw[it.1];exact hi
     have e1:acc[i]?=some acc[i]:=Array.getElem?_eq_getElem ha
     obtain⟨h',e2⟩:=it.2 i _ e1
     rw[Array.getElem?_toList,e1,e2,key i hi,List.getElem?_map]
     have hy:i < (ys.map (·.2.1)).length:=by rw[List.length_map];omega
     rw[List.getElem?_eq_getElem hy]
     simp [List.getD_eq_getElem?_getD,List.getElem?_eq_getElem hy]
   . rw[List.getElem?_eq_none (by rw[Array.length_toList,it.1];omega),List.getElem?_eq_none (by rw[List.length_map,List.length_map];omega)]
 rw[eacc]
 generalize hps:ys.map (·.2.1)=ps at eacc tup key
 have lp:ps.length=ks.length:=by rw[<-hps,List.length_map];omega
 refine wpAny_bind (wpAny_newList ?_)
 have I1:qu X pins σ H {s with heap:=h1,toks:=tk}:=I.kept (t':=tk) k1
 show wpAny _ _ _ _ _ {s with heap:=h1.push (seqObj "list" (ps.map Value.ref).toArray 0),toks:=tk}
 have oL:(h1.push (seqObj "list" (ps.map Value.ref).toArray 0)).get? h1.objs.size=some (seqObj "list" (ps.map Value.ref).toArray 0):=Heap.get?_push_size _ rfl
 have pa:∀(i:Nat) (v:Value) (k:Int×Int),(ps.map Value.ref)[i]?=some v->ks[i]?=some k->QY (h1.push (seqObj "list" (ps.map Value.ref).toArray 0)) v k:=λi v k e1 e2=>by
   rw[List.getElem?_map]at e1
   cases ep1:ps[i]? with
   | none=>rw[ep1]at e1;cases e1
   | some p=>
     rw[ep1]at e1
     obtain rfl:=(Option.some.inj e1).symm
     obtain⟨its,rv,⟨ob,eb,cb,nb,db⟩,_⟩:=I1.tuple (.of (tup i p k ep1 e2):SqT X.K H p _)
     cases rv with
     | cons r1 rv=>
       cases rv with
       | cons r2 rv=>
         cases rv
         obtain⟨t1,rfl⟩:=r1
         obtain⟨t2,rfl⟩:=r2
         exact⟨p,ob,nb,t1,t2,rfl,Heap.get?_push_of_some _ eb,cb,db⟩
 refine wpAny_bind (wpAny_holding (wpAny_call_entry slot_list_sort ⟨_,oL,rfl⟩ entry_list_sort (Ve oL (by rw[List.length_map];exact lp) pa hr (by rw[List.length_map];omega) ⟨_,rfl,?_⟩) (args_list_sort _)))
 refine wpAny_pure ⟨_,rfl,?_⟩
 have lne:∀b o,h1.get? b=some o->b≠h1.objs.size:=λb o e=>Nat.ne_of_lt (Heap.lt_size e)
 have kf:∀b o,h1.get? b=some o->(sortedHeap (h1.push (seqObj "list" (ps.map Value.ref).toArray 0)) h1.objs.size (ps.map Value.ref) (ps.map Value.ref).toArray).get? b=some o:=λb o e=>by
   unfold sortedHeap
   rw[Heap.get?_update_other _ _ (Ne.symm (lne b o e))]
   exact Heap.get?_push_of_some _ (Heap.get?_push_of_some _ ((Heap.get?_update_other _ _ (Ne.symm (lne b o e))).trans (Heap.get?_push_of_some _ e)))
 obtain⟨c2,o2⟩:∃c,((h1.push (seqObj "list" (ps.map Value.ref).toArray 0)).update h1.objs.size (Obj.mapSeq λ_=>#[])).get? h1.objs.size=some (seqObj "list" #[] c):=⟨_,get?_update_seq oL (λ_=>#[])⟩
 obtain⟨c3,o3⟩:∃c,(sortedHeap (h1.push (seqObj "list" (ps.map Value.ref).toArray 0)) h1.objs.size (ps.map Value.ref) (ps.map Value.ref).toArray).get? h1.objs.size=some (seqObj "list" (ps.map Value.ref).toArray c):=
   ⟨_,get?_update_seq (Heap.get?_push_of_some _ (Heap.get?_push_of_some _ o2)) (λ_=>(ps.map Value.ref).toArray)⟩
 refine⟨.ref h1.objs.size,_,I1.laid (t':=tk) (o:=.lst (ps.map V.ref)) kf (Nat.le_refl _) ⟨by rw[List.length_map,lp,<-lk];exact Nat.le_of_lt (qw hz),_,c3,YH ps,o3⟩,rfl,?_⟩
 exact q _ ps (I1.hok.fresh (Nat.le_refl _)) lp tup
end
end L2
set_option Elab.async false
set_option linter.all false
set_option maxRecDepth 100000
set_option maxHeartbeats 4000000
namespace L2
open PySem PySem.Spec PySem.W PyProof.Rows
section
variable {X:Cx}
def KE:V->Option Int->Option Int->Hp->VK->Prop:=λx lo hi H Q=>∃(z:Str) (j:Int),x=.str z/\lo=none/\hi=some j/\z.length<=1000/\Q (.str (Txt.slice z none (some j))) H
theorem Uo:Ki X KE:=by
 intro pins s σ H x v vl vu lo hi sl Q I rx hs pl pu h
 obtain⟨z,j,rfl,rfl,rfl,hz,q⟩:=h
 obtain⟨t,rfl⟩:=rx
 refine⟨"str",_,PySem.F.slot_str_getitem.lookup,typeIs_str _ _ _,?_⟩
 cases pl
 cases pu
 exact wpAny_getItem_str_slice (l:=none) (u:=some (j,_)) (st:=none) hs rfl (post_val_or_str ⟨Nat.le_trans (Txt.slice_le z none (some j)) (Nat.le_of_lt (qw hz)),λt' k=>⟨.str _,H,I.tok k,⟨t',rfl⟩,q⟩⟩)
theorem Z1 (z:Str) (j:Nat):(Txt.slice z none (some (j:Int))).cps.toList=z.cps.toList.take j:=by
 have hl:z.cps.toList.length=z.length:=Array.length_toList
 have idx:Builtin.Str.strSliceIndices none (some (j:Int)) 1 z.length=(List.range (min j z.length)).map (0+·):=by
   have e:Builtin.Str.strSliceIndices none (some (j:Int)) 1 z.length=sliceRange ((0:Nat):Int) ((min j z.length:Nat):Int) 1:=by
     unfold Builtin.Str.strSliceIndices
     simp only[show (1:Int) > 0 by decide,if_true,show ¬((j:Int) < 0) by omega,if_false]
     congr 1
     omega
   rw[e,sliceRange_one]
   rfl
 unfold Txt.slice
 rw[idx]
 split
 . rename_i h
   have hm:min j z.length=z.length:=by simpa using h
   rw[List.take_of_length_le]
   omega
 . rw[pick_run]
   show (z.cps.toList.drop 0).take (min j z.length)=_
   rw[List.drop_zero]
   by_cases hj:j<=z.length
   . rw[Nat.min_eq_left hj]
   . rw[Nat.min_eq_right (by omega),List.take_of_length_le (by omega),List.take_of_length_le (by omega)]
def yq (n:Nat):List V:=(List.range n).map λi=>V.int (i:Nat)
def tLr (te:TE):TE:=λσ H Q=>te σ H λx H1=>∃n:Nat,x=.int n/\n<=1000/\∀l,H1 l=none->Q (.ref l) (upd H1 l (.lst (yq n)))
theorem vQ {n:Nat} {acc:Array Value} (h:ItemsOf (λi v=>∃t,v=.int (0+i*1) t) acc n):qD (yq n) acc.toList:=by
 obtain⟨hz,hv⟩:=h
 refine Vr _ _ (by simp [yq,hz]) λi x u h1 h2=>?_
 have h2':acc[i]?=some u:=by simpa using h2
 obtain⟨t,rfl⟩:=hv i u h2'
 have hi:i < n:=by
   have:=(Array.getElem?_eq_some_iff.mp h2').1
   omega
 unfold yq at h1
 rw[List.getElem?_map,List.getElem?_range hi]at h1
 obtain rfl:=(Option.some.inj h1).symm
 refine⟨t,?_⟩
 congr 1
 omega
variable {e:Expr} {te:TE} {p1 p3 pos1 pos3:Pos}
theorem uE (hc:X.calm=true) (g1:Gl X "list") (m1:X.mg "list"=none) (g3:Gl X "range") (m3:X.mg "range"=none) (ha:JE X e te) (hs:starEach [e] X.env=[(false,eval e X.env)]:=by rfl) (hs2:starEach [.Call (.Name "range" p3) [e] [] pos3] X.env=[(false,eval (.Call (.Name "range" p3) [e] [] pos3) X.env)]:=by rfl):JE X (.Call (.Name "list" p1) [.Call (.Name "range" p3) [e] [] pos3] [] pos1) (tLr te):=.of (by
 have ha:=ha.to
 intro pins s σ H Q I h
 refine Call_ (Qt I g1 m1 boot_list (PyProof.Rows.callWith_type1 (Ui hs2 ?_) (by rw[hs2];rfl) rfl))
 refine Call_ (Qt I g3 m3 boot_range (PyProof.Rows.callWith_type1 (Ui hs (qY (ha pins s σ H _ I h) λu s1 ⟨x,H1,I1,r1,q1⟩=>?_)) (by rw[hs];rfl) rfl))
 obtain⟨n,rfl,hn,q⟩:=q1
 obtain⟨t,rfl⟩:=r1
 refine call_range_1 ?_
 refine call_list_range (n:=n) (I1.ok.hd hc) (IsRange.new ..) (small_one (by omega) (by omega) (by omega) (by omega)) (WD n) (by omega) λh' tk acc' c' kp e hi=>?_
 have s1z:s1.heap.objs.size<=(s1.heap.push ({cls:=.type "range",data:=.fields #[.int 0 s1.toks,.int n t,.int 1 (s1.toks+1)]}:Obj)).objs.size:=by
   rw[Heap.size_push]
   omega
 exact⟨.ref _,_,I1.laid (t':=tk) (o:=.lst (yq n)) (λb o eb=>kp b o (Heap.get?_push_of_some _ eb)) s1z ⟨by simp only[yq,List.length_map,List.length_range];exact Nat.le_of_lt (qw hn),acc'.toList,c',vQ hi,by simpa using e⟩,rfl,q _ (I1.hok.fresh s1z)⟩)
theorem V2 (hc:X.calm=true):jX X (.type "set") (λxs H Q=>∃(p:Addr) (ns:List Int),xs=[.ref p]/\SqL X.K H p (ns.map V.int)/\ns.length<=1000/\∀l S,H l=none->Q (.ref l) (upd H l (.set S (firstMet (λi=>ns.getD i 0) ns.length).length))):=by
 intro pins s σ H xs us Q I r h
 obtain⟨p,ns,rfl,hq,hz,q⟩:=h
 obtain⟨u,rfl,ru⟩:=Qz r
 cases ru
 obtain⟨its,rv,pl,_⟩:=I.list hq
 have hl:=rv.length
 rw[List.length_map]at hl
 have hsz:its.toArray.size=ns.length:=by rw[List.size_toArray,<-hl]
 refine call_set_list (ns:=ns) (I.ok.hd hc) pl.isList (by simpa using X5 rv) (by rw[hsz];show ns.length+1 < 4096;omega) λh' tk so kp=>?_
 rw[hsz]at so
 exact⟨.ref s.heap.objs.size,_,I.laid (t':=tk) (o:=.set _ _) (λb o e=>kp b o (Heap.lt_size e) e) (Nat.le_refl _) so,rfl,q _ _ (I.hok.fresh (Nat.le_refl _))⟩
theorem Xj:jX X (.builtin "len") (λxs H Q=>∃a S n,xs=[V.ref a]/\H a=some (.set S n)/\Q (.int (n:Nat)) H):=by
 intro pins s σ H xs us Q I r h
 obtain⟨a,S,n,rfl,ea,q⟩:=h
 obtain⟨u,rfl,ru⟩:=Qz r
 cases ru
 obtain⟨o,es,ep,t,e1,e2,e3,_,_,b,f,rfl⟩:=(show qx X.prog X.w H s.heap a (.set S n) from I.hok a _ ea)
 refine call_len_set e1 e2 e3 f (by have:es.size < 4096:=b;omega) ⟨.int _,H,I.tok _,⟨_,rfl⟩,q⟩
end
end L2
set_option Elab.async false
set_option linter.all false
set_option maxRecDepth 100000
set_option maxHeartbeats 4000000
namespace L2
open PySem PySem.Spec PyProof.Rows
def uU (K:PySem.W.Frag) (a:Addr):It:=⟨λi H=>∃xs x,SqL K H a xs/\xs[i]?=some x,
 λi H v H'=>∃p,H p=none/\v=.ref p/\∀xs x,SqL K H a xs->xs[i]?=some x->H'=upd H p (.tup [.int (i:Nat),x]),
 λi H=>∃xs,SqL K H a xs/\xs.length<=i⟩
theorem Va {P:Program} {w:World} {K:PySem.W.Frag} {elts:List Expr} {x1:Nat} {tpos:Pos} (a e it:Addr) (hne:e≠it):
   Wd P w K (.Tuple elts x1 tpos) (uU K a) [e,it] e (λi h=>(∃old,IsEnum h e it i old)/\h.IsListIter it a i) where
 mem:=by simp
 obj:=λi h st c hc=>by
   obtain⟨⟨old,he⟩,⟨o1,e1,c1,d1⟩⟩:=st
   simp only[List.mem_cons,List.mem_nil_iff,or_false]at hc
   rcases hc with rfl | rfl
   . exact⟨_,he,λv z=>by cases z⟩
   . exact⟨o1,e1,λv z=>by rw[d1]at z;cases z⟩
 keep:=λi h h' st k=>by
   obtain⟨⟨old,he⟩,h1⟩:=st
   exact⟨⟨old,k e (by simp) _ he⟩,h1.at λo e=>k it (by simp) o e⟩
 item:=by
   intro X hP hw hK hc i pins s σ H E I hf st hg
   subst hP hw hK
   obtain⟨⟨old,he⟩,h1⟩:=st
   obtain⟨xs,x,qa,hx⟩:=hg
   obtain⟨its,rv,p,_⟩:=I.list qa
   obtain⟨u,hu,ru⟩:=rv.get hx
   refine wpAny_pyNext_enum_item he h1 p.isList (x:=u) (by simpa using hu) hne λh' z1 z2 z3 z4 kk=>⟨_,rfl,?_⟩
   refine wpAny_letOwnedTupleGo_enum z1 λh'' z1' sb=>?_
   have nT:∀c o,s.heap.get? c=some o->s.heap.objs.size≠c:=λc o e=>Nat.ne_of_gt (Heap.lt_size e)
   have kT:∀c o,c≠e->h'.get? c=some o->h''.get? c=some o:=λc o hc e=>(sb.2 c hc).trans e
   have I1:qu X pins σ (upd H s.heap.objs.size (.tup [.int (i:Nat),x])) {s with heap:=h'',toks:=s.toks+1}:=I.turnLaid (L:=[e,it]) (t':=s.toks+1)
     (λc o hc e=>kT c o (λz=>hc (by simp [z])) (kk c o (λz=>hc (by simp [z])) (λz=>hc (by simp [z])) e)) hf (Nat.le_refl _)
     ⟨by show 2<=sizeLine;decide,[.int i s.toks,u],.cons ⟨_,rfl⟩ (.cons ru .nil),⟨_,kT _ _ (nT _ _ he) z3,rfl,_,rfl⟩⟩
   refine⟨.ref s.heap.objs.size,_,I1,rfl,⟨s.heap.objs.size,I.hok.fresh (Nat.le_refl _),rfl,λxs' x' qa' hx'=>?_⟩,⟨⟨_,z1'⟩,z2.at λo e=>kT _ o (Ne.symm hne) e⟩,λc hc=>?_⟩
   . rw[I.list_inj qa' qa,hx]at hx'
     cases hx'
     rfl
   . have h0:=(hf c hc).1
     by_cases ec:c=s.heap.objs.size
     . subst ec
       obtain⟨o1,e1,_⟩:=h1
       simp only[List.mem_cons,List.mem_nil_iff,or_false]at hc
       rcases hc with e | e
       . exact absurd e (nT _ _ he)
       . exact absurd e (nT _ _ e1)
     . rw[qf ec];exact h0
 done:=by
   intro X hP hw hK hc i pins s σ H E I hf st hg
   subst hP hw hK
   obtain⟨⟨old,he⟩,h1⟩:=st
   obtain⟨xs,qa,hl⟩:=hg
   obtain⟨its,rv,p,_⟩:=I.list qa
   have l1:=rv.length
   exact wpAny_pyNext_enum_end (I.ok.hd hc) he h1 p.isList (by simp;omega) λh' kk=>⟨rfl,I.turnedL (L:=[e,it]) (t':=s.toks) (λc o hc e=>kk c o (λz=>hc (by simp [z])) e) hf⟩
 self:=λ_ _ _ _ _ st h=>let ⟨⟨_,he⟩,_⟩:=st;wpAny_pyIter_enum he h
section
variable {X:Cx} {elts:List Expr} {x1:Nat} {tpos:Pos}
def uI (K:PySem.W.Frag) (ta:TA):TI:=λσ H R=>ta σ H λvs H1=>∃a,vs=[.ref a]/\(∃xs,SqL K H1 a xs)/\R (uU K a) H1
theorem WQ {a:Expr} {ta:TA} {p pos:Pos} (hg:Gl X "enumerate") (hm:X.mg "enumerate"=none) (ha:JA X [a] ta) (hs:starEach [a] X.env=[(false,eval a X.env)]:=by rfl):JI X (.Tuple elts x1 tpos) (.Call (.Name "enumerate" p) [a] [] pos) (uI X.K ta):=.of (by
 have ha:=ha.to
 intro pins s σ H R I h
 refine Call_ (Qt I hg hm boot_enumerate (PyProof.Rows.callWith_type1 (qY (ha pos pins s σ H _ I h) λus s1 ⟨vs,H1,I1,r1,q1⟩=>?_) (by rw[hs];rfl) rfl))
 obtain⟨l,e,⟨xs,qa⟩,q⟩:=q1
 subst e
 cases r1 with
 | cons r rr=>
   cases rr
   cases r
   obtain⟨its,rv,p,_⟩:=I1.list qa
   refine call_enumerate_list p.isList λh' z1 z2 z3 kk=>?_
   refine wpAny_pyIter_enum z1 ?_
   have I2:qu X pins σ H1 {s1 with heap:=h'}:=I1.kept (t':=s1.toks) kk
   have fr:∀c,s1.heap.objs.size<=c->JJ X pins H1 c:=λc hc=>I1.fpOk hc (I1.hok.fresh hc)
   refine⟨s1.heap.objs.size+1,[s1.heap.objs.size+1,s1.heap.objs.size],_,_,H1,rfl,I2,Va l (s1.heap.objs.size+1) s1.heap.objs.size (Nat.succ_ne_self _),⟨⟨_,z1⟩,z2⟩,λc hc=>?_,q⟩
   simp only[List.mem_cons,List.mem_nil_iff,or_false]at hc
   rcases hc with e | e<;>rw[e]<;>first | exact fr _ (Nat.le_add_right _ _) | exact fr _ (Nat.le_refl _))
end
theorem Xa {K:PySem.W.Frag} {a:Addr} {xs:List V} {g:TG} {tb:TS} {D:Qx} {σ:St} {H:Hp} (Pv:Nat->St->Hp->Prop) (h0:Pv 0 σ H) (hl:∀i σ H,i<=xs.length->Pv i σ H->SqL K H a xs)
   (hs:∀i x σ H p,xs[i]?=some x->H p=none->Pv i σ H->g (.ref p) σ (upd H p (.tup [.int (i:Nat),x])) λσ2 H2=>tb {D with nx:=Pv (i+1),ct:=Pv (i+1),bk:=D.nx} σ2 H2) (hd:∀σ H,Pv xs.length σ H->D.nx σ H):
   ∃W:Nat->Nat->St->Hp->Prop,(∃m,W 0 m σ H)/\∀i m σ H,W i m σ H->
    ((uU K a).stop i H/\D.nx σ H)\/((uU K a).go i H/\∃N:St->Hp->Prop,(∀σ' H',N σ' H'->∃m',m' < m/\W (i+1) m' σ' H')/\∀x H',(uU K a).yld i H x H'->g x σ H' λσ2 H2=>tb {D with nx:=N,ct:=N,bk:=D.nx} σ2 H2):=by
 refine⟨λi m σ H=>m=xs.length - i/\i<=xs.length/\Pv i σ H,⟨xs.length,by simp,Nat.zero_le _,h0⟩,?_⟩
 rintro i m σ H ⟨rfl,hi,p⟩
 have qa:=hl i σ H hi p
 by_cases hlt:i < xs.length
 . have ex:xs[i]?=some xs[i]:=List.getElem?_eq_getElem hlt
   refine .inr ⟨⟨xs,_,qa,ex⟩,Pv (i+1),λσ' H' p'=>⟨xs.length - (i+1),by omega,rfl,hlt,p'⟩,λx H' yl=>?_⟩
   obtain⟨pp,hp,rfl,e⟩:=yl
   rw[e xs _ qa ex]
   exact hs i _ σ H pp ex hp p
 . have e:i=xs.length:=by omega
   subst e
   exact .inl ⟨⟨xs,qa,Nat.le_refl _⟩,hd σ H p⟩
theorem Ja (ns:List Nat):∀i,i<=ns.length->preSum (λj=>((ns.getD j 0:Nat):Int)) i=(((ns.take i).sum:Nat):Int)
 | 0,_=>by simp [preSum]
 | i+1,h=>by
   have hi:i < ns.length:=h
   show preSum _ i+_=_
   rw[Ja ns i (Nat.le_of_lt hi),List.take_add_one,List.getElem?_eq_getElem hi,List.sum_append]
   simp [List.getD_eq_getElem?_getD,List.getElem?_eq_getElem hi]
theorem Zw (ns:List Nat) (i:Nat):(ns.take i).sum<=ns.sum:=by
 have h:(ns.take i++ns.drop i).sum=ns.sum:=by rw[List.take_append_drop]
 rw[List.sum_append]at h
 omega
theorem Y9 (ns:List Nat) (i:Nat):ns.getD i 0<=ns.sum:=by
 have h:=Zw ns (i+1)
 rw[List.take_add_one,List.sum_append]at h
 rw[List.getD_eq_getElem?_getD]
 cases e:ns[i]? with
 | none=>exact Nat.zero_le _
 | some x=>
   rw[e]at h
   simp at h ⊢
   omega
section
variable {X:Cx}
theorem V1 (hc:X.calm=true):jX X (.builtin "sum") (λxs H Q=>∃(p:Addr) (ns:List Nat),xs=[.ref p]/\SqL X.K H p (ns.map λn=>V.int ((n:Nat):Int))/\ns.sum < 2^62/\Q (.int (ns.sum:Nat)) H):=by
 intro pins s σ H xs us Q I r h
 obtain⟨p,ns,rfl,hq,hs,q⟩:=h
 obtain⟨u,rfl,rx⟩:=Qz r
 cases rx
 obtain⟨its,rv,pl,hz⟩:=I.list hq
 have hlt:p < s.heap.objs.size:=by
   obtain⟨o,n,e,_⟩:=pl
   exact Heap.lt_size e
 have hn:its.toArray.size=ns.length:=by
   have:=rv.length
   rw[List.length_map]at this
   simp only[List.size_toArray]
   omega
 have hh:X.A.in1.handled=none:=I.ok.hd hc
 refine call_sum_walk (wpAny_pyIter_list pl.isList ?_)
 refine⟨s.heap.objs.size,[s.heap.objs.size,p],[s.heap.objs.size],its.toArray.size,λi v=>its.toArray[i]?=some v,_,λj=>((ns.getD j 0:Nat):Int),rfl,Walks.list hh s.heap.objs.size p (Nat.ne_of_lt hlt) its.toArray,
   ⟨⟨_,Heap.get?_push_size _ rfl,rfl,rfl⟩,pl.isList.at λo e=>Heap.get?_push_of_some _ e⟩,?_,?_,?_,λh' tk t' hk=>?_⟩
 . intro b hb
   show b < (s.heap.push _).objs.size
   rw[Heap.size_push]
   simp only[List.mem_cons,List.mem_nil_iff,or_false]at hb
   rcases hb with e | e
   . rw[e];exact Nat.lt_succ_self _
   . rw[e];exact Nat.lt_succ_of_lt hlt
 . intro i v hP
   have hi:its[i]?=some v:=by simpa using hP
   cases e:ns[i]? with
   | none=>
     exfalso
     have h1:(ns.map λn=>V.int ((n:Nat):Int))[i]?=none:=by rw[List.getElem?_map,e];rfl
     rw[qD.none_of rv h1]at hi
     cases hi
   | some b=>
     have h1:(ns.map λn=>V.int ((n:Nat):Int))[i]?=some (V.int b):=by rw[List.getElem?_map,e];rfl
     obtain⟨u,hu,ru⟩:=rv.get h1
     rw[hi]at hu
     cases hu
     obtain⟨t,rfl⟩:=ru
     refine⟨t,?_⟩
     show Value.int b t=.int ((ns.getD i 0:Nat):Int) t
     rw[List.getD_eq_getElem?_getD,e]
     rfl
 . intro j hj
   rw[hn]at hj
   have h1:=Y9 ns j
   have h2:=Zw ns (j+1)
   have h3:=Ja ns (j+1) hj
   refine⟨⟨?_,?_⟩,⟨?_,?_⟩⟩
   . show -(2^63)<=((ns.getD j 0:Nat):Int)
     omega
   . show ((ns.getD j 0:Nat):Int) < 2^63
     omega
   . rw[h3];omega
   . rw[h3];omega
 . rw[hn,Ja ns _ (Nat.le_refl _),List.take_of_length_le (Nat.le_refl _)]
   refine⟨.int (ns.sum:Nat),H,?_,⟨_,rfl⟩,q⟩
   exact I.kept (h':=h') (t':=tk) λb o e=>hk b o (by
     intro z
     have z':b=s.heap.objs.size:=by simpa using z
     exact absurd (Heap.lt_size e) (by rw[z'];exact Nat.lt_irrefl _)) (Heap.get?_push_of_some _ e)
end
end L2
set_option Elab.async false
set_option linter.all false
set_option maxRecDepth 100000
set_option maxHeartbeats 4000000
namespace L2
open PySem PySem.Spec PyProof.Rows
structure Xu (fs:List Addr) (ex:List Addr) (h h':Heap):Prop where
 keep:∀b o,b∉fs->b∉ex->h.get? b=some o->h'.get? b=some o
 slot:∀b o,b∈fs->b∉ex->h.get? b=some o->∃sl,h'.get? b=some {o with slots:=sl}
def vJ (T:Addr) (fl:Value) (h:Heap):Prop:=∃ts,h.get? T=some {cls:=.type "traceback",data:=.fields ts}/\ts[3]?=some fl
section
variable {M:Model} {A:Around} {E:Value->Shared->Prop} {s:Shared} {base:Heap} {env:Env} {outer:List Env} {L e:Addr} {cl head:Value} {d:Option Addr} {vs:Array Value} {had:Bool} {Q:Unit->Shared->Prop}
theorem Ua (fr:A.frames=some (env::outer)) (ff:s.heap.FunFrames base (env::outer)) (fm:env.frame=some L)
   (he:s.heap.get? e=some {cls:=cl,dict:=d,data:=.fields vs}) (sz:1 < vs.size)
   (k:∀h' T,s.heap.objs.size<=T->Xu (Zc (env::outer)) [e] s.heap h'->h'.get? e=some {cls:=cl,dict:=d,data:=.fields (vs.setIfInBounds 1 (.ref T))}->vJ T (rawInt L) h'->Q () {s with heap:=h'}):
   wpAny M A (frameOf env >>= λa=>entryPlaceOf L had >>= λpl=>EntryCells.newEntry head a .none (rawInt L) .none pl >>= λb=>setField (.ref e) 1 b) Q E s:=by
 have out:e∉Zc (env::outer):=λz=>by
   obtain⟨_,o,ho,nf⟩:=ff.mem z
   rw[he]at ho
   cases ho
   exact nf vs rfl
 refine wpAny_bind (wpAny_frameOf_fun fr ff fm λh1 so=>?_)
 refine wpAny_bind (wpAny_entryPlaceOf λpl ip=>?_)
 have e1:h1.get? e=some {cls:=cl,dict:=d,data:=.fields vs}:=(so.2.1 e out).trans he
 unfold EntryCells.newEntry newFields
 refine wpAny_bind (wpAny_newObj_type ?_ (ip.sizeOk5 _ _ _ _ _))
 have ne:e≠h1.objs.size:=Nat.ne_of_lt (Heap.lt_size e1)
 refine wpAny_setField (Heap.get?_push_of_some _ e1) rfl sz (k _ h1.objs.size (Nat.le_of_eq so.1.symm) ⟨λb o n1 n2 q=>?_,λb o n1 n2 q=>?_⟩ ?_ ⟨_,(Heap.get?_update_other _ _ ne).trans (Heap.get?_push_size _ rfl),?_⟩)
 . have n3:b≠e:=λz=>n2 (by simp [z])
   rw[Heap.get?_update_other _ _ (Ne.symm n3)]
   exact Heap.get?_push_of_some _ ((so.2.1 b n1).trans q)
 . have n3:b≠e:=λz=>n2 (by simp [z])
   obtain⟨sl,r⟩:=so.2.2 b o q
   exact⟨sl,by rw[Heap.get?_update_other _ _ (Ne.symm n3)];exact Heap.get?_push_of_some _ r⟩
 . exact Heap.get?_update_self _ (Heap.get?_push_of_some _ e1) rfl
 . rcases ip with rfl | ⟨_,_,_,_,_,_,_,rfl⟩<;>simp
theorem Y2 (fr:A.frames=some (env::outer)) (ff:s.heap.FunFrames base (env::outer)) (fm:env.frame=some L)
   (he:s.heap.get? e=some {cls:=cl,dict:=d,data:=.fields vs}) (h1:vs[1]?=some .none)
   (k:∀h' T,s.heap.objs.size<=T->Xu (Zc (env::outer)) [e] s.heap h'->h'.get? e=some {cls:=cl,dict:=d,data:=.fields (vs.setIfInBounds 1 (.ref T))}->vJ T (rawInt L) h'->Q () {s with heap:=h'}):
   wpAny M A (noteFrame (.ref e) env) Q E s:=by
 unfold noteFrame
 simp only[fm]
 refine wpAny_bind (wpAny_field he rfl h1 ?_)
 rw[if_neg (show ¬((Value.none != Value.none)=true) by decide)]
 exact Ua fr ff fm he (Array.getElem?_eq_some_iff.mp h1).1 k
theorem VD {T:Addr} (fm:env.frame=some L) (he:s.heap.get? e=some {cls:=cl,dict:=d,data:=.fields vs}) (h1:vs[1]?=some (.ref T)) (st:vJ T (rawInt L) s.heap) (k:Q () s):
   wpAny M A (noteFrame (.ref e) env) Q E s:=by
 obtain⟨ts,ht,h3⟩:=st
 unfold noteFrame
 simp only[fm]
 refine wpAny_bind (wpAny_field he rfl h1 ?_)
 rw[if_pos (show (Value.ref T != Value.none)=true by simp)]
 refine wpAny_bind (wpAny_field ht rfl h3 ?_)
 rw[if_pos (show (rawInt L==rawInt L)=true by simp [rawInt])]
 exact wpAny_pure k
theorem ZN {T:Addr} (fr:A.frames=some (env::outer)) (ff:s.heap.FunFrames base (env::outer)) (fm:env.frame=some L)
   (he:s.heap.get? e=some {cls:=cl,dict:=d,data:=.fields vs}) (h1:vs[1]?=some (.ref T)) (st:vJ T .none s.heap) (ne:T≠e)
   (k:∀h' T',s.heap.objs.size<=T'->Xu (Zc (env::outer)) [e,T] s.heap h'->(∃o,h'.get? T=some o)->h'.get? e=some {cls:=cl,dict:=d,data:=.fields (vs.setIfInBounds 1 (.ref T'))}->vJ T' (rawInt L) h'->Q () {s with heap:=h'}):
   wpAny M A (noteFrame (.ref e) env) Q E s:=by
 obtain⟨ts,ht,h3⟩:=st
 unfold noteFrame
 simp only[fm]
 refine wpAny_bind (wpAny_field he rfl h1 ?_)
 rw[if_pos (show (Value.ref T != Value.none)=true by simp)]
 refine wpAny_bind (wpAny_field ht rfl h3 ?_)
 rw[if_neg (show ¬((Value.none==rawInt L)=true) by simp [rawInt])]
 refine wpAny_bind (wpAny_setField ht rfl (Array.getElem?_eq_some_iff.mp h3).1 ?_)
 have oth:∀b,b≠T->(s.heap.update T (Obj.mapFields (·.setIfInBounds 3 Value.none))).get? b=s.heap.get? b:=λb n=>Heap.get?_update_other _ _ (Ne.symm n)
 have tno:T∉Zc (env::outer):=λz=>by
   obtain⟨_,o,ho,nf⟩:=ff.mem z
   rw[ht]at ho
   cases ho
   exact nf ts rfl
 refine Ua fr (ff.of_keeps λb o hb nf=>⟨o,(oth b λz=>?_).trans hb,rfl⟩) fm ((oth e (Ne.symm ne)).trans he) (Array.getElem?_eq_some_iff.mp h1).1 λh' T' hT F q1 q2=>?_
 . rw[z,ht]at hb
   cases hb
   exact nf ts rfl
 . have upT:=Heap.get?_update_self (Obj.mapFields (·.setIfInBounds 3 Value.none)) ht rfl
   refine k h' T' (Nat.le_trans (Nat.le_of_eq (by simp)) hT) ⟨λb o n1 n2 q=>?_,λb o n1 n2 q=>?_⟩ ⟨_,F.keep T _ tno (by simp [ne]) upT⟩ q1 q2
   . simp only[List.mem_cons,List.not_mem_nil,or_false,not_or]at n2
     exact F.keep b o n1 (by simp [n2.1]) ((oth b n2.2).trans q)
   . simp only[List.mem_cons,List.not_mem_nil,or_false,not_or]at n2
     exact F.slot b o n1 (by simp [n2.1]) ((oth b n2.2).trans q)
theorem Qo {T:Addr} {fl:Value} {fs:List Addr} (he:s.heap.get? e=some {cls:=cl,dict:=d,data:=.fields vs}) (h1:vs[1]?=some (.ref T)) (st:vJ T fl s.heap)
   (k:∀h',Xu fs [T] s.heap h'->vJ T .none h'->Q () {s with heap:=h'}):wpAny M A (setFlight (.ref e) none) Q E s:=by
 obtain⟨ts,ht,h3⟩:=st
 have lt:=(Array.getElem?_eq_some_iff.mp h3).1
 refine wpAny_setFlight_none he rfl h1 ht rfl lt (k _ ⟨λb o _ n q=>?_,λb o _ n q=>⟨o.slots,?_⟩⟩ ⟨_,Heap.get?_update_self _ ht rfl,by simp [lt]⟩)
 all_goals
   rw[Heap.get?_update_other _ _ λz=>n (by simp [z])]
   exact q
end
structure zq (ex:List Addr) (n:Nat) (H H':Hp):Prop where
 ext:∀b∈ex,∃φ,H b=some (.ext φ)
 same:∀b o,b∉ex->H b=some o->H' b=some o
 no:∀b,b < n->H b=none->H' b=none
section
variable {P:Program} {w:World} {fs ex:List Addr} {H H':Hp} {h h':Heap}
theorem zq.out {n:Nat} (t:zq ex n H H') {b:Addr} {o:HO} (q:H b=some o) (hn:∀φ,o≠.ext φ):b∉ex:=λz=>by
 obtain⟨φ,e⟩:=t.ext b z
 rw[q]at e
 cases e
 exact hn φ rfl
theorem zq.out0 {n:Nat} (t:zq ex n H H') {b:Addr} (q:H b=none):b∉ex:=λz=>by
 obtain⟨φ,e⟩:=t.ext b z
 rw[q]at e
 cases e
theorem Un.fly (F:Xu fs ex h h') (t:zq ex h.objs.size H H') (th:∀b∈ex,∃o,h'.get? b=some o):Un fs [] H H' h h' where
 keep b o q n hf _:=F.keep b o hf (t.out0 n) q
 slot b o q n hf _:=F.slot b o hf (t.out0 n) q
 free b o q n _:=t.no b (Heap.lt_size q) n
 there b o q _:=by
   by_cases hb:b∈ex
   . exact th b hb
   . by_cases hf:b∈fs
     . obtain⟨sl,r⟩:=F.slot b o hf hb q
       exact⟨_,r⟩
     . exact⟨o,F.keep b o hf hb q⟩
 tups b xs q:=t.same b _ (t.out q (by intro φ z;cases z)) q
 frzs b o u q:=t.same b _ (t.out q (by intro φ z;cases z)) q
 tbls b ps q:=⟨#[],by simpa using t.same b _ (t.out q (by intro φ z;cases z)) q⟩
theorem QZ.fly (ok:QZ P w H h) (F:Xu fs ex h h') (t:zq ex h.objs.size H H') (fr:∀b∈fs,H b=none) (new:∀b o,H' b=some o->(H b=none\/b∈ex)->qx P w H' h' b o):QZ P w H' h':=λb o q=>by
 by_cases hb:b∈ex
 . exact new b o q (.inr hb)
 cases e:H b with
 | none=>exact new b o q (.inl e)
 | some u=>
   have r:=t.same b u hb e
   rw[q]at r
   cases r
   refine(ok b o e).stay (λc v hc g=>F.keep c v ?_ ?_ g) (λc z=>t.same c _ (t.out z (by intro φ z;cases z)) z) (λc xs z=>t.same c _ (t.out z (by intro φ z;cases z)) z) (λc o z=>t.same c _ (t.out z (by intro φ z;cases z)) z)
   . intro z
     have n:=fr c z
     rcases hc with rfl | hc
     . rw[e]at n;cases n
     . rw[hc]at n;cases n
   . rcases hc with rfl | hc
     . exact hb
     . exact t.out hc (by intro φ z;cases z)
end
end L2
namespace L2
open PySem PySem.Spec PyProof.Rows
def ZZ (T:Addr) (fl:Value):HO:=.ext (vJ T fl)
theorem Q6 {P:Program} {w:World} {H:Hp} {h:Heap} {T:Addr} {fl:Value} (x:vJ T fl h):qx P w H h T (ZZ T fl):=by
 obtain⟨ts,q,z⟩:=x
 exact⟨⟨ts,q,z⟩,⟨_,q⟩,λh1 h2 ⟨ts',q',z'⟩ k=>⟨ts',k _ q',z'⟩⟩
def jN (P:Program) (w:World):Zd:=λouter H s E e s'=>∃a C dx T Hx H',e=.ref a/\s'.os=s.os/\AllBare s'.gens/\Un (Zc outer) [] H H' s.heap s'.heap/\QZ P w H' s'.heap/\
 H' a=some (jr a C dx (.ref T))/\H' T=some (ZZ T .none)/\Hx T=none/\Hx a=some (Qu a C dx)/\(∀b o,b≠a->Hx b=some o->H' b=some o)/\E (.ref C) (some dx) Hx
def YD (X:Cx) (E:XK):Prop:=∀(pins:List (Addr×Obj)) (σ:St) (H:Hp) (s:Shared) (a C dx:Addr),qu X pins σ H s->H a=some (Qu a C dx)->E (.ref C) (some dx) H->X.xe (.ref a) s
section
variable {X:Cx} {pins:List (Addr×Obj)} {σ:St} {H H':Hp} {s:Shared} {h':Heap} {ex:List Addr}
theorem qu.flown (I:qu X pins σ H s) (F:Xu (Zc X.stack) ex s.heap h') (t:zq ex s.heap.objs.size H H') (th:∀b∈ex,∃o,h'.get? b=some o)
   (new:∀b o,H' b=some o->(H b=none\/b∈ex)->qx X.prog X.w H' h' b o):qu X pins σ H' {s with heap:=h'}:=
 I.call (g':=s.gens) (t':=s.toks) (d':=s.drawn) (ch:=[]) (Un.fly F t th) (QZ.fly I.hok F t I.stkFree new) I.bare λb z=>absurd z (by simp)
theorem Xu.then {fs ex:List Addr} {h h1 h2:Heap} {T:Addr} (F:Xu fs ex h h1) (G:Xu fs [T] h1 h2) (hT:h.objs.size<=T):Xu fs ex h h2 where
 keep b o n1 n2 q:=G.keep b o n1 (by simp;exact Nat.ne_of_lt (Nat.lt_of_lt_of_le (Heap.lt_size q) hT)) (F.keep b o n1 n2 q)
 slot b o n1 n2 q:=by
   obtain⟨sl,r⟩:=F.slot b o n1 n2 q
   obtain⟨sl',r'⟩:=G.slot b _ n1 (by simp;exact Nat.ne_of_lt (Nat.lt_of_lt_of_le (Heap.lt_size q) hT)) r
   exact⟨sl',r'⟩
end
section
variable {P:Program} {w:World} {K:PySem.W.Frag} {mg:Str->Option Value} {base:Heap} {N:List Str} {qual:Str} {scope:Scope} {f:Addr} {cd:Value} {A:Around} {outer:List Env} {s₀:Shared} {H₀:Hp} {E:XK}
theorem Qg:YD (js (jN P w) P w K mg base N qual scope f cd A outer s₀ H₀ E) E:=by
 intro pins σ H s a C dx I ha hE
 obtain⟨⟨fl,he,hz⟩,_,_⟩:=(show qx P w H s.heap a (jr a C dx .none) from I.hok a _ ha)
 have fr:=I.ok.frames
 have ff:=I.stack
 show wpAny _ _ (leaving _ _) _ _ s
 unfold leaving
 refine wpAny_bind (Y2 fr ff rfl he hz λh1 T hT F q1 q2=>?_)
 have lt:=(Array.getElem?_eq_some_iff.mp hz).1
 have g1:(fl.setIfInBounds 1 (Value.ref T))[1]?=some (.ref T):=by simp [lt]
 have nT:T≠a:=λz=>by
   obtain⟨ts,q,_⟩:=q2
   rw[z,q1]at q
   cases q
 refine Qo (fs:=Zc (js (jN P w) P w K mg base N qual scope f cd A outer s₀ H₀ E).stack) q1 g1 q2 λh2 F2 st=>?_
 have anf:a∉Zc (js (jN P w) P w K mg base N qual scope f cd A outer s₀ H₀ E).stack:=λz=>by
   have:=I.stkFree a z
   rw[ha]at this
   cases this
 have hTn:H T=none:=I.hok.fresh hT
 have q3:=F2.keep a _ anf (by simp [Ne.symm nT]) q1
 have I2:=I.flown (H':=upd (upd H a (jr a C dx (.ref T))) T (ZZ T .none)) (Xu.then F F2 hT) ⟨λb hb=>by cases List.mem_singleton.mp hb;exact⟨_,ha⟩,λb o hb q=>by
     rw[qf (ql q hTn),qf λz=>hb (by simp [z])];exact q,λb hb q=>by
     rw[qf (Nat.ne_of_lt (Nat.lt_of_lt_of_le hb hT)),qf λz=>by rw[z,ha]at q;cases q];exact q⟩ (λb hb=>by cases List.mem_singleton.mp hb;exact⟨_,q3⟩) λb o q hb=>by
   by_cases e1:b=T
   . subst e1
     rw[qd]at q
     cases q
     exact Q6 st
   . rw[qf e1]at q
     by_cases e2:b=a
     . subst e2
       rw[qd]at q
       cases q
       exact QS ⟨_,q3,g1⟩
     . rw[qf e2]at q
       rcases hb with hb | hb
       . rw[q]at hb;cases hb
       . exact absurd (List.mem_singleton.mp hb) e2
 exact⟨a,C,dx,T,H,_,rfl,I2.os,I2.bare,I2.base,I2.hok,by rw[qf (Ne.symm nT),qd],qd ..,hTn,ha,λb o nb q=>by rw[qf (ql q hTn),qf nb];exact q,hE⟩
theorem Qh:jm (jN P w) (js (jN P w) P w K mg base N qual scope f cd A outer s₀ H₀ E) E:=by
 intro pins σ H s e s' I0 hc
 obtain⟨a,C,dx,T,Hx,H1,rfl,os,bare,un,hok,ha,ht,hxT,hxa,hx,hE⟩:=hc
 have I:qu (js (jN P w) P w K mg base N qual scope f cd A outer s₀ H₀ E) pins σ H1 s':=I0.call' os un hok bare λb z=>absurd z (by simp)
 obtain⟨⟨fl,he,hz⟩,_,_⟩:=(show qx P w H1 s'.heap a (jr a C dx (.ref T)) from I.hok a _ ha)
 obtain⟨st0,_,_⟩:=(show qx P w H1 s'.heap T (ZZ T .none) from I.hok T _ ht)
 have fr:=I.ok.frames
 have ff:=I.stack
 have nT0:T≠a:=λz=>by
   obtain⟨ts,q,_⟩:=st0
   rw[z,he]at q
   cases q
 show wpAny _ _ (leaving _ _) _ _ s'
 unfold leaving
 refine wpAny_bind (ZN fr ff rfl he hz st0 nT0 λh1 T' hT F tT q1 q2=>?_)
 have lt:=(Array.getElem?_eq_some_iff.mp hz).1
 have g1:(fl.setIfInBounds 1 (Value.ref T'))[1]?=some (.ref T'):=by simp [lt]
 have nT:T'≠a:=λz=>by
   obtain⟨ts,q,_⟩:=q2
   rw[z,q1]at q
   cases q
 refine Qo (fs:=Zc (js (jN P w) P w K mg base N qual scope f cd A outer s₀ H₀ E).stack) q1 g1 q2 λh2 F2 st=>?_
 have anf:∀b o,H1 b=some o->b∉Zc (js (jN P w) P w K mg base N qual scope f cd A outer s₀ H₀ E).stack:=λb o q z=>by
   have:=I.stkFree b z
   rw[q]at this
   cases this
 have hTn:H1 T'=none:=I.hok.fresh hT
 have nTT:T'≠T:=(ql ht hTn).symm
 have q3:=F2.keep a _ (anf a _ ha) (by simp [Ne.symm nT]) q1
 obtain⟨oT,hoT⟩:=tT
 have q4:=F2.keep T _ (anf T _ ht) (by simp [Ne.symm nTT]) hoT
 have I2:=I.flown (H':=upd (upd (upd H1 a (jr a C dx (.ref T'))) T (.ext λh=>∃o,h.get? T=some o)) T' (ZZ T' .none)) (Xu.then F F2 hT) ⟨λb hb=>by
     simp only[List.mem_cons,List.not_mem_nil,or_false]at hb
     rcases hb with rfl | rfl
     . exact⟨_,ha⟩
     . exact⟨_,ht⟩,λb o hb q=>by
     simp only[List.mem_cons,List.not_mem_nil,or_false,not_or]at hb
     rw[qf (ql q hTn),qf hb.2,qf hb.1];exact q,λb hb q=>by
     rw[qf (Nat.ne_of_lt (Nat.lt_of_lt_of_le hb hT)),qf (λz=>by rw[z,ht]at q;cases q),qf (λz=>by rw[z,ha]at q;cases q)];exact q⟩ (λb hb=>by
     simp only[List.mem_cons,List.not_mem_nil,or_false]at hb
     rcases hb with rfl | rfl
     . exact⟨_,q3⟩
     . exact⟨_,q4⟩) λb o q hb=>by
   by_cases e1:b=T'
   . subst e1
     rw[qd]at q
     cases q
     exact Q6 st
   . rw[qf e1]at q
     by_cases e2:b=T
     . subst e2
       rw[qd]at q
       cases q
       exact⟨⟨_,q4⟩,⟨_,q4⟩,λh1 h2 ⟨u,z⟩ k=>⟨u,k u z⟩⟩
     . rw[qf e2]at q
       by_cases e3:b=a
       . subst e3
         rw[qd]at q
         cases q
         exact QS ⟨_,q3,g1⟩
       . rw[qf e3]at q
         rcases hb with hb | hb
         . rw[q]at hb;cases hb
         . simp only[List.mem_cons,List.not_mem_nil,or_false]at hb
           exact(hb.elim e3 e2).elim
 refine⟨a,C,dx,T',Hx,_,rfl,I2.os,I2.bare,I2.base,I2.hok,by rw[qf (Ne.symm nT),qf (Ne.symm nT0),qd],qd ..,?_,hxa,λb o nb q=>?_,hE⟩
 . cases e:Hx T' with
   | none=>rfl
   | some o=>
     have:=hx T' o nT e
     rw[hTn]at this
     cases this
 . have n1:b≠T:=λz=>by rw[z,hxT]at q;cases q
   have q':=hx b o nb q
   rw[qf (ql q' hTn),qf n1,qf nb]
   exact q'
end
end L2
set_option Elab.async false
set_option linter.all false
set_option maxRecDepth 100000
set_option maxHeartbeats 4000000
namespace L2
open PySem PySem.Spec PyProof.Rows
section
variable {M:Model} {A:Around} {E:Value->Shared->Prop} {s:Shared} {env:Env} {C:Addr}
theorem Vp {oC:Obj} {x:Sem Value} {Q:Flow->Shared->Prop} (hh:A.handled=none) (hcl:oC.cls=.type "type")
   (hs:∀(h:Heap) (g d t os) (Q:Bool->Shared->Prop),h.get? C=some oC->Q true ⟨h,g,d,t,os⟩->wpAny M A (isSubtype (.ref C) (.type "BaseException")) Q E ⟨h,g,d,t,os⟩)
   (h:wpAny M A x (λv s₁=>∃e dx fl,v=.ref e/\s₁.heap.get? C=some oC/\s₁.heap.get? e=some {cls:=.ref C,dict:=some dx,data:=.fields fl}/\fl[1]?=some Value.none/\E (.ref e) s₁) E s):
   wpAny M A (raiseStmt env (some x) none) Q E s:=by
 unfold raiseStmt
 refine wpAny_bind (qY h λv s₁ h₁=>?_)
 obtain⟨e,dx,fl,rfl,hC,he,hz,hE⟩:=h₁
 obtain⟨hp,g,d,tk,os⟩:=s₁
 repeat (first | with_reducible refine wpAny_loadPart_at he ?_ | with_reducible refine wpAny_loadPart_at hC ?_ | with_reducible refine hs _ _ _ _ _ _ hC ?_ | wp_step)
 rw[hz]
 refine wpAny_pure ?_
 rw[if_neg (show ¬((Value.none != Value.none)=true) by decide)]
 exact wpAny_pure (wpAny_raiseNew_none hh hE)
end
def V4 (K:PySem.W.Frag) (C:Addr):Prop:=∃f bm,uW K C f bm/\bm.contains (.type "BaseException")=true
def xc (K:PySem.W.Frag) (E:XK) (te:TE):TS:=λD σ H=>te σ H λv H1=>∃a C dx,v=.ref a/\H1 a=some (Qu a C dx)/\V4 K C/\E (.ref C) (some dx) H1
section
variable {X:Cx} {E:XK} {e:Expr} {te:TE} {pos:Pos}
theorem Jf (hc:X.calm=true) (hx:YD X E) (he:JE X e te):JS X (.Raise (some e) none pos) (xc X.K E te):=.of (by
 have he:=he.to
 intro pins s σ H D I h
 have key:∀x:Sem Value,wpAny (model X.prog X.w) X.A x (λu s1=>∃v H1,qu X pins σ H1 s1/\qG v u/\∃a C dx,v=.ref a/\H1 a=some (Qu a C dx)/\V4 X.K C/\E (.ref C) (some dx) H1) X.xe s->
     wpAny (model X.prog X.w) X.A (raiseStmt X.env (some x) none) (SP X pins D) X.xe s:=λx hw=>by
   unfold raiseStmt
   refine wpAny_bind (qY hw λu s1 ⟨v,H1,I1,rv,a,C,dx,ev,ha,⟨f,bm,em,hb⟩,hE⟩=>?_)
   subst ev
   obtain rfl:u=Value.ref a:=rv
   obtain⟨nm,q,N,bs,hdct,sn,sub,ab,col,dd,k0,k1,k2,k3,k5,hC⟩:=em.obj
   obtain⟨⟨fl,ho,hz⟩,_,_⟩:=(show qx X.prog X.w H1 s1.heap a (jr a C dx .none) from I1.hok a _ ha)
   have hC':=I1.kIn _ _ hC
   have r:=Vp (M:=model X.prog X.w) (A:=X.A) (E:=X.xe) (s:=s1) (env:=X.env) (C:=C) (x:=pure (.ref a)) (Q:=SP X pins D) (I1.ok.hd hc) rfl (λh g d t os Q z k=>wpAny_isSubtype_exc z (by
     rw[show (Value.ref C::bm).contains (.type "BaseException")=true by rw[List.contains_cons,hb,Bool.or_true]];exact k)) (wpAny_pure ⟨a,dx,fl,rfl,hC',ho,hz,hx pins σ H1 s1 a C dx I1 ha hE⟩)
   exact r
 rw[arm_exec_Raise]
 exact wpAny_bind (wpAny_standAt (key _ (wpAny_bind (qY (he pins s σ H _ I h) λu s1 q=>wpAny_bind (wpAny_standAt (wpAny_pure q)))))))
end
end L2
set_option Elab.async false
set_option linter.all false
set_option maxRecDepth 100000
set_option maxHeartbeats 4000000
namespace L2
open PySem PySem.Spec PyProof.Rows
section
variable {M:Model} {A:Around} {E:Value->Shared->Prop}
theorem VY {h:Heap} {g:Array GenState} {d:Drawn} {t:Nat} {os:OsState} {e C D:Addr} {oe oC:Obj} {ddc:Option Addr} {sld:Array (Option Value)} {cdd} {bC bD:List Value} {Q:Bool->Shared->Prop}
   (he:h.get? e=some oe) (hcls:oe.cls=.ref C) (hC:h.get? C=some oC) (hD:h.get? D=some ⟨.type "type",ddc,.cls cdd,sld⟩)
   (sC:∀(T:Value) (Q:Bool->Shared->Prop),Q (bC.contains T) ⟨h,g,d,t,os⟩->wpAny M A (isSubtype (.ref C) T) Q E ⟨h,g,d,t,os⟩)
   (sD:∀(T:Value) (Q:Bool->Shared->Prop),Q (bD.contains T) ⟨h,g,d,t,os⟩->wpAny M A (isSubtype (.ref D) T) Q E ⟨h,g,d,t,os⟩)
   (hB:bD.contains (.type "BaseException")=true)
   (hq:Q (bC.contains (.ref D)) ⟨h,g,d,t,os⟩):wpAny M A (excMatches (.ref e) (.ref D)) Q E ⟨h,g,d,t,os⟩:=by
 have f:=tc_notTuple
 unfold excMatches
 repeat (first | (with_reducible refine wpAny_loadPart_at he ?_;rw[hcls]) | with_reducible refine wpAny_loadPart_at hD ?_ | (with_reducible refine sC _ _ ?_) | (with_reducible refine sD _ _ ?_;rw[hB]) | wp_step)
 cases hb:bC.contains (.ref D)<;>(rw[hb]at hq;wp_walk;exact hq)
end
end L2
set_option Elab.async false
set_option linter.all false
set_option maxRecDepth 100000
set_option maxHeartbeats 4000000
namespace L2
open PySem PySem.Spec PyProof.Rows
def QX (CX:Zd) (X:Cx) (E:St->XK):Prop:=∀(pins:List (Addr×Obj)) (σ:St) (H:Hp) (s:Shared) (e:Value) (s':Shared),qu X pins σ H s->CX X.stack H s (E σ) e s'->X.xe e s'
theorem jm.s {CX:Zd} {X:Cx} {E:XK} (h:jm CX X E):QX CX X λ_=>E:=h
def Uf (sp:Sp) (dvs:List V) (E:St->XK) (t:TA):TE:=λσ H Q=>t σ H λvs H1=>sp (vs++dvs) H1 Q (E σ)
section
variable {X:Cx} {CX:Zd} {k:Nat} {f C:Addr} {fd:FuncData} {ps:List Str} {sp:Sp} {dvs:List V} {ds:List Value} {E:St->XK} {x m:Str} {p pos apos:Pos} {e o:Expr} {es:List Expr} {ta:TE} {t:TA}
theorem WC {pins:List (Addr×Obj)} {σ:St} {H:Hp} {s:Shared} {Q:VK} {us:List Value} {vs:List V} (F:qo X.prog X.w X.K X.mg X.base CX k f fd ps sp) (hr:qS k X.A) (hb:jx X.K fd ps ds) (hd:qD dvs ds) (hx:QX CX X E)
   (I:qu X pins σ H s) (r:qD vs us) (h:sp (vs++dvs) H Q (E σ)):wpAny (model X.prog X.w) X.A (call (.ref f) us) (EP X pins σ Q) X.xe s:=by
 have rr:qD (vs++dvs) (us++ds):=r.append hd
 have ll:(us++ds).length=ps.length:=rr.length.symm.trans (F.len _ _ _ _ h)
 have run:=F.run X.A X.stack s H ⟨us,[]⟩ (us++ds) (vs++dvs) Q (E σ) hr I.env0 (hb s us I.kIn ll) rr h
 refine wpAny_call (codeAny_mono run λz s' q=>?_)
 match z,q with
 | .error y,q=>exact hx pins σ H s y s' I q
 | .ok (.ret u),q=>exact I.after q
theorem UM (F:qo X.prog X.w X.K X.mg X.base CX k f fd ps sp) (hr:qS k X.A) (hg:Gl X x) (hm:X.mg x=some (.ref f)) (hk:PySem.W.keepIn X.K (.ref f)=true) (hb:jx X.K fd ps ds) (hd:qD dvs ds) (hx:QX CX X E)
   (ha:PA X (e::es) t) (hdb:(x==("__debug__":Str))=false:=by decide) (he:starEach (e::es) X.env=(false,eval e X.env)::starEach es X.env:=by rfl) (hpl:(backTo pos (starEach es X.env)).any (·.1)=false:=by rfl):
   PE X (.Call (.Name x p) (e::es) [] pos) (Uf sp dvs E t):=by
 intro pins s σ H Q I h
 refine wpAny_Call_Name_kw (J2 I hg hm (PySem.W.callWith_K (h₀:=X.base) I.ok.mod.kin hk (qY (ha pos pins s σ H _ I h) λus s1 ⟨vs,H1,I1,r,q⟩=>⟨I1.kIn,WC F hr hb hd hx I1 r q⟩) he hpl) hdb)
end
end L2
set_option Elab.async false
set_option linter.all false
set_option maxRecDepth 100000
set_option maxHeartbeats 4000000
namespace L2
open PySem PySem.Spec PyProof.Rows
section
variable {X:Cx} {pins:List (Addr×Obj)} {σ:St} {H:Hp} {s:Shared} {a b:Addr} {kvs more:List (qP×V)} {A:Around} {E:Value->Shared->Prop}
end
section
variable {X:Cx} {o e:Expr} {apos cpos:Pos} {td ty:TE}
end
theorem KY {us:List Value} (h:us.length=0):us=[]:=List.eq_nil_of_length_eq_zero h
theorem U6 {us:List Value} {n:Nat} (h:us.length=n+1):∃a r,us=a::r/\r.length=n:=by
 cases us with
 | nil=>cases h
 | cons a r=>exact⟨a,r,rfl,Nat.succ.inj h⟩
theorem Zn {us:List Value} (h:us.length=1):∃a,us=[a]:=by
 obtain⟨a,r,rfl,h'⟩:=U6 h
 exact⟨a,by rw[KY h']⟩
theorem Q3 {us:List Value} (h:us.length=2):∃a b,us=[a,b]:=by
 obtain⟨a,r,rfl,h'⟩:=U6 h
 obtain⟨b,rfl⟩:=Zn h'
 exact⟨a,b,rfl⟩
theorem X0 {us:List Value} (h:us.length=3):∃a b c,us=[a,b,c]:=by
 obtain⟨a,r,rfl,h'⟩:=U6 h
 obtain⟨b,c,rfl⟩:=Q3 h'
 exact⟨a,b,c,rfl⟩
theorem xG {us:List Value} (h:us.length=4):∃a b c d,us=[a,b,c,d]:=by
 obtain⟨a,r,rfl,h'⟩:=U6 h
 obtain⟨b,c,d,rfl⟩:=X0 h'
 exact⟨a,b,c,d,rfl⟩
theorem KW {us:List Value} (h:us.length=5):∃a b c d e,us=[a,b,c,d,e]:=by
 obtain⟨a,r,rfl,h'⟩:=U6 h
 obtain⟨b,c,d,e,rfl⟩:=xG h'
 exact⟨a,b,c,d,e,rfl⟩
end L2
set_option Elab.async false
set_option linter.all false
set_option maxRecDepth 100000
set_option maxHeartbeats 4000000
namespace L2
open PySem PySem.Spec PyProof.Rows
abbrev Cx.suite (X:Cx) (a:Value) (E:Value->Shared->Prop):Cx:={X with A:=X.A.mark (some a),calm:=false,xe:=E}
abbrev Cx.tried (X:Cx) (pn:List (Addr×Obj)) (E:Value->Shared->Prop):Cx:={X with xe:=E,pn:=pn}
section
variable {X:Cx} {pins:List (Addr×Obj)} {σ:St} {H:Hp} {s:Shared} {E:Value->Shared->Prop} {a:Value}
theorem Cx.Ok.suite (o:X.Ok) (a:Value) (E:Value->Shared->Prop):(X.suite a E).Ok:=⟨o.mod,o.kind,o.glob,o.blt,o.above,o.inj,o.has,o.cab,λz=>Bool.noConfusion z,o.frames,o.stk,o.exf,o.bs,o.bsz,o.noex,o.exfs,o.funs,o.frf⟩
theorem Cx.Ok.tried (o:X.Ok) (pn:List (Addr×Obj)) (E:Value->Shared->Prop):(X.tried pn E).Ok:=⟨o.mod,o.kind,o.glob,o.blt,o.above,o.inj,o.has,o.cab,o.hd,o.frames,o.stk,o.exf,o.bs,o.bsz,o.noex,o.exfs,o.funs,o.frf⟩
theorem qu.suite (I:qu X pins σ H s) (a:Value) (E:Value->Shared->Prop):qu (X.suite a E) pins σ H s:=⟨I.ok.suite a E,I.os,I.bare,I.base,I.loc,I.cell,I.free,I.freeC,I.pin,I.hok,I.len⟩
theorem qu.unsuite {σ0:St} {H0:Hp} {s0:Shared} (I0:qu X pins σ0 H0 s0) (I:qu (X.suite a E) pins σ H s):qu X pins σ H s:=⟨I0.ok,I.os,I.bare,I.base,I.loc,I.cell,I.free,I.freeC,I.pin,I.hok,I.len⟩
theorem qu.tried (I:qu X pins σ H s) (E:Value->Shared->Prop):qu (X.tried (X.pn++pins) E) [] σ H s:=⟨I.ok.tried _ E,I.os,I.bare,I.base,I.loc,I.cell,I.free,I.freeC,λp hp=>I.pin p (by simpa using hp),I.hok,I.len⟩
theorem qu.untried {pins':List (Addr×Obj)} {σ0:St} {H0:Hp} {s0:Shared} (I0:qu X pins σ0 H0 s0) (I:qu (X.tried (X.pn++pins) E) pins' σ H s):qu X pins σ H s:=⟨I0.ok,I.os,I.bare,I.base,I.loc,I.cell,I.free,I.freeC,λp hp=>I.pin p (List.mem_append_left _ hp),I.hok,I.len⟩
theorem ZU {M:Model} {A:Around} {F:Value->Shared->Prop} {i:Nat} {x:Str} {pos:Pos} {Q:Unit->Shared->Prop} (I:qu X pins σ H s) (hN:X.N.Nodup) (hi:X.N[i]?=some x) (hk:X.env.scope.names.lookup x=some .local)
   (h:∀s',qu X pins (σ.set i none) H s'->Q () s'):wpAny M A (do bindName X.env x .none;unbindBehindTheSuite X.env x pos) Q F s:=by
 obtain⟨m,hn,hl⟩:=id I.loc
 have hcls:(X.env.scope.kind==.class || (X.env.scope.kind==.module&&X.env.locals != X.env.globals))=false:=by rw[I.ok.kind];rfl
 have hiσ:i < σ.length:=by rw[I.len];exact(List.getElem?_eq_some_iff.mp hi).1
 have cne:=I.cne
 have tracked:∀{a:Addr} {h':Heap},(∃o,s.heap.get? a=some o/\H a=none)->Heap.SameBut a s.heap h'->QZ X.prog X.w H h':=λ{a h'} ha hs b ob e=>by
   obtain⟨_,_,hfree⟩:=ha
   refine(I.hok b ob e).stay (λc w' hc q=>(hs.2 c ?_).trans q) (λ_ q=>q) λ_ _ q=>q
   rintro rfl
   rcases hc with rfl | hc
   . rw[hfree]at e;cases e
   . rw[hfree]at hc;cases hc
 refine wpAny_nameGoes_keeps hk hn hcls λh' v0 hn' hs=>?_
 obtain⟨oL,_,_,hoL,_⟩:=id hn
 refine h _ ⟨I.ok,I.os,I.bare,⟨λb o e n hb hx=>?_,λb o e n hb hx=>?_,I.base.free,λb o e hx=>?_,I.base.tups,I.base.frzs,I.base.tbls⟩,⟨_,hn',λj y v' e1 e2 e3=>?_⟩,λy c e=>?_,I.free,I.freeC,λp hp=>?_,tracked ⟨oL,hoL,I.free⟩ hs,by simpa using I.len⟩
 . exact(hs.2 b (Nat.ne_of_lt (Nat.lt_of_lt_of_le (Heap.lt_size e) I.ok.above))).trans (I.base.keep b o e n hb hx)
 . obtain⟨sl,e1⟩:=I.base.slot b o e n hb hx
   exact⟨sl,(hs.2 b (Nat.ne_of_lt (Nat.lt_of_lt_of_le (Heap.lt_size e) I.ok.above))).trans e1⟩
 . obtain⟨o',e1⟩:=I.base.there b o e hx
   exact⟨o',(hs.2 b (Nat.ne_of_lt (Nat.lt_of_lt_of_le (Heap.lt_size e) I.ok.above))).trans e1⟩
 . by_cases hj:j=i
   . subst hj
     rw[List.getElem?_set_self hiσ]at e2
     cases e2
   . rw[List.getElem?_set_ne (Ne.symm hj)]at e2
     obtain⟨u',r',q⟩:=hl j y v' e1 e2 e3
     refine⟨u',r',?_⟩
     rcases q with ⟨k,e⟩ | ⟨k,c,e,z⟩
     . refine .inl ⟨k,?_⟩
       have:y≠x:=λe=>hj (zb hN e1 (e▸hi))
       simp [this,e]
     . exact .inr ⟨k,c,e,z.sameBut hs (cne y c e)⟩
 . obtain⟨w',z⟩:=I.cell y c e
   exact⟨w',z.sameBut hs (cne y c e)⟩
 . obtain⟨e,n,ne,nf,d⟩:=I.pin p hp
   exact⟨(hs.2 p.1 ne).trans e,n,ne,nf,d⟩
end
abbrev TH:=Addr->Addr->Addr->TS
def PH (X:Cx) (hs:List ExceptHandler) (t:TH):Prop:=
 ∀(pins:List (Addr×Obj)) (s:Shared) (σ:St) (H:Hp) (D:Qx) (a C dx T:Addr),qu X pins σ H s->H a=some (jr a C dx (.ref T))->H T=some (ZZ T .none)->t C a dx D σ H->
   wpAny (model X.prog X.w) X.A (handleBy (.ref a) X.env hs) (SP X pins D) X.xe s
def vq:TH:=λ_ _ _ _ _ _=>False
theorem VE {X:Cx} {hs:List ExceptHandler}:PH X hs vq:=λ_ _ _ _ _ _ _ _ _ _ _ _ h=>h.elim
def Qx.gone (D:Qx) (j:Nat):Qx:={nx:=λσ H=>D.nx (σ.set j none) H,rt:=D.rt,bk:=λσ H=>D.bk (σ.set j none) H,ct:=λσ H=>D.ct (σ.set j none) H}
def Wo (K:PySem.W.Frag) (Cl:Addr) (j:Nat) (ts:TS) (tr:TH):TH:=λC a dx D σ H=>∃f bm,uW K C f bm/\
 if (Value.ref C::bm).contains (.ref Cl)=true then ts (D.gone j) (σ.set j (some (.ref a))) H else tr C a dx D σ H
def wj (K:PySem.W.Frag) (C:Addr):Prop:=∃bm,(∃nm q N bs hdct sn sub ab col dd k0 k1 k2 k3 k5,K.lookup C=some (excClassObj nm q C N bs bm hdct sn sub ab col dd k0 k1 k2 k3 k5 "ValueError.__new__"))/\bm.contains (.type "BaseException")=true
theorem V4.c {K:PySem.W.Frag} {C:Addr} (h:V4 K C):wj K C:=let ⟨_,bm,a,b⟩:=h;⟨bm,a.obj,b⟩
theorem Wb {X:Cx} {x n:Str} {p pos:Pos} {j:Nat} {b₀:Stmt} {suite:List Stmt} {rest:List ExceptHandler} {ts:TS} {tr:TH} {Cl:Addr} (hg:Gl X x) (hm:X.mg x=some (.ref Cl)) (hD:wj X.K Cl) (hN:X.N.Nodup) (hj:X.N[j]?=some n)
   (hl:X.env.scope.names.lookup n=some .local) (hs:∀v E,vM (X.suite v E) (b₀::suite) ts) (hr:PH X rest tr) (hdb:(x==("__debug__":Str))=false:=by decide):PH X (.ExceptHandler (some (.Name x p)) (some n) (b₀::suite) pos::rest) (Wo X.K Cl j ts tr):=by
 intro pins s σ H D a C dx T I ha hT h
 obtain⟨f,bm,em,h⟩:=h
 obtain⟨bm',em',hB⟩:=hD
 refine wpAny_handleBy_cons (codeAny_handlers_test ?_) (by intro q;cases q)
 refine wpAny_mono (WG (X:=X.suite (.ref a) _) (v:=.ref Cl) hg hm rfl hdb pins s σ H (λv H'=>v=.ref Cl/\H'=H) (I.suite _ _) ⟨rfl,rfl⟩) (λc s₁ q=>?_) (λ_ _ z=>z)
 obtain⟨v,H',I1,rv,rfl,rfl⟩:=q
 obtain rfl:c=Value.ref Cl:=rv
 have I2:qu X pins σ H' s₁:=I.unsuite I1
 obtain⟨nm,q,N,bs,hdct,sn,sub,ab,col,dd,k0,k1,k2,k3,k5,hC⟩:=em.obj
 obtain⟨nm',q',N',bs',hdct',sn',sub',ab',col',dd',k0',k1',k2',k3',k5',hC'⟩:=em'
 obtain⟨⟨fl,he,hz⟩,_,_⟩:=(show qx X.prog X.w H' s₁.heap a (jr a C dx (.ref T)) from I2.hok a _ ha)
 obtain⟨st,_,_⟩:=(show qx X.prog X.w H' s₁.heap T (ZZ T .none) from I2.hok T _ hT)
 have gC:=I2.kIn _ _ hC
 have gD:=I2.kIn _ _ hC'
 obtain⟨hp,g,d,tk,os⟩:=s₁
 refine VY (bC:=Value.ref C::bm) (bD:=Value.ref Cl::bm') he rfl gC gD (λT Q k=>wpAny_isSubtype_exc gC k) (λT Q k=>wpAny_isSubtype_exc gD k) (by rw[List.contains_cons,hB,Bool.or_true]) ?_
 cases hb:(Value.ref C::bm).contains (.ref Cl) with
 | false=>
   rw[hb,if_neg Bool.false_ne_true]at h
   exact hr pins _ σ H' D a C dx T I2 ha hT h
 | true=>
   rw[hb,if_pos rfl]at h
   refine(show codeAny _ _ _ _ _ from codeAny_handlers_suite_as ?_)
   refine Qo (fs:=Zc X.stack) he hz st λh' F st'=>?_
   have I3:qu X pins σ H' {heap:=h',gens:=g,drawn:=d,toks:=tk,os:=os}:=I2.flown (H':=H') F ⟨λb hb'=>by cases List.mem_singleton.mp hb';exact⟨_,hT⟩,λb o _ z=>z,λb _ z=>z⟩ (λb hb'=>by cases List.mem_singleton.mp hb';obtain⟨ts',z,_⟩:=st';exact⟨_,z⟩) λb o z hb'=>by
     rcases hb' with hb' | hb'
     . rw[z]at hb';cases hb'
     . cases List.mem_singleton.mp hb'
       rw[hT]at z
       cases z
       exact Q6 st'
   refine ZY I3 hN hj (.inl hl) (v:=.ref a) rfl (λs' I4=>?_) (.inr hl)
   refine wpAny_mono (hs (.ref a) _ pins s' _ H' (D.gone j) (I4.suite _ _) h) (λfl s3 q=>?_) (λ_ _ z=>z)
   cases fl with
   | next=>
     obtain⟨σ3,H3,I5,q⟩:=q
     exact ZU (I.unsuite I5) hN hj hl λs4 I6=>⟨_,_,I6,q⟩
   | brk=>
     obtain⟨σ3,H3,I5,q⟩:=q
     exact ZU (I.unsuite I5) hN hj hl λs4 I6=>⟨_,_,I6,q⟩
   | cont=>
     obtain⟨σ3,H3,I5,q⟩:=q
     exact ZU (I.unsuite I5) hN hj hl λs4 I6=>⟨_,_,I6,q⟩
   | ret u=>
     obtain⟨v,σ3,H3,I5,r,q⟩:=q
     exact ZU (I.unsuite I5) hN hj hl λs4 I6=>⟨v,_,_,I6,r,q⟩
def wW (tb:(St->XK)->TS) (th:TH):TS:=λD σ H=>∃R:Addr->Addr->Hp->Prop,tb (λσ' c d Hx=>σ'=σ/\∃C dx,c=.ref C/\d=some dx/\R C dx Hx) D σ H/\
 ∀(a C dx T:Addr) (Hx H':Hp),R C dx Hx->Hx a=some (Qu a C dx)->(∀b o,b≠a->Hx b=some o->H' b=some o)->H' a=some (jr a C dx (.ref T))->th C a dx D σ H'
theorem vS {X:Cx} {body:List Stmt} {h0:ExceptHandler} {hs:List ExceptHandler} {tb:(St->XK)->TS} {th:TH} {pos:Pos} (hst:X.stack=X.env::X.outer) (hfm:X.env.frame=some X.env.locals)
   (hb:∀(pn:List (Addr×Obj)) (W:Value->Shared->Prop) (E:St->XK),QX (jN X.prog X.w) (X.tried pn W) E->vM (X.tried pn W) body (tb E)) (hh:PH X (h0::hs) th):PS X (.Try body (h0::hs) [] [] pos) (wW tb th):=by
 intro pins s σ H D I h
 obtain⟨R,hbd,hx⟩:=h
 refine wpAny_Try_except ?_
 refine wpAny_mono (hb (X.pn++pins) (λe s₁=>wpAny (model X.prog X.w) X.A (noteFrame e X.env) (λ_ s₂=>wpAny (model X.prog X.w) X.A (setFlight e none) (λ_ s₃=>wpAny (model X.prog X.w) X.A (handleBy e X.env (h0::hs)) (SP X pins D) X.xe s₃) X.xe s₂) X.xe s₁) _ ?_ [] s σ H D (I.tried _) hbd) (λf s1 q=>?_) (λ_ _ z=>z)
 . intro pins' σ' H1 s1 e s' I1 hc
   obtain⟨a,C,dx,T,Hx,H2,rfl,os,bare,un,hok,ha,ht,hxT,hxa,hxs,rfl,C',dx',eC,eD,hR⟩:=hc
   cases eC
   cases eD
   have I2:qu X pins σ' H2 s':=I.untried (I1.call' os un hok bare λb z=>absurd z (by simp))
   obtain⟨⟨fl,he,hz⟩,_,_⟩:=(show qx X.prog X.w H2 s'.heap a (jr a C dx (.ref T)) from I2.hok a _ ha)
   obtain⟨st0,_,_⟩:=(show qx X.prog X.w H2 s'.heap T (ZZ T .none) from I2.hok T _ ht)
   have nT0:T≠a:=λz=>by
     obtain⟨ts,q,_⟩:=st0
     rw[z,he]at q
     cases q
   have fr:=I2.ok.frames
   have ff:=I2.stack
   rw[hst]at fr ff
   refine ZN fr ff hfm he hz st0 nT0 λh1 T' hT F tT q1 q2=>?_
   have lt:=(Array.getElem?_eq_some_iff.mp hz).1
   have g1:(fl.setIfInBounds 1 (Value.ref T'))[1]?=some (.ref T'):=by simp [lt]
   have nT:T'≠a:=λz=>by
     obtain⟨ts,q,_⟩:=q2
     rw[z,q1]at q
     cases q
   refine Qo (fs:=Zc X.stack) q1 g1 q2 λh2 F2 stt=>?_
   have anf:∀b o,H2 b=some o->b∉Zc X.stack:=λb o q z=>by
     have:=I2.stkFree b z
     rw[q]at this
     cases this
   have hTn:H2 T'=none:=I2.hok.fresh hT
   have nTT:T'≠T:=(ql ht hTn).symm
   have q3:=F2.keep a _ (anf a _ ha) (by simp [Ne.symm nT]) q1
   obtain⟨oT,hoT⟩:=tT
   have q4:=F2.keep T _ (anf T _ ht) (by simp [Ne.symm nTT]) hoT
   rw[<-hst]at F
   have I3:=I2.flown (H':=upd (upd (upd H2 a (jr a C dx (.ref T'))) T (.ext λh=>∃o,h.get? T=some o)) T' (ZZ T' .none)) (Xu.then F F2 hT) ⟨λb hb=>by
       simp only[List.mem_cons,List.not_mem_nil,or_false]at hb
       rcases hb with rfl | rfl
       . exact⟨_,ha⟩
       . exact⟨_,ht⟩,λb o hb q=>by
       simp only[List.mem_cons,List.not_mem_nil,or_false,not_or]at hb
       rw[qf (ql q hTn),qf hb.2,qf hb.1];exact q,λb hb q=>by
       rw[qf (Nat.ne_of_lt (Nat.lt_of_lt_of_le hb hT)),qf (λz=>by rw[z,ht]at q;cases q),qf (λz=>by rw[z,ha]at q;cases q)];exact q⟩ (λb hb=>by
       simp only[List.mem_cons,List.not_mem_nil,or_false]at hb
       rcases hb with rfl | rfl
       . exact⟨_,q3⟩
       . exact⟨_,q4⟩) λb o q hb=>by
     by_cases e1:b=T'
     . subst e1
       rw[qd]at q
       cases q
       exact Q6 stt
     . rw[qf e1]at q
       by_cases e2:b=T
       . subst e2
         rw[qd]at q
         cases q
         exact⟨⟨_,q4⟩,⟨_,q4⟩,λh1 h2 ⟨u,z⟩ k=>⟨u,k u z⟩⟩
       . rw[qf e2]at q
         by_cases e3:b=a
         . subst e3
           rw[qd]at q
           cases q
           exact QS ⟨_,q3,g1⟩
         . rw[qf e3]at q
           rcases hb with hb | hb
           . rw[q]at hb;cases hb
           . simp only[List.mem_cons,List.not_mem_nil,or_false]at hb
             exact(hb.elim e3 e2).elim
   have ea:upd (upd (upd H2 a (jr a C dx (.ref T'))) T (.ext λh=>∃o,h.get? T=some o)) T' (ZZ T' .none) a=some (jr a C dx (.ref T')):=by rw[qf (Ne.symm nT),qf (Ne.symm nT0),qd]
   refine hh pins _ σ' _ D a C dx T' I3 ea qd (hx a C dx T' Hx _ hR hxa (λb o nb q=>?_) ea)
   have n1:b≠T:=λz=>by rw[z,hxT]at q;cases q
   have q':=hxs b o nb q
   rw[qf (ql q' hTn),qf n1,qf nb]
   exact q'
 . cases f with
   | next=>
     obtain⟨σ',H',I',q⟩:=q
     exact wpAny_execs_nil ⟨σ',H',I.untried I',q⟩
   | brk=>
     obtain⟨σ',H',I',q⟩:=q
     exact⟨σ',H',I.untried I',q⟩
   | cont=>
     obtain⟨σ',H',I',q⟩:=q
     exact⟨σ',H',I.untried I',q⟩
   | ret u=>
     obtain⟨v,σ',H',I',r,q⟩:=q
     exact⟨v,σ',H',I.untried I',r,q⟩
@[irreducible] def JH (X:Cx) (hs:List ExceptHandler) (t:TH):Prop:=PH X hs t
theorem JH.of {X:Cx} {hs:List ExceptHandler} {t:TH} (h:PH X hs t):JH X hs t:=by unfold JH;exact h
theorem JH.to {X:Cx} {hs:List ExceptHandler} {t:TH} (h:JH X hs t):PH X hs t:=by unfold JH at h;exact h
theorem vc {X:Cx} {hs:List ExceptHandler}:JH X hs vq:=.of VE
theorem ZO {X:Cx} {x n:Str} {p pos:Pos} {j:Nat} {b₀:Stmt} {suite:List Stmt} {rest:List ExceptHandler} {ts:TS} {tr:TH} {Cl:Addr} (hg:Gl X x) (hm:X.mg x=some (.ref Cl)) (hD:V4 X.K Cl) (hN:X.N.Nodup) (hj:X.N[j]?=some n)
   (hl:X.env.scope.names.lookup n=some .local) (hs:∀v E,zr (X.suite v E) (b₀::suite) ts) (hr:JH X rest tr) (hdb:(x==("__debug__":Str))=false:=by decide):JH X (.ExceptHandler (some (.Name x p)) (some n) (b₀::suite) pos::rest) (Wo X.K Cl j ts tr):=
 .of (Wb hg hm hD.c hN hj hl (λv E=>(hs v E).to) hr.to hdb)
theorem xN {X:Cx} {body:List Stmt} {h0:ExceptHandler} {hs:List ExceptHandler} {tb:(St->XK)->TS} {th:TH} {pos:Pos} (hst:X.stack=X.env::X.outer) (hfm:X.env.frame=some X.env.locals)
   (hb:∀(pn:List (Addr×Obj)) (W:Value->Shared->Prop) (E:St->XK),QX (jN X.prog X.w) (X.tried pn W) E->zr (X.tried pn W) body (tb E)) (hh:JH X (h0::hs) th):JS X (.Try body (h0::hs) [] [] pos) (wW tb th):=
 .of (vS hst hfm (λpn W E h=>(hb pn W E h).to) hh.to)
def yt (K:PySem.W.Frag) (bm:List Value) (ta:TE) (f:Str):TE:=λσ H Q=>ta σ H λx H1=>∃a C dx hd fs v,x=.ref a/\H1 a=some (jr a C dx hd)/\H1 dx=some (.xd fs)/\Zv K C bm/\j1 K C f/\fs.lookup f=some v/\Q v H1
def UE (K:PySem.W.Frag) (bm:List Value):List V->Hp->VK->Prop:=λxs H Q=>∃a C dx hd fs c b,xs=[.ref a,c]/\yP c=true/\H a=some (jr a C dx hd)/\H dx=some (.xd fs)/\Zv K C bm/\PySem.W.kitOne K (.ref C) (yh c)=some b/\Q (.bl b) H
section
variable {X:Cx} {f:Str} {e:Expr} {pos:Pos} {ta:TE} {bm:List Value}
theorem ZQ (he:JE X e ta) (hb:attributeBase e f X.env (eval e X.env)=eval e X.env):JE X (.Attribute e f pos) (yt X.K bm ta f):=.of (by
 have he:=he.to
 intro pins s σ H Q I h
 refine W3 hb (qY (he pins s σ H _ I h) λu s1 z=>?_)
 obtain⟨x,H1,I1,rx,a,C,dx,hd,fs,v,ex,ea,ed,c,n,l,q⟩:=z
 subst ex
 obtain rfl:u=Value.ref a:=rx
 exact VW I1 ea ed c n l λu' s2 I2 ru=>⟨v,H1,I2,ru,q⟩)
theorem Qb (hn:PySem.W.specialIn X.K (.builtin "object.__class__") "__get__"=some (some (.builtin "getset_descriptor.__get__"))) (htk:PySem.W.takesIn X.K (.builtin "object.__class__")=some true):jX X (.builtin "isinstance") (UE X.K bm):=by
 intro pins s σ H xs us Q I r h
 obtain⟨a,C,dx,hd,fs,c,b,rfl,hc,ha,hdx,ec,ek,q⟩:=h
 obtain⟨u,w',rfl,ru,rw'⟩:=YI r
 have ew:w'=yh c:=by
   cases c with
   | ty n=>exact rw'
   | ref z=>exact rw'
   | _=>cases hc
 subst ew
 cases ru
 exact vj I ha hdx ec hn htk ek λtk=>⟨.bl b,H,I.tok tk,rfl,q⟩
theorem qo.cx {P:Program} {w:World} {K:PySem.W.Frag} {mg:Str->Option Value} {base:Heap} {CX:Zd} {k:Nat} {f:Addr} {fd:FuncData} {ps:List Str} {sp:Sp} (F:qo P w K mg base qZ k f fd ps sp):qo P w K mg base CX k f fd ps sp:=
 ⟨F.len,λA outer s H args us vs Q E hr he hb hv hs=>codeAny_mono (F.run A outer s H args us vs Q E hr he hb hv hs) λr s' q=>by
   match r,q with
   | .ok (.ret u),q=>exact q
   | .ok .next,q=>exact q
   | .ok .brk,q=>exact q
   | .ok .cont,q=>exact q
   | .error e,q=>exact q.elim⟩
end
end L2
set_option Elab.async false
set_option linter.all false
set_option maxRecDepth 100000
set_option maxHeartbeats 4000000
namespace PySem
open PySem.Spec
namespace F
end F
section
variable {prog:Program} {w:World} {A:Around} {R:Result->Shared->Prop} {I:Addr} {fp wr:List Addr} {n:Nat} {P:Nat->Value->Prop} {St:Nat->Heap->Prop} {κ:Type} [DecidableEq κ] {knd:KeyKind prog w κ}
end
section
variable {prog:Program} {w:World} {A:Around} {E:Value->Shared->Prop} {s:Shared} {κ:Type} [DecidableEq κ] {knd:KeyKind prog w κ}
end
end PySem
namespace L2
open PySem PySem.Spec PyProof.Rows
section
variable {X:Cx} {pins:List (Addr×Obj)} {σ:St} {H:Hp} {s:Shared}
end
end L2
set_option Elab.async false
set_option linter.all false
set_option maxRecDepth 100000
set_option maxHeartbeats 4000000
namespace L2
open PySem PySem.Spec PyProof.Rows
section
variable {P:Program} {w:World} {K:PySem.W.Frag} {mg:Str->Option Value} {base:Heap}
theorem jU.okX {CX:Zd} {x qual:Str} {st:Stmt} {f:Addr} {fd:FuncData} {N ps:List Str} {k:Nat} {sp:Sp} (F:jU K x qual st f fd) (S:qz N ps (qi st)) (len:∀vs H Q E,sp vs H Q E->vs.length=ps.length)
   (hbody:∀(cdv:Value) (A:Around) (outer:List Env) (s:Shared) (H:Hp) (vs:List V) (Q:VK) (E:XK),qS k (A.deeper (envOfC qual (qi st) s.heap.objs.size f cdv))->sp vs H Q E->
     ∃t,zr (js CX P w K mg base N qual (qi st) f cdv A outer s H E) (je st) t/\t {nx:=λ_ H'=>Q .non H',rt:=Q} (jM N vs) H):qo P w K mg base CX (k+1) f fd ps sp:=by
 obtain⟨oc,od,kV,doc,pm,an,cdv,ct,osl,rfl,lk,hcd⟩:=F.ex
 refine yR lk hcd S len λA outer s H vs Q E hr hsp=>?_
 obtain⟨t,h,q⟩:=hbody cdv A outer s H vs Q E hr hsp
 exact⟨t,h.to,q⟩
end
def yr (t:TA):TE:=λσ H Q=>t σ H λxs H1=>xs.length<=sizeLine/\∀p,H1 p=none->p≠sysModules->Q (.ref p) (upd H1 p (.lst xs))
section
variable {X:Cx} {es:List Expr} {t:TA} {pos:Pos}
theorem jG (h:JA X es t):JE X (.List es pos) (yr t):=.of (by
 have h:=h.to
 intro pins s σ H Q I hq
 refine wpAny_List_spliced (qY (h pos pins s σ H _ I hq) λus s1 ⟨xs,H1,I1,r,z,q⟩=>⟨by rw[<-r.length];exact z,?_⟩)
 have hf:H1 s1.heap.objs.size=none:=I1.hok.fresh (Nat.le_refl _)
 refine⟨.ref s1.heap.objs.size,upd H1 s1.heap.objs.size (.lst xs),I1.laid (t':=s1.toks) (λb u e=>Heap.get?_push_of_some _ e) (Nat.le_refl _) ?_,rfl,q _ hf (Ne.symm (Nat.ne_of_lt I1.big))⟩
 exact⟨z,us,0,r,Heap.get?_push_size _ rfl⟩)
end
end L2
set_option Elab.async false
set_option linter.all false
set_option maxRecDepth 100000
set_option maxHeartbeats 4000000
namespace L2
open PySem PySem.Spec PyProof.Rows
section
variable {X:Cx}
def xj (K:PySem.W.Frag) (neg:Bool):R2:=λx y H Q=>∃d ds,DV K H x d/\DV K H y (.list ds)/\d.canLay0=true/\PyData.canLayAll0 ds=true/\d.depth<=40/\Q (.bl (if neg then !(ds.any λz=>PyData.eqv z d) else ds.any λz=>PyData.eqv z d)) H
theorem xr (hu:X.A.units+64 < cLine):JF X (compareOp .In) (xj X.K false):=by
 intro pins s σ H x y v u Q I rx ry h
 obtain⟨d,ds,h1,h2,c1,c2,dp,q⟩:=h
 obtain⟨as,ra⟩:=h1.reads I rx
 obtain⟨bs,rb⟩:=h2.reads I ry
 refine SeqAt.in_list_reads rb ra c2 c1 ?_ ⟨.bl _,H,I,rfl,q⟩
 have:=Nat.min_le_right (PyData.depthAll ds) d.depth
 omega
theorem Vu (hu:X.A.units+64 < cLine):JF X (compareOp .NotIn) (xj X.K true):=by
 intro pins s σ H x y v u Q I rx ry h
 obtain⟨d,ds,h1,h2,c1,c2,dp,q⟩:=h
 obtain⟨as,ra⟩:=h1.reads I rx
 obtain⟨bs,rb⟩:=h2.reads I ry
 refine SeqAt.notIn_list_reads rb ra c2 c1 ?_ ⟨.bl _,H,I,rfl,q⟩
 have:=Nat.min_le_right (PyData.depthAll ds) d.depth
 omega
end
end L2
namespace L2
open PySem PySem.Spec PyProof.Rows
end L2
set_option Elab.async false
set_option linter.all false
set_option maxRecDepth 100000
set_option maxHeartbeats 4000000
namespace L2
open PySem PySem.Spec PySem.W PyProof.Rows
section
variable {α β:Type} {lt:Nat->Nat->Bool} {n:Nat}
def evT (lt:Nat->Nat->Bool):KasT α->α
 | .ret a=>a
 | .ask i j k=>evT lt (k (lt i j))
end
def ltS (zs:List Str) (i j:Nat):Bool:=decide ((zs.getD i "").cps.toList < (zs.getD j "").cps.toList)
def srt (zs:List Str):List Nat:=if zs.length < 2 then List.range zs.length else (evT (ltS zs) (kas_sort zs.length)).toList
section
variable {P:Program} {w:World} {B:Around} {F:Value->Shared->Prop} {z:Shared}
end
section
variable {X:Cx} {o:Expr} {td:TE} {p1 p2 pos1 pos2 ap cp:Pos}
end
section
variable {X:Cx}
def ub (K:PySem.W.Frag):R2:=λx y H Q=>∃a b xs ys,x=.ref a/\y=.ref b/\SqL K H a xs/\SqL K H b ys/\xs.length+ys.length<=sizeLine/\∀l,H l=none->Q (.ref l) (upd H l (.lst (xs++ys)))
theorem Paired.app {α β:Type} {G:α->β->Prop}:∀{l m:List α} {l' m':List β},Paired G l l'->Paired G m m'->Paired G (l++m) (l'++m')
 | _,_,_,_,.nil,h=>h
 | _,_,_,_,.cons a r,h=>.cons a (Paired.app r h)
theorem Yj:JF X (binaryOp .Add) (ub X.K):=by
 intro pins s σ H x y v u Q I rx ry h
 obtain⟨a,b,xs,ys,rfl,rfl,ha,hb,hz,q⟩:=h
 cases rx
 cases ry
 obtain⟨its,rv,pl,_⟩:=I.list ha
 obtain⟨its2,rv2,pl2,_⟩:=I.list hb
 have l1:=rv.length
 have l2:=rv2.length
 obtain⟨⟨cls,dd,data,sl⟩,ho,hc,n,hd⟩:=id pl.isList
 obtain⟨⟨cls2,dd2,data2,sl2⟩,ho2,hc2,n2,hd2⟩:=id pl2.isList
 simp only at hc hd hc2 hd2
 subst hc hd hc2 hd2
 have e:its.toArray++its2.toArray=(its++its2).toArray:=by simp
 refine concat_meets ⟨_,ho,rfl⟩ ⟨_,ho2,rfl⟩ noFill_list_add seq_list_add PySem.F.slot_list_add PySem.F.entry_list_add (PySem.F.args_list_add_2 _ _) (list_addW a b its.toArray its2.toArray n n2 dd dd2 sl sl2 (by simp only[List.size_toArray];omega)) ⟨ho,ho2,?_⟩
 rw[e]
 exact⟨.ref s.heap.objs.size,_,I.laid (t':=s.toks) (o:=.lst (xs++ys)) (λb u h=>Heap.get?_push_of_some _ h) (Nat.le_refl _) ⟨by rw[List.length_append];exact hz,its++its2,_,Paired.app rv rv2,Heap.get?_push_size _ rfl⟩,rfl,q _ (I.hok.fresh (Nat.le_refl _))⟩
end
end L2
set_option Elab.async false
set_option linter.all false
set_option maxRecDepth 100000
set_option maxHeartbeats 4000000
namespace L2
open PySem PySem.Spec PySem.W PyProof.Rows
section
variable {X:Cx}
end
end L2
set_option Elab.async false
set_option linter.all false
set_option maxRecDepth 100000
set_option maxHeartbeats 4000000
namespace L2
open PySem PySem.Spec PySem.W PyProof.Rows
section
variable {P:Program} {w:World} {B:Around} {F:Value->Shared->Prop} {z:Shared}
end
section
variable {X:Cx}
end
end L2
set_option Elab.async false
set_option linter.all false
set_option maxRecDepth 100000
set_option maxHeartbeats 4000000
namespace L2
open PySem PySem.Spec PySem.W PyProof.Rows
section
variable {prog:Program} {w:World} {A:Around} {R:Result->Shared->Prop} {I:Addr} {fp wr:List Addr} {G:Array GenState->Array GenState->Prop} {n:Nat} {P:Nat->Value->Prop} {St:Nat->Shared->Prop}
end
section
variable {prog:Program} {w:World} {A:Around} {E:Value->Shared->Prop} {s:Shared}
end
section
variable {X:Cx} {e:Expr} {te:TE} {p1 p2 pos1 pos2:Pos}
end
end L2
set_option Elab.async false
set_option linter.all false
set_option maxRecDepth 100000
set_option maxHeartbeats 4000000
namespace L2
open PySem PyProof.Rows
end L2
set_option Elab.async false
set_option linter.all false
set_option maxRecDepth 100000
set_option maxHeartbeats 4000000
namespace L2
open PySem PyProof.Rows
section
variable {prog:Program} {w:World} {KK:Type} [DecidableEq KK] {kd:HeapKind prog w KK} {A:Around} {E:Value->Shared->Prop} {s:Shared}
end
section
variable {X:Cx} {pins:List (Addr×Obj)} {σ:St} {H:Hp} {s:Shared} {a b:Addr} {v:V} {r:Value} {A:Around} {E:Value->Shared->Prop}
end
section
variable {X:Cx} {o e f:Expr} {apos cpos:Pos} {td ty tx:TE}
end
end L2
set_option Elab.async false
set_option linter.all false
set_option maxRecDepth 100000
set_option maxHeartbeats 4000000
namespace L2
open PySem PyProof.Rows
section
variable {X:Cx}
end
end L2
set_option Elab.async false
set_option linter.all false
set_option maxRecDepth 100000
set_option maxHeartbeats 4000000
namespace L2
open PySem PySem.Spec PyProof.Rows
section
variable {X:Cx} {pins:List (Addr×Obj)} {σ:St} {H:Hp} {s:Shared} {tg:Expr}
end
section
variable {a:Addr} {o:Obj} {kvs:List (qP×V)} {zs:List Str} {g:TG} {σ:St} {H:Hp}
end
end L2
set_option Elab.async false
set_option linter.all false
set_option maxRecDepth 100000
set_option maxHeartbeats 4000000
namespace L2
open PySem PySem.Spec PyProof.Rows
section
variable {X:Cx} {pins pins0:List (Addr×Obj)} {σ σ0:St} {H H0:Hp} {s s0:Shared}
end
section
variable {X:Cx}
theorem wX {P:Program} {w:World} {H:Hp} {h:Heap} {a:Addr} {kvs:List (qP×V)} (ok:QZ P w H h) (e:Rd H a (.dK kvs)):(a==sysModules)=false/\∃vs,KV kvs vs/\h.DictOf (jd P w) a vs:=by
 obtain⟨_,hd,vs,rel,d⟩:=e.ok ok
 exact⟨hd,vs,rel,d⟩
theorem Q5 (b:Str) (u:Tok) (l:Addr) (c:Value) (es:Array DictEntry) (ep:Nat) (dd:Option Addr) (sl:Array (Option Value)):
   Meets (Builtin.«str.__eq__» ⟨[.str b u,.ref l],[]⟩) (λ_ R s=>s.heap.get? l=some {cls:=c,dict:=dd,data:=.dict es ep,slots:=sl}/\R (.ok (.ret .notImplemented)) s):=
 .of_wp λprog w A R s h=>by obtain⟨hp,g,d,tk,os⟩:=s;obtain⟨hl,h⟩:=h;wp_walk using wpAny_loadPart' hl,wpAny_load hl;exact⟨_,rfl,h⟩
theorem YV {A:Around} {s:Shared} {l:Addr} {P:Program} {W:World} {vs:List (qP×Value)} (b:Str) (u:Tok) (hl:s.heap.DictOf (jd P W) l vs) (hu:A.units < cLine):SeqAt.RcAt A s (.str b u) (.ref l) false:=λprog w E Q h=>by
 obtain⟨⟨cls,dd,data,sl⟩,es,ep,ho,hc,hd,_⟩:=id hl
 have ti:=hl.typeIs
 obtain⟨hc1,_⟩:=hc
 simp only at hc1 hd
 subst hc1 hd
 refine SeqAt.rc_eq_decline_or (k:=false) (typeIs_str s b u) ti (by decide) F.sub_dict_str F.slot_str_eq F.slot_dict_eq_refl
   (λ_ hq=>call_meets F.slot_str_eq (typeIs_str s b u) F.entry_str_eq (F.args_str_eq_2 _ _) (Q5 b u l _ es ep dd sl) ⟨ho,hq⟩)
   (λQ' hq=>wpAny_call_entry PySem.F.slot_dict_eq_refl ti PySem.F.entry_dict_eq ?_ (PySem.F.args_dict_eq_2 _ _))
   (λ_ hq=>wpAny_of_eq (rfl:isSame (.str b u) (.ref l)=pure false) hq) (.inr hu) h
 show wpAny _ _ (Builtin.Dict.dictSlotArgs "__eq__" ⟨[.ref l,.str b u],[]⟩ >>= _) _ _ s
 refine wpAny_bind ?_
 unfold Builtin.Dict.dictSlotArgs
 refine wpAny_bind (wpAny_notOrdered_dict ti ?_)
 show wpAny _ _ (pure (Value.ref l,Value.str b u)) _ _ s
 refine wpAny_pure ?_
 refine wpAny_bind (wpAny_isInstance (T:="str") (typeIs_str s b u) PySem.F.sub_str_dict ?_)
 simp only[Bool.not_false,if_true]
 exact wpAny_bind (wpAny_rule (wpAny_pure ⟨_,rfl,hq⟩))
theorem Xd {A:Around} {s:Shared} {l:Addr} {P:Program} {W:World} {vs:List (qP×Value)} (b:Str) (u:Tok) (hl:s.heap.DictOf (jd P W) l vs) (hu:A.units < cLine):SeqAt.EqAt A s (.str b u) (.ref l) false:=λprog w E Q h=>by
 unfold eqBool
 refine wpAny_holding ?_
 refine wpAny_ite_split (λhab=>absurd (eq_of_beq hab) nofun) (λ_=>?_)
 exact wpAny_bind (YV b u hl hu prog w E _ (wpAny_truthy_bool h))
def UD (K:PySem.W.Frag):R2:=λx y H Q=>∃(a p:Addr) (kvs:List (qP×V)) (zs:List Str),x=.ref a/\y=.ref p/\H a=some (.dK kvs)/\SqL K H p (zs.map V.str)/\Q (.bl true) H
theorem UO (hu:X.A.units+64 < cLine):JF X (compareOp .NotIn) (UD X.K):=by
 intro pins s σ H x y v u Q I rx ry h
 obtain⟨a,p,kvs,zs,rfl,rfl,ea,hp,q⟩:=h
 cases rx
 cases ry
 obtain⟨hda,va,ra,da⟩:=wX I.hok (.inl ea)
 obtain⟨its,rv,pl,_⟩:=I.list hp
 refine SeqAt.notIn_listAt (λ_=>false) pl.isList (λy hy=>?_) ⟨.bl true,H,I,?_,q⟩
 . have hy':y∈its:=by simpa using hy
   obtain⟨i,hi,e⟩:=List.getElem_of_mem hy'
   have l:=rv.length
   obtain⟨y',e1,r1⟩:=Jy rv (List.getElem?_eq_getElem (by omega:i < (zs.map V.str).length))
   rw[List.getElem?_eq_getElem hi,e]at e1
   cases e1
   rw[List.getElem_map]at r1
   obtain⟨t,rfl⟩:=r1
   exact Xd _ t da (by show X.A.units+1 < cLine;omega)
 . show Value.bool _=Value.bool _
   simp
def kx (K:PySem.W.Frag):R2:=λx y H Q=>xj K true x y H Q\/UD K x y H Q
theorem Vt (hu:X.A.units+64 < cLine):JF X (compareOp .NotIn) (kx X.K):=λpins s σ H x y v u Q I rx ry h=>
 h.elim (λh=>Vu hu pins s σ H x y v u Q I rx ry h) λh=>UO hu pins s σ H x y v u Q I rx ry h
end
end L2
namespace L2
open PySem PyProof.Rows
end L2
set_option Elab.async false
set_option linter.all false
set_option maxRecDepth 100000
set_option maxHeartbeats 4000000
namespace HT
open PySem PySem.Spec PyProof.Rows
section
variable {prog:Program} {w:World} {A:Around} {E:Value->Shared->Prop} {s:Shared}
end
end HT
namespace L2
open PySem PySem.Spec PyProof.Rows
section
variable {X:Cx}
end
end L2
namespace L2
open PySem PyProof.Rows
end L2
set_option Elab.async false
set_option linter.all false
set_option maxRecDepth 100000
set_option maxHeartbeats 4000000
namespace L2
open PySem PySem.Spec PyProof.Rows
section
variable {X:Cx} {CX:Zd} {C:Addr->Sp->Prop} {E:St->XK} {x:Str} {p pos:Pos} {e:Expr} {es:List Expr} {t:TA} {i:Nat}
end
end L2
set_option Elab.async false
set_option linter.all false
set_option maxRecDepth 100000
set_option maxHeartbeats 4000000
namespace L2
open PySem PySem.Spec PyProof.Rows
section
variable {M:Model} {A:Around} {F:Value->Shared->Prop} {s:Shared} {e:Addr} {cl:Value} {d:Option Addr} {vs:Array Value} {Q:Unit->Shared->Prop}
theorem X8 {T:Addr} {fl:Value} {fs:List Addr} {fr:Option Addr} (he:s.heap.get? e=some {cls:=cl,dict:=d,data:=.fields vs}) (h1:vs[1]?=some (.ref T)) (st:vJ T fl s.heap)
   (k:∀h',Xu fs [T] s.heap h'->vJ T (fr.elim .none λf=>rawInt f) h'->Q () {s with heap:=h'}):wpAny M A (setFlight (.ref e) fr) Q F s:=by
 obtain⟨ts,ht,h3⟩:=st
 have lt:=(Array.getElem?_eq_some_iff.mp h3).1
 unfold setFlight
 refine wpAny_bind (wpAny_field he rfl h1 ?_)
 rw[if_pos (show (Value.ref T != Value.none)=true from by simp)]
 refine wpAny_setField ht rfl lt (k _ ⟨λb o _ n q=>?_,λb o _ n q=>⟨o.slots,?_⟩⟩ ⟨_,Heap.get?_update_self _ ht rfl,by simp [lt]⟩)
 all_goals
   rw[Heap.get?_update_other _ _ λz=>n (by simp [z])]
   exact q
end
section
variable {X:Cx} {pins:List (Addr×Obj)} {σ:St} {H:Hp} {s:Shared} {M:Model} {F:Value->Shared->Prop} {Q:Unit->Shared->Prop} {a C dx:Addr}
theorem yd (I:qu X pins σ H s) (hst:X.stack=X.env::X.outer) (hfm:X.env.frame=some X.env.locals) (ha:H a=some (Qu a C dx))
   (k:∀T h',H T=none->T≠a->qu X pins σ (upd (upd H a (jr a C dx (.ref T))) T (ZZ T (rawInt X.env.locals))) {s with heap:=h'}->Q () {s with heap:=h'}):wpAny M X.A (noteFrame (.ref a) X.env) Q F s:=by
 obtain⟨⟨fl,he,hz⟩,_,_⟩:=(show qx X.prog X.w H s.heap a (jr a C dx .none) from I.hok a _ ha)
 have fr:=I.ok.frames
 have ff:=I.stack
 rw[hst]at fr ff
 refine Y2 fr ff hfm he hz λh1 T hT F1 q1 q2=>?_
 rw[<-hst]at F1
 have lt:=(Array.getElem?_eq_some_iff.mp hz).1
 have g1:(fl.setIfInBounds 1 (Value.ref T))[1]?=some (.ref T):=by simp [lt]
 have nT:T≠a:=λz=>by
   obtain⟨ts,q,_⟩:=q2
   rw[z,q1]at q
   cases q
 have hTn:H T=none:=I.hok.fresh hT
 refine k T h1 hTn nT (I.flown F1 ⟨λb hb=>by cases List.mem_singleton.mp hb;exact⟨_,ha⟩,λb o hb q=>by
     rw[qf (ql q hTn),qf λz=>hb (by simp [z])];exact q,λb hb q=>by
     rw[qf (Nat.ne_of_lt (Nat.lt_of_lt_of_le hb hT)),qf λz=>by rw[z,ha]at q;cases q];exact q⟩ (λb hb=>by cases List.mem_singleton.mp hb;exact⟨_,q1⟩) λb o q hb=>?_)
 by_cases e1:b=T
 . subst e1
   rw[qd]at q
   cases q
   exact Q6 q2
 . rw[qf e1]at q
   by_cases e2:b=a
   . subst e2
     rw[qd]at q
     cases q
     exact QS ⟨_,q1,g1⟩
   . rw[qf e2]at q
     rcases hb with hb | hb
     . rw[q]at hb;cases hb
     . exact absurd (List.mem_singleton.mp hb) e2
theorem xX {T:Addr} (I:qu X pins σ H s) (hst:X.stack=X.env::X.outer) (hfm:X.env.frame=some X.env.locals) (ha:H a=some (jr a C dx (.ref T))) (ht:H T=some (ZZ T .none))
   (k:∀T' h',H T'=none->T'≠a->qu X pins σ (upd (upd (upd H a (jr a C dx (.ref T'))) T (.ext λh=>∃o,h.get? T=some o)) T' (ZZ T' (rawInt X.env.locals))) {s with heap:=h'}->Q () {s with heap:=h'}):wpAny M X.A (noteFrame (.ref a) X.env) Q F s:=by
 obtain⟨⟨fl,he,hz⟩,_,_⟩:=(show qx X.prog X.w H s.heap a (jr a C dx (.ref T)) from I.hok a _ ha)
 obtain⟨st0,_,_⟩:=(show qx X.prog X.w H s.heap T (ZZ T .none) from I.hok T _ ht)
 have nT0:T≠a:=λz=>by
   obtain⟨ts,q,_⟩:=st0
   rw[z,he]at q
   cases q
 have fr:=I.ok.frames
 have ff:=I.stack
 rw[hst]at fr ff
 refine ZN fr ff hfm he hz st0 nT0 λh1 T' hT F1 tT q1 q2=>?_
 rw[<-hst]at F1
 have lt:=(Array.getElem?_eq_some_iff.mp hz).1
 have g1:(fl.setIfInBounds 1 (Value.ref T'))[1]?=some (.ref T'):=by simp [lt]
 have nT:T'≠a:=λz=>by
   obtain⟨ts,q,_⟩:=q2
   rw[z,q1]at q
   cases q
 have hTn:H T'=none:=I.hok.fresh hT
 obtain⟨oT,hoT⟩:=tT
 refine k T' h1 hTn nT (I.flown F1 ⟨λb hb=>by
     simp only[List.mem_cons,List.not_mem_nil,or_false]at hb
     rcases hb with rfl | rfl
     . exact⟨_,ha⟩
     . exact⟨_,ht⟩,λb o hb q=>by
     simp only[List.mem_cons,List.not_mem_nil,or_false,not_or]at hb
     rw[qf (ql q hTn),qf hb.2,qf hb.1];exact q,λb hb q=>by
     rw[qf (Nat.ne_of_lt (Nat.lt_of_lt_of_le hb hT)),qf (λz=>by rw[z,ht]at q;cases q),qf (λz=>by rw[z,ha]at q;cases q)];exact q⟩ (λb hb=>by
     simp only[List.mem_cons,List.not_mem_nil,or_false]at hb
     rcases hb with rfl | rfl
     . exact⟨_,q1⟩
     . exact⟨_,hoT⟩) λb o q hb=>?_)
 by_cases e1:b=T'
 . subst e1
   rw[qd]at q
   cases q
   exact Q6 q2
 . rw[qf e1]at q
   by_cases e2:b=T
   . subst e2
     rw[qd]at q
     cases q
     exact⟨⟨_,hoT⟩,⟨_,hoT⟩,λh1 h2 ⟨u,z⟩ k=>⟨u,k u z⟩⟩
   . rw[qf e2]at q
     by_cases e3:b=a
     . subst e3
       rw[qd]at q
       cases q
       exact QS ⟨_,q1,g1⟩
     . rw[qf e3]at q
       rcases hb with hb | hb
       . rw[q]at hb;cases hb
       . simp only[List.mem_cons,List.not_mem_nil,or_false]at hb
         exact(hb.elim e3 e2).elim
theorem Xb {T:Addr} (I:qu X pins σ H s) (hfm:X.env.frame=some X.env.locals) (ha:H a=some (jr a C dx (.ref T))) (ht:H T=some (ZZ T (rawInt X.env.locals))) (k:Q () s):wpAny M X.A (noteFrame (.ref a) X.env) Q F s:=by
 obtain⟨⟨fl,he,hz⟩,_,_⟩:=(show qx X.prog X.w H s.heap a (jr a C dx (.ref T)) from I.hok a _ ha)
 obtain⟨st0,_,_⟩:=(show qx X.prog X.w H s.heap T (ZZ T (rawInt X.env.locals)) from I.hok T _ ht)
 exact VD hfm he hz st0 k
theorem Yu {T:Addr} {fl:Value} {fr:Option Addr} (I:qu X pins σ H s) (ha:H a=some (jr a C dx (.ref T))) (ht:H T=some (ZZ T fl))
   (k:∀h',qu X pins σ (upd H T (ZZ T (fr.elim .none λf=>rawInt f))) {s with heap:=h'}->Q () {s with heap:=h'}):wpAny M X.A (setFlight (.ref a) fr) Q F s:=by
 obtain⟨⟨fs,he,hz⟩,_,_⟩:=(show qx X.prog X.w H s.heap a (jr a C dx (.ref T)) from I.hok a _ ha)
 obtain⟨st0,_,_⟩:=(show qx X.prog X.w H s.heap T (ZZ T fl) from I.hok T _ ht)
 refine X8 (fs:=Zc X.stack) he hz st0 λh1 F1 st=>?_
 obtain⟨ts,q,z⟩:=id st
 refine k h1 (I.flown F1 ⟨λb hb=>by cases List.mem_singleton.mp hb;exact⟨_,ht⟩,λb o hb q=>by rw[qf (λz=>hb (by simp [z]))];exact q,λb hb q=>by rw[qf (λz=>by rw[z,ht]at q;cases q)];exact q⟩ (λb hb=>by cases List.mem_singleton.mp hb;exact⟨_,q⟩) λb o q hb=>?_)
 by_cases e1:b=T
 . subst e1
   rw[qd]at q
   cases q
   exact Q6 st
 . rw[qf e1]at q
   rcases hb with hb | hb
   . rw[q]at hb;cases hb
   . exact absurd (List.mem_singleton.mp hb) e1
end
def W7 (X:Cx) (pins:List (Addr×Obj)) (E:XK):Value->Shared->Prop:=λe s=>
 (∃(a C dx:Addr) (H:Hp) (σ:St),e=.ref a/\qu X pins σ H s/\H a=some (Qu a C dx)/\E (.ref C) (some dx) H)\/
 ∃(a C dx T:Addr) (fl:Value) (Hx H:Hp) (σ:St),e=.ref a/\qu X pins σ H s/\(fl=.none\/fl=rawInt X.env.locals)/\H a=some (jr a C dx (.ref T))/\H T=some (ZZ T fl)/\Hx T=none/\Hx a=some (Qu a C dx)/\(∀b o,b≠a->Hx b=some o->H b=some o)/\E (.ref C) (some dx) Hx
theorem VR {X:Cx} {pins:List (Addr×Obj)} {E:XK} (hst:X.stack=X.env::X.outer) (hfm:X.env.frame=some X.env.locals):PassesOwn (model X.prog X.w) X.A X.env (W7 X pins E):=by
 intro e s h
 have back:∀{a C dx T:Addr} {fl:Value} {H Hx:Hp} {σ:St} {s':Shared},qu X pins σ H s'->H a=some (jr a C dx (.ref T))->H T=some (ZZ T fl)->T≠a->Hx T=none->Hx a=some (Qu a C dx)->(∀b o,b≠a->Hx b=some o->H b=some o)->E (.ref C) (some dx) Hx->cameBackBy (model X.prog X.w) X.A X.env (W7 X pins E) (.ref a) s':=λ{a C dx T fl H Hx σ s'} I ha ht nT h1 h2 h3 hE=>by
   obtain⟨⟨fs,he,hz⟩,_,_⟩:=(show qx X.prog X.w H s'.heap a (jr a C dx (.ref T)) from I.hok a _ ha)
   unfold cameBackBy
   refine wpAny_bind (wpAny_field he rfl hz ?_)
   rw[if_neg (show ¬((Value.ref T==Value.none)=true) by simp)]
   first
     | refine Yu I ha ht λh' I2=>?_
     | refine wpAny_bind (wpAny_pure (Yu I ha ht λh' I2=>?_))
   refine .inr ⟨a,C,dx,T,_,Hx,_,σ,rfl,I2,.inr (by rw[hfm];rfl),by rw[qf (Ne.symm nT)];exact ha,qd,h1,h2,λb o nb q=>?_,hE⟩
   rw[qf (λz=>by rw[z,h1]at q;cases q)]
   exact h3 b o nb q
 rcases h with ⟨a,C,dx,H,σ,rfl,I,ha,hE⟩ | ⟨a,C,dx,T,fl,Hx,H,σ,rfl,I,hfl,ha,ht,h1,h2,h3,hE⟩
 . refine yd I hst hfm ha λT h' hT nT I2=>?_
   exact back (Hx:=H) I2 (by rw[qf (Ne.symm nT)];exact qd) qd nT hT ha (λb o nb q=>by rw[qf (ql q hT),qf nb];exact q) hE
 . have nT:T≠a:=λz=>by rw[z,h2]at h1;cases h1
   rcases hfl with rfl | rfl
   . refine xX I hst hfm ha ht λT' h' hT nT' I2=>?_
     refine back (Hx:=Hx) I2 (by rw[qf (Ne.symm nT'),qf (Ne.symm nT)];exact qd) qd nT' ?_ h2 (λb o nb q=>?_) hE
     . cases q:Hx T' with
       | none=>rfl
       | some o=>rw[h3 T' o nT' q]at hT;cases hT
     . have n1:b≠T:=λz=>by rw[z,h1]at q;cases q
       have q':=h3 b o nb q
       rw[qf (ql q' hT),qf n1,qf nb]
       exact q'
   . exact Xb I hfm ha ht (back I ha ht nT h1 h2 h3 hE)
section
variable {P:Program} {w:World} {K:PySem.W.Frag} {mg:Str->Option Value} {base:Heap} {N:List Str} {qual:Str} {scope:Scope} {f:Addr} {cd:Value} {A:Around} {outer:List Env} {s₀:Shared} {H₀:Hp} {E:XK}
theorem VS {pins:List (Addr×Obj)} {e:Value} {s:Shared} (h:W7 (js (jN P w) P w K mg base N qual scope f cd A outer s₀ H₀ E) pins E e s):(js (jN P w) P w K mg base N qual scope f cd A outer s₀ H₀ E).xe e s:=by
 rcases h with ⟨a,C,dx,H,σ,rfl,I,ha,hE⟩ | ⟨a,C,dx,T,fl,Hx,H,σ,rfl,I,hfl,ha,ht,h1,h2,h3,hE⟩
 . exact Qg pins σ H s a C dx I ha hE
 . rcases hfl with rfl | rfl
   . exact Qh pins σ H s _ s I ⟨a,C,dx,T,Hx,H,rfl,rfl,I.bare,Un.refl,I.hok,ha,ht,h1,h2,h3,hE⟩
   . show wpAny _ _ (leaving _ _) _ _ s
     unfold leaving
     refine wpAny_bind (Xb I rfl ha ht ?_)
     have nT:T≠a:=λz=>by rw[z,h2]at h1;cases h1
     refine Yu (fr:=none) I ha ht λh' I2=>?_
     refine⟨a,C,dx,T,Hx,_,rfl,I2.os,I2.bare,I2.base,I2.hok,by rw[qf (Ne.symm nT)];exact ha,qd,h1,h2,λb o nb q=>?_,hE⟩
     rw[qf (λz=>by rw[z,h1]at q;cases q)]
     exact h3 b o nb q
theorem U5 {st:Stmt} {t:TS} (h:∀(pn:List (Addr×Obj)) (W:Value->Shared->Prop),PassesOwn (model P w) (js (jN P w) P w K mg base N qual scope f cd A outer s₀ H₀ E).A (js (jN P w) P w K mg base N qual scope f cd A outer s₀ H₀ E).env W->
     jm (jN P w) ((js (jN P w) P w K mg base N qual scope f cd A outer s₀ H₀ E).tried pn W) E->YD ((js (jN P w) P w K mg base N qual scope f cd A outer s₀ H₀ E).tried pn W) E->JS ((js (jN P w) P w K mg base N qual scope f cd A outer s₀ H₀ E).tried pn W) st t):
   PS (js (jN P w) P w K mg base N qual scope f cd A outer s₀ H₀ E) st t:=by
 intro pins s σ H D I hw
 refine wpAny_mono ((h _ (W7 _ pins E) (VR rfl rfl) ?_ ?_).to [] s σ H D (I.tried _) hw) (λfl s1 q=>?_) (λe s1 z=>VS z)
 . intro pins' σ' H1 s1 e s' I1 hc
   obtain⟨a,C,dx,T,Hx,H2,rfl,os,bare,un,hok,ha,ht,hxT,hxa,hxs,hE⟩:=hc
   have I2:=I.untried (I1.call' os un hok bare λb z=>absurd z (by simp))
   exact .inr ⟨a,C,dx,T,.none,Hx,H2,σ',rfl,I2,.inl rfl,ha,ht,hxT,hxa,hxs,hE⟩
 . intro pins' σ' H1 s1 a C dx I1 ha hE
   exact .inl ⟨a,C,dx,H1,σ',rfl,I.untried I1,ha,hE⟩
 . cases fl with
   | next=>obtain⟨σ',H',I',q⟩:=q;exact⟨σ',H',I.untried I',q⟩
   | brk=>obtain⟨σ',H',I',q⟩:=q;exact⟨σ',H',I.untried I',q⟩
   | cont=>obtain⟨σ',H',I',q⟩:=q;exact⟨σ',H',I.untried I',q⟩
   | ret u=>obtain⟨v,σ',H',I',r,q⟩:=q;exact⟨v,σ',H',I.untried I',r,q⟩
theorem WO {st:Stmt} {t:TS} (h:∀(pn:List (Addr×Obj)) (W:Value->Shared->Prop),PassesOwn (model P w) (js (jN P w) P w K mg base N qual scope f cd A outer s₀ H₀ E).A (js (jN P w) P w K mg base N qual scope f cd A outer s₀ H₀ E).env W->
     jm (jN P w) ((js (jN P w) P w K mg base N qual scope f cd A outer s₀ H₀ E).tried pn W) E->YD ((js (jN P w) P w K mg base N qual scope f cd A outer s₀ H₀ E).tried pn W) E->JS ((js (jN P w) P w K mg base N qual scope f cd A outer s₀ H₀ E).tried pn W) st t):
   JS (js (jN P w) P w K mg base N qual scope f cd A outer s₀ H₀ E) st t:=.of (U5 h)
end
end L2
set_option Elab.async false
set_option linter.all false
set_option maxRecDepth 100000
set_option maxHeartbeats 4000000
namespace L2
open PySem PySem.Spec PyProof.Rows
section
variable {X:Cx}
end
end L2
set_option Elab.async false
set_option linter.all false
set_option maxRecDepth 100000
set_option maxHeartbeats 4000000
namespace L2
open PySem PySem.Spec PyProof.Rows
def uQ:Obj:={cls:=.type "cell",data:=.cell none}
structure OwnC (n:Nat) (l:List (Str×NameKind)) (cs cs':List (Str×Addr)) (h h':Heap):Prop where
 kp:∀b o,h.get? b=some o->h'.get? b=some o
 same:∀x,(x,NameKind.cell)∉l->cs'.lookup x=cs.lookup x
 own:∀x,(x,NameKind.cell)∈l->∃c,cs'.lookup x=some c/\n<=c/\h'.get? c=some uQ
 inj:∀x y c,(x,NameKind.cell)∈l->(y,NameKind.cell)∈l->cs'.lookup x=some c->cs'.lookup y=some c->x=y
structure Gm (X:Cx) (N':List Str) (ix:List (Option Nat)) (scope:Scope):Prop where
 kind:scope.kind=.function
 nd:(scope.names.map (·.1)).Nodup
 frees:(scope.names.all λx=>x.2 != .free || (X.env.scope.names.lookup x.1==some .cell || X.env.scope.names.lookup x.1==some .free))=true
 ixs:k4 N' X.N scope X.env.scope ix=true
section
variable {X:Cx} {N':List Str} {ix:List (Option Nat)} {scope:Scope} {pins:List (Addr×Obj)} {σ:St} {H:Hp} {s:Shared}
end
section
variable {X:Cx} {N':List Str} {ix:List (Option Nat)} {scope:Scope}
end
end L2
set_option Elab.async false
set_option linter.all false
set_option maxRecDepth 100000
set_option maxHeartbeats 4000000
namespace L2
open PySem PySem.Spec PyProof.Rows
section
variable {X:Cx} {CX:Zd} {k:Nat} {f C:Addr} {fd:FuncData} {ps:List Str} {sp:Sp} {dvs:List V} {ds:List Value} {E:St->XK} {m:Str} {pos apos:Pos} {e o:Expr} {es:List Expr} {ta:TE} {t:TA}
end
end L2
set_option Elab.async false
set_option linter.all false
set_option maxRecDepth 100000
set_option maxHeartbeats 4000000
namespace L2
open PySem PySem.Spec PyProof.Rows
section
variable {X:Cx}
end
end L2
set_option Elab.async false
set_option linter.all false
set_option maxRecDepth 100000
set_option maxHeartbeats 4000000
namespace L2
open PySem PySem.Spec PyProof.Rows PySem.W
section
variable {X:Cx}
end
end L2
set_option Elab.async false
set_option linter.all false
set_option maxRecDepth 100000
set_option maxHeartbeats 4000000
namespace L2
open PySem PySem.Spec PyProof.Rows
section
variable {P:Program} {w:World} {K:PySem.W.Frag} {mg:Str->Option Value} {base:Heap} {CX:Zd} {k:Nat} {f:Addr} {fd:FuncData} {ps:List Str} {sp sp':Sp}
end
end L2
set_option Elab.async false
set_option linter.all false
set_option maxRecDepth 100000
set_option maxHeartbeats 4000000
namespace L2
open PySem PySem.Spec PyProof.Rows PySem.W
section
variable {X:Cx}
end
end L2
set_option Elab.async false
set_option linter.all false
set_option maxRecDepth 100000
set_option maxHeartbeats 4000000
namespace L2
open PySem PySem.Spec PyProof.Rows
def RawD (h:Heap) (d:Addr) (es:Array DictEntry) (ep:Nat):Prop:=∃o,h.get? d=some o/\o.ExactDict/\o.data=.dict es ep
section
variable {prog:Program} {w:World} {A:Around} {E:Value->Shared->Prop} {s:Shared} {it d:Addr} {es:Array DictEntry} {i ep:Nat}
end
end L2
set_option Elab.async false
set_option linter.all false
set_option maxRecDepth 100000
set_option maxHeartbeats 4000000
namespace L2
open PySem PySem.Spec PyProof.Rows
section
variable {X:Cx} {pins:List (Addr×Obj)} {σ:St} {H:Hp} {s:Shared} {tg:Expr}
end
section
variable {a:Addr} {o:Obj} {u:HO} {g:TG} {σ:St} {H:Hp}
end
end L2
set_option Elab.async false
set_option linter.all false
set_option maxRecDepth 100000
set_option maxHeartbeats 4000000
namespace L2
open PySem PySem.Spec PyProof.Rows PySem.W
section
variable {X:Cx}
end
end L2
set_option Elab.async false
set_option linter.all false
set_option maxRecDepth 100000
set_option maxHeartbeats 4000000
namespace L2
open PySem PySem.Spec PyProof.Rows
section
variable {prog:Program} {w:World} {KK:Type} [DecidableEq KK] {kd:HeapKind prog w KK} {A:Around} {E:Value->Shared->Prop} {s:Shared}
end
section
variable {X:Cx}
def WF (K:PySem.W.Frag) (bm:List Value):List V->Hp->VK->Prop:=λxs H Q=>∃(a p C dx:Addr) (hd:Value) (fs:List (Str×V)) (cs:List Addr) (b:Bool),xs=[.ref a,.ref p]/\H a=some (jr a C dx hd)/\H dx=some (.xd fs)/\Zv K C bm/\H p=some (.tup (cs.map V.ref))/\PySem.W.kitAny K (.ref C) (cs.map Value.ref)=some b/\Q (.bl b) H
theorem ZF {bm:List Value} (hn:PySem.W.specialIn X.K (.builtin "object.__class__") "__get__"=some (some (.builtin "getset_descriptor.__get__"))) (htk:PySem.W.takesIn X.K (.builtin "object.__class__")=some true):jX X (.builtin "isinstance") (WF X.K bm):=by
 intro pins s σ H xs us Q I r h
 obtain⟨e,p,C,dx,hd,fs,cs,b,rfl,ha,hx,c,ep,ek,q⟩:=h
 obtain⟨u,w',rfl,ru,rw'⟩:=YI r
 cases ru
 cases rw'
 obtain⟨⟨fl,he,_⟩,_,_⟩:=(show qx X.prog X.w H s.heap e (jr e C dx hd) from I.hok e _ ha)
 obtain⟨mA,hns,hr⟩:=(show qx X.prog X.w H s.heap dx (.xd fs) from I.hok dx _ hx)
 obtain⟨od,ho,hl⟩:=Jm hns
 obtain⟨its,rv,⟨o,e1,c1,n1,d1⟩,_⟩:=I.tuple (.of ep:SqT X.K H p _)
 obtain rfl:=zy rv
 obtain⟨oc,odd,oda,osl⟩:=o
 cases c1
 cases d1
 exact PySem.W.kia_tup (Y7 (ox:={cls:=.ref C,dict:=some dx,data:=.fields fl}) (odd:=od) c hn htk) I.kIn ⟨he,rfl,rfl,ho⟩ e1 ek (λz=>nomatch z) λtk=>⟨.bl b,H,I.tok tk,rfl,q⟩
end
end L2
set_option Elab.async false
set_option linter.all false
set_option maxRecDepth 100000
set_option maxHeartbeats 4000000
namespace L2
open PySem PySem.Spec PyProof.Rows
structure FnLd (P:Program) (w:World) (K:PySem.W.Frag) (mg:Str->Option Value) (base:Heap) (k:Nat) (f:Addr) (fd:FuncData) (ps:List Str) (sp:Sp):Prop where
 len:∀vs H Q E,sp vs H Q E->vs.length=ps.length
 run:∀(A:Around) (a:Value) (outer:List Env) (s:Shared) (H:Hp) (args:Args) (us:List Value) (vs:List V) (Q:VK) (E:XK),qS k A->Xp P w K mg base (A.mark (some a)) outer s H->BindsTo s fd args (ps.zip us)->qD vs us->sp vs H Q E->
   codeAny (model P w) (A.mark (some a)) (.call (.ref f) args) (CR qZ outer P w H s Q E) s
section
variable {P:Program} {w:World} {K:PySem.W.Frag} {mg:Str->Option Value} {base:Heap}
end
section
variable {X:Cx} {k:Nat} {f:Addr} {fd:FuncData} {ps:List Str} {sp:Sp} {x:Str} {p pos:Pos} {e:Expr} {es:List Expr} {t:TA} {a:Value} {E:Value->Shared->Prop}
end
end L2
set_option Elab.async false
set_option linter.all false
set_option maxRecDepth 100000
set_option maxHeartbeats 4000000
namespace L2
open PySem PySem.Spec PyProof.Rows
section
variable {X:Cx}
end
end L2
set_option Elab.async false
set_option linter.all false
set_option maxRecDepth 100000
set_option maxHeartbeats 4000000
namespace L2
open PySem PySem.Spec PyProof.Rows
section
variable {X:Cx} {CX:Zd} {k:Nat} {f C:Addr} {fd:FuncData} {ps:List Str} {sp:Sp} {dvs:List V} {ds:List Value} {E:St->XK} {x m:Str} {p pos apos:Pos} {e o:Expr} {es:List Expr} {ta:TE} {t:TA}
end
section
variable {X:Cx}
end
section
variable {X:Cx} {pins:List (Addr×Obj)} {σ:St} {H:Hp} {s:Shared}
end
end L2
set_option Elab.async false
set_option linter.all false
set_option maxRecDepth 100000
set_option maxHeartbeats 4000000
namespace L2
open PySem PySem.Spec PyProof.Rows
section
variable {prog:Program} {w:World} {A:Around} {E:Value->Shared->Prop} {s:Shared}
theorem zR {it t:Addr} {items:Array Value} (hne:t≠it):∀(n i:Nat) (s:Shared) (Q:List Value->Shared->Prop),s.heap.IsListIter it t i->s.heap.IsList t items->i+n<=items.size->
   (∀h',h'.IsListIter it t (i+n)->Heap.SameBut it s.heap h'->Q ((items.toList.drop i).take n) {s with heap:=h'})->wpAny (model prog w) A (draw (.ref it) n) Q E s
 | 0,i,s,Q,hit,_,_,hQ=>by
   show wpAny _ _ (pure []) Q E s
   exact wpAny_pure (by simpa using hQ s.heap hit (Heap.SameBut.refl ..))
 | n+1,i,s,Q,hit,ht,hle,hQ=>by
   have hlt:i < items.size:=by omega
   show wpAny _ _ (pyNext (.ref it) >>= _) Q E s
   refine wpAny_bind (wpAny_pyNext_list_item hit ht (x:=items[i]) (by simp [hlt]) λh₁ hit₁ hs₁=>?_)
   refine wpAny_bind (wpAny_holding (zR hne n (i+1) _ _ hit₁ (ht.extBut hs₁.extBut hne) (by omega) λh₂ hit₂ hs₂=>wpAny_pure ?_))
   have hd:items.toList.drop i=items[i]::items.toList.drop (i+1):=by simp [List.drop_eq_getElem_cons,hlt]
   have:=hQ h₂ (by rw[show i+(n+1)=i+1+n by omega];exact hit₂) (hs₁.trans hs₂)
   rw[hd,List.take_succ_cons]at this
   exact this
theorem Ze {t:Addr} {items:Array Value} {Q:List Value->Shared->Prop} (hh:A.handled=none) (ht:s.heap.IsList t items)
   (hQ:∀h',Heap.ExtBut s.heap.objs.size s.heap h'->Q items.toList {s with heap:=h'}):wpAny (model prog w) A (unpackItems (.ref t) items.size none) Q E s:=by
 have hlt:t≠s.heap.objs.size:=by obtain⟨o,ho,_⟩:=ht;exact Nat.ne_of_lt (Heap.lt_size ho)
 unfold unpackItems
 refine wpAny_bind ?_
 unfold notIterableAtAll
 refine wpAny_bind (wpAny_specialOf ht.typeIs slot_list_iter.lookup ?_)
 refine wpAny_pure ?_
 simp only[Bool.false_eq_true,if_false]
 refine wpAny_bind (wpAny_holding (wpAny_pyIter_list ht ?_))
 refine wpAny_bind (wpAny_holding (zR hlt items.size 0 _ _ ⟨_,Heap.get?_push_size _ rfl,rfl,rfl⟩ (ht.push _) (by omega) λh₁ hit₁ hs₁=>?_))
 have hall:List.take items.size (List.drop 0 items.toList)=items.toList:=by
   rw[List.drop_zero];exact List.take_of_length_le (by simp)
 rw[hall]
 rw[if_neg (by simp)]
 have ht₁:h₁.IsList t items:=(ht.push _).extBut hs₁.extBut hlt
 refine wpAny_bind (wpAny_holding (wpAny_pyNext_list_end hh hit₁ ht₁ (by simp) λh₂ he₂=>?_))
 simp only[Option.isSome_none,Bool.false_eq_true,if_false]
 exact wpAny_pure (hQ h₂ λb o hb e=>he₂ b o hb (hs₁.extBut b o hb (Heap.get?_push_of_some _ e)))
theorem J9 {env:Env} {elts:List Expr} {x1} {pos:Pos} {t:Addr} {items:Array Value} {Q:Unit->Shared->Prop} (hh:A.handled=none) (ht:s.heap.IsList t items)
   (hn:(assignEach elts env).length=items.size) (hstar:(assignEach elts env).findIdx? (·.1)=none)
   (h:∀h',Heap.ExtBut s.heap.objs.size s.heap h'->wpAny (model prog w) A (assignInOrder ((assignEach elts env).map (·.2)) items.toList) Q E {s with heap:=h'}):
   wpAny (model prog w) A (assign (.Tuple elts x1 pos) env (.ref t)) Q E s:=by
 rw[assign_Tuple]
 refine wpAny_bind (wpAny_standAt ?_)
 unfold unpack
 rw[hn,hstar]
 exact wpAny_bind (wpAny_holding (Ze hh ht h))
end
section
variable {X:Cx} {pos:Pos}
def uJ (K:PySem.W.Frag) (n:Nat) (t:V7):TG:=λv σ H Q=>∃a xs,v=.ref a/\SqL K H a xs/\xs.length=n/\t xs σ H Q
theorem kU {es:List Expr} {k:Nat} {t:V7} {n:Nat} (hc:X.calm=true) (h:vK X es t) (hn:(assignEach es X.env).length=n:=by rfl) (hst:(assignEach es X.env).findIdx? (·.1)=none:=by rfl):JG X (.Tuple es k pos) (uJ X.K n t):=.of (by
 have h:=h.to
 intro pins s σ H v u Q I r hw
 obtain⟨a,xs,e1,hq,hl,hw⟩:=hw
 subst e1
 cases r
 obtain⟨its,rv,ht,hz⟩:=I.list hq
 refine J9 (I.ok.hd hc) ht.isList (by simp [hn,<-hl,rv.length]) hst λh' hx=>?_
 have I1:qu X pins σ H {s with heap:=h'}:=I.kept (t':=s.toks) λb o e=>hx b o (Nat.ne_of_lt (Heap.lt_size e)) e
 exact h pins _ σ H xs _ Q I1 (by simpa using rv) hw)
end
end L2
set_option Elab.async false
set_option linter.all false
set_option maxRecDepth 100000
set_option maxHeartbeats 4000000
namespace L2
open PySem PySem.Spec PyProof.Rows
section
variable {X:Cx}
theorem YG {v:V} {a:Value} (r:qG v a):∀n:Nat,qD (List.replicate n v) (List.replicate n [a]).flatten
 | 0=>.nil
 | n+1=>by
   rw[List.replicate_succ,List.replicate_succ]
   exact .cons r (YG r n)
def wZ (K:PySem.W.Frag):R2:=λx y H Q=>∃(a:Addr) (v:V) (n:Nat),x=.ref a/\y=.int (n:Int)/\SqL K H a [v]/\n<=200/\∀l,H l=none->Q (.ref l) (upd H l (.lst (List.replicate n v)))
theorem WJ:JF X (binaryOp .Mult) (wZ X.K):=by
 intro pins s σ H x y v u Q I rx ry h
 obtain⟨a,z,n,rfl,rfl,ha,hn,q⟩:=h
 cases rx
 obtain⟨t,rfl⟩:=(show ∃t,u=Value.int (n:Int) t from ry)
 obtain⟨its,rv,pl,_⟩:=I.list ha
 cases rv with
 | cons r1 rv=>
   cases rv
   obtain⟨⟨cls,d,data,sl⟩,ho,hcl,k,hd⟩:=id pl.isList
   simp only at hcl hd
   subst hcl hd
   rename_i b
   have hlo:-(2^63:Int)<=(n:Int):=by omega
   have hhi:(n:Int) < 2^63:=by omega
   have hsz':[b].toArray.size*(n:Int).toNat<=256:=by simp;omega
   have en:(n:Int).toNat=n:=by omega
   generalize (n:Int)=x at hlo hhi hsz' en
   refine wpAny_binaryOp_repeat_ref (T:="list") (U:="int") (by decide) ⟨_,ho,rfl⟩ (λs'=>typeIs_int s' x t) noFill_list_mul F.fills_int_mul F.slot_int_rmul repeat_list F.slot_int_index.lookup
     (call_meets F.slot_int_rmul (typeIs_int s x t) F.entry_int_rmul (F.args_int_rmul_2 _ _) (PySem.lm_int_rmul_list_any x t a [b].toArray k d sl)
       ⟨ho,rfl,⟨_,ho,rfl⟩,call_meets F.slot_list_mul ⟨_,ho,rfl⟩ F.entry_list_mul (F.args_list_mul_2 _ _)
         (PySem.lm_list_mul_any a [b].toArray k d sl x t (by simp [Builtin.List.listFitsIndex];omega) (by omega) (by simp [Builtin.List.listTooLong,sizeLine];omega))
         ⟨ho,?_⟩⟩)
   rw[listMul_foldl_if,en]
   exact⟨.ref s.heap.objs.size,_,I.laid (t':=s.toks) (o:=.lst (List.replicate n z)) (λb u h=>Heap.get?_push_of_some _ h) (Nat.le_refl _) ⟨by rw[List.length_replicate];exact Nat.le_trans hn (by decide),_,_,YG r1 n,Heap.get?_push_size _ rfl⟩,rfl,q _ (I.hok.fresh (Nat.le_refl _))⟩
end
end L2
set_option Elab.async false
set_option linter.all false
set_option maxRecDepth 100000
set_option maxHeartbeats 4000000
namespace L2
open PySem PySem.Spec PyProof.Rows
section
variable {X:Cx} {N':List Str} {ix:List (Option Nat)} {scope:Scope}
end
end L2
set_option Elab.async false
set_option linter.all false
set_option maxRecDepth 100000
set_option maxHeartbeats 4000000
namespace L2
open PySem PySem.Spec PyProof.Rows
abbrev YF (o:Obj):HO:=.frz o (.frz o (.own 0))
def yo (q:Str) (oc:Obj):Prop:=∃(vs:Array Value) (t:Tok),oc.data=.fields vs/\vs[1]?=some (.str q t)
structure YB (mg:Str->Option Value) (base:Heap) (c P:Addr):Prop where
 code:PySem.W.CodeHd base c P
 blt:base.BuiltinsAt mg P
abbrev Cx.shut (X:Cx):Cx:={X with fn:=λ_=>false}
theorem Yy {pos:Pos} {a b:Int} {c cv:Value} (l:List Value) (h:TriplesOk l) (e:codeAmong pos (l++[rawInt a,rawInt b,c])=some cv):codeAmong pos l=some cv\/cv=c:=by
 fun_induction TriplesOk l with
 | case1=>
   simp only[List.nil_append,codeAmong,rawInt]at e
   split at e
   . exact .inr (Option.some.inj e).symm
   . cases e
 | case2 a t b u x rest ih=>
   simp only[List.cons_append,codeAmong]at e ⊢
   split at e
   . rename_i hc;rw[if_pos hc];exact .inl e
   . rename_i hc;rw[if_neg hc];exact ih h e
 | case3 l h1 h2=>exact h.elim
section
variable {X:Cx} {pins:List (Addr×Obj)} {σ:St} {H:Hp} {s:Shared}
theorem Cx.Ok.shut (o:X.Ok):X.shut.Ok:=⟨o.mod,o.kind,o.glob,o.blt,o.above,o.inj,o.has,λ_ _ z=>Bool.noConfusion z,o.hd,o.frames,o.stk,o.exf,o.bs,o.bsz,o.noex,o.exfs,o.funs,o.frf⟩
def Qw (cs:Addr->Option Obj) (H:Hp):Hp:=λb=>match cs b with
 | some o=>some (YF o)
 | none=>H b
theorem QU {cs:Addr->Option Obj} (hn:∀b o,cs b=some o->H b=none) {b:Addr} {u:HO} (e:H b=some u):Qw cs H b=some u:=by
 unfold Qw
 cases q:cs b with
 | none=>exact e
 | some o=>rw[hn b o q]at e;cases e
theorem Ji {cs:Addr->Option Obj} {b:Addr} (n:∀o,cs b≠some o):Qw cs H b=H b:=by
 unfold Qw
 cases q:cs b with
 | none=>rfl
 | some o=>exact absurd q (n o)
theorem zk {cs:Addr->Option Obj} {b:Addr} {o:Obj} (e:cs b=some o):Qw cs H b=some (YF o):=by unfold Qw;rw[e]
theorem qu.catchN (I:qu X pins σ H s) {cs:Addr->Option Obj} (hc:∀b o,cs b=some o->∃x v,X.env.cells.lookup x=some b/\X.fn x=true/\s.heap.get? b=some o/\o.data=.cell v):∀b o,cs b=some o->H b=none:=λb o e=>by
 obtain⟨x,v,h1,h2,_⟩:=hc b o e
 rcases I.freeC x b h1 with q | ⟨q,_⟩
 . exact q
 . rw[h2]at q;cases q
theorem qu.catch (I:qu X pins σ H s) (cs:Addr->Option Obj) (hc:∀b o,cs b=some o->∃x v,X.env.cells.lookup x=some b/\X.fn x=true/\s.heap.get? b=some o/\o.data=.cell v):qu X.shut pins σ (Qw cs H) s:=by
 have hn:=I.catchN hc
 have same:∀{b:Addr} {u:HO},H b=some u->Qw cs H b=some u:=λe=>QU hn e
 refine⟨I.ok.shut,I.os,I.bare,⟨I.base.keep,I.base.slot,λb o e n hx=>?_,I.base.there,λb xs e=>same (I.base.tups b xs e),λb o u e=>same (I.base.frzs b o u e),λb ps e=>?_⟩,I.loc,I.cell,?_,λx c e=>?_,λp hp=>?_,λb u e=>?_,I.len⟩
 . rw[Ji λo' q=>?_]
   . exact I.base.free b o e n hx
   . obtain⟨x,v,h1,h2,_⟩:=hc b o' q
     exact absurd (Nat.lt_of_lt_of_le (Heap.lt_size e) (I.ok.cab x b h2 h1)) (Nat.lt_irrefl _)
 . obtain⟨m,q⟩:=I.base.tbls b ps e
   exact⟨m,same q⟩
 . show Qw cs H X.env.locals=none
   rw[Ji λo' q=>?_]
   . exact I.free
   . obtain⟨x,v,h1,_⟩:=hc _ o' q
     exact I.cne x _ h1 rfl
 . cases q:cs c with
   | some o=>exact .inr ⟨rfl,o,zk q⟩
   | none=>
     have e2:Qw cs H c=H c:=Ji λo z=>by rw[q]at z;cases z
     rw[e2]
     exact(I.freeC x c e).imp id λz=>⟨rfl,z.2⟩
 . obtain⟨e,n,ne,nf,d⟩:=I.pin p hp
   refine⟨e,?_,ne,nf,d⟩
   rw[Ji λo' q=>?_]
   . exact n
   . obtain⟨x,v,h1,h2,h3,h4⟩:=hc _ o' q
     rw[e]at h3
     cases h3
     exact d v h4
 . cases q:cs b with
   | some o=>
     rw[zk q]at e
     cases e
     obtain⟨x,v,h1,h2,h3,h4⟩:=hc b o q
     exact⟨h3,h3,o,h3⟩
   | none=>
     rw[Ji λo z=>by rw[q]at z;cases z]at e
     exact(I.hok b u e).stay (λ_ _ _ z=>z) (λ_ z=>same z) (λ_ _ z=>same z) (λ_ _ z=>same z)
structure Gf (X:Cx) (σ:St) (H H':Hp) (P:Addr) (name qual:Str) (params:Arguments) (body:List Stmt) (scope:Scope) (f c':Addr) (doc pm ctv:Value) (oc:Obj):Prop where
 same:Same H H'
 new:H f=none
 fn:H' f=some (YF (PySem.W.fnMade name qual params body scope (qO X.env scope.names []) doc pm c' ctv))
 cd:H' c'=some (.frz oc (.own P))
 cq:yo qual oc
 cells:∀x,(x,NameKind.free)∈scope.names->∃ca co v,(qO X.env scope.names []).lookup x=some ca/\H' ca=some (YF co)/\co.data=.cell v/\∀(i:Nat) (y:V),X.N[i]?=some x->σ[i]?=some (some y)->∃u,v=some u/\qG y u
 inj:∀x y c,(qO X.env scope.names []).lookup x=some c->(qO X.env scope.names []).lookup y=some c->x=y
def PB (X:Cx) (st:List Stmt) (t:TS):Prop:=
 ∀(pins:List (Addr×Obj)) (s:Shared) (σ:St) (H:Hp) (D:Qx),qu X pins σ H s->t D σ H->wpAny (model X.prog X.w) X.A (execs st X.env) (λfl s'=>∃g,SP {X with fn:=g} pins D fl s') X.xe s
theorem ue {st:List Stmt} {t:TS} (h:zr X st t):PB X st t:=λpins s σ H D I q=>qY (h.to pins s σ H D I q) λfl s' z=>⟨X.fn,z⟩
theorem qu.made_def {h':Heap} {P c':Addr} {ts:Array Value} {tk tq:Nat} {qual:Str} {pos:Pos} {oc fo:Obj} (I:qu X pins σ H s) (hP:H P=some (.tbl #[.str qual tq])) (eP:s.heap.get? P=some (PySem.W.tabObj ts)) (tr:TriplesOk ts.toList)
   (cs:∀pos cv,codeAmong pos ts.toList=some cv->∃c oc,cv=.ref c/\H c=some (.frz oc (.own P))/\uZ #[.str qual tq] oc) (hx:Heap.ExtBut P s.heap h') (hge:s.heap.objs.size<=c') (hlt:c' < h'.objs.size) (hoc:h'.get? c'=some oc) (hq:yo qual oc)
   (htb:h'.get? P=some (PySem.W.tabObj (ts++#[rawInt pos.line,rawInt pos.col,.ref c']))) (hfo:fo.isFreed=false):qu X pins σ (upd (upd H c' (.frz oc (.own P))) h'.objs.size (YF fo)) {s with heap:=h'.push fo,toks:=tk}:=by
 have hc0:H c'=none:=I.hok.fresh hge
 have hf0:H h'.objs.size=none:=I.hok.fresh (Nat.le_of_lt (Nat.lt_of_le_of_lt hge hlt))
 have up:∀{b:Addr} {u:HO},H b=some u->upd (upd H c' (.frz oc (.own P))) h'.objs.size (YF fo) b=some u:=λ{b u} e=>by
   rw[qf (ql e hf0),qf (ql e hc0)]
   exact e
 have nP:∀{b:Addr},H b=none->b≠P:=λn z=>by rw[z,hP]at n;cases n
 have old:∀b o,b≠P->s.heap.get? b=some o->(h'.push fo).get? b=some o:=λb o n e=>Heap.get?_push_of_some _ (hx b o n e)
 have lt:∀{b:Addr} {o:Obj},s.heap.get? b=some o->b≠h'.objs.size/\b≠c':=λe=>⟨Nat.ne_of_lt (Nat.lt_trans (Nat.lt_of_lt_of_le (Heap.lt_size e) hge) hlt),Nat.ne_of_lt (Nat.lt_of_lt_of_le (Heap.lt_size e) hge)⟩
 refine I.step (g':=s.gens) (d':=s.drawn) (ch:=[]) (λ_ z=>nomatch z) (λb o _ _ _ e n=>old b o (nP n) e) (λb o _ _ _ e n=>⟨o.slots,old b o (nP n) e⟩) (λb o _ e n=>?_) (λb o _ e=>?_) (λb xs e=>up e) (λb o u e=>up e) (λb ps e=>⟨#[],by rw[up e];simp⟩) (λm hm=>(hm.extBut hx (nP I.free)).push _) (λb u e=>?_) I.bare
 . rw[qf (lt e).1,qf (lt e).2]
   exact n
 . rcases Decidable.em (b=P) with z | z
   . rw[z];exact⟨_,Heap.get?_push_of_some _ htb⟩
   . exact⟨o,old b o z e⟩
 . rcases Decidable.em (b=h'.objs.size) with z | z
   . subst z
     rw[qd]at e
     cases e
     have:=Heap.get?_push_size h' hfo
     exact⟨this,this,_,this⟩
   rw[qf z]at e
   rcases Decidable.em (b=c') with z2 | z2
   . subst z2
     rw[qd]at e
     cases e
     have:=Heap.get?_push_of_some fo hoc
     exact⟨this,_,this⟩
   rw[qf z2]at e
   rcases Decidable.em (b=P) with z3 | z3
   . subst z3
     rw[hP]at e
     cases e
     refine⟨_,Heap.get?_push_of_some _ htb,?_,λpos' cv q=>?_⟩
     . rw[Array.toList_append]
       exact TriplesOk_snoc _ _ _ _ tr
     . rw[Array.toList_append]at q
       rcases Yy _ tr q with q | q
       . obtain⟨c,oc',e1,e2,e3⟩:=cs pos' cv q
         exact⟨c,oc',e1,up e2,e3⟩
       . obtain⟨vs,t,h1,h2⟩:=hq
         exact⟨c',oc,q,by rw[qf (Nat.ne_of_lt hlt),qd],qual,tq,vs,t,rfl,h1,h2⟩
   . refine(I.hok b u e).stay (λc v hc g=>old c v ?_ g) (λ_ z=>up z) (λ_ _ z=>up z) (λ_ _ z=>up z)
     rcases hc with z | z
     . rw[z];exact z3
     . intro z'
       rw[z',hP]at z
       cases z
def Ku (X:Cx) (P:Addr) (i:Nat) (name qual:Str) (params:Arguments) (body:List Stmt) (scope:Scope) (u:TS):TS:=λD σ H=>(∃tq,H P=some (.tbl #[.str qual tq]))/\∀f c' doc pm ctv oc H',Gf X (σ.set i (some (.ref f))) H H' P name qual params body scope f c' doc pm ctv oc->u D (σ.set i (some (.ref f))) H'
open Classical in
theorem xl {i:Nat} {c P:Addr} {name qual:Str} {params:Arguments} {body rest:List Stmt} {scope:Scope} {pos:Pos} {u:TS} (TM:YB X.mg X.base c P) (hN:X.N.Nodup) (hxi:X.N[i]?=some name) (hloc:X.env.scope.names.lookup name=some .local) (hcode:X.env.code=.ref c) (hq:qualnameIn X.env name name=qual)
   (hfr:(scope.names.all λx=>x.2 != .free || X.env.scope.names.lookup x.1==some .cell)=true) (hfn:∀x,X.fn x=true) (hd0:params.defaults=[]) (hk0:params.kw_defaults=[]) (ha:annTrees params none X.env=[]) (h2:PB X.shut rest u):
   PB X (.FunctionDef name params body [] none [] scope none name pos::rest) (Ku X P i name qual params body scope u):=by
 intro pins s σ H D I h
 obtain⟨⟨tq,hP⟩,h⟩:=h
 obtain⟨ts,eP,tr,cs⟩:=(show qx X.prog X.w H s.heap P (.tbl #[.str qual tq]) from I.hok P _ hP)
 refine wpAny_execs_cons (PySem.W.nestDef_K hd0 hk0 ha ?_)
 rw[hq]
 have hg:s.heap.Ns mainGlobals X.mg:=I.ok.mod.glob.keeps I.bk
 have CH:=TM.code.keeps I.bk
 have hb:s.heap.BuiltinsAt X.mg P:=by
   obtain⟨bm,o,b1,b2,b3,b4,b5,b6⟩:=TM.blt
   exact⟨bm,o,b1,b2,b3,b4,I.bk _ _ b5,b6⟩
 have hgP:mainGlobals≠P:=λz=>by
   obtain⟨o,es,ep,e,_⟩:=I.ok.mod.glob
   have:=(I.bs _ _ e).2
   rw[z,hP]at this
   cases this
 have frc:∀x,(x,NameKind.free)∈scope.names->X.env.scope.names.lookup x=some .cell:=λx hx=>by
   have:=List.all_eq_true.mp hfr _ hx
   simpa using this
 have frc':∀x,(x,NameKind.free)∈scope.names->∃c,X.env.cells.lookup x=some c:=λx hx=>I.ok.has x (.inl (frc x hx))
 have hcl:closureFor scope X.env=pure (qO X.env scope.names []):=Qv λx hx e=>frc' x.1 (by rw[<-e];exact hx)
 have clo:∀x,(x,NameKind.free)∈scope.names->∀ca,X.env.cells.lookup x=some ca->(qO X.env scope.names []).lookup x=some ca:=λx hx ca e=>by
   obtain⟨c2,hc2⟩:=QT (env:=X.env) (cs:=[]) (.inl hx)
   rcases Qa hc2 with z | ⟨_,z⟩
   . simp at z
   . rw[e]at z
     rw[hc2,z]
     rfl
 have look:∀x c,(qO X.env scope.names []).lookup x=some c->X.env.cells.lookup x=some c:=λx c e=>by
   rcases Qa e with z | ⟨z1,z2⟩
   . simp at z
   . obtain⟨c2,h2⟩:=frc' x z1
     rw[h2]at z2
     rw[h2,z2]
     rfl
 have inj:∀x y c,(qO X.env scope.names []).lookup x=some c->(qO X.env scope.names []).lookup y=some c->x=y:=λx y c h1 h2=>I.ok.inj x y c (look x c h1) (look y c h2)
 have fin:∀{f c':Addr} {doc pm ctv:Value} {oc:Obj} {H1:Hp} {s1:Shared},qu X pins σ H1 s1->Same H H1->H f=none->H1 f=some (YF (PySem.W.fnMade name qual params body scope (qO X.env scope.names []) doc pm c' ctv))->H1 c'=some (.frz oc (.own P))->yo qual oc->
     wpAny (model X.prog X.w) X.A (storeName X.env name (.ref f)) (λ_ s''=>wpAny (model X.prog X.w) X.A (execs rest X.env) (λfl s'=>∃g,SP {X with fn:=g} pins D fl s') X.xe s'') X.xe s1:=λ{f c' doc pm ctv oc H1 s1} I1 sm nf e1 e2 e3=>by
   refine Zg I1 hN hxi (.inl hloc) (v:=.ref f) rfl (λs2 I2 _=>?_) (.inr hloc)
   let cc:Addr->Option Obj:=λb=>if ∃x,(x,NameKind.free)∈scope.names/\X.env.cells.lookup x=some b then s2.heap.get? b else none
   have hc:∀b o,cc b=some o->∃x v,X.env.cells.lookup x=some b/\X.fn x=true/\s2.heap.get? b=some o/\o.data=.cell v:=λb o e=>by
     rcases Classical.em (∃x,(x,NameKind.free)∈scope.names/\X.env.cells.lookup x=some b) with z | z
     . have e':s2.heap.get? b=some o:=(if_pos z).symm.trans e
       obtain⟨x,hx,hxb⟩:=z
       obtain⟨v,o',ho,hd⟩:=I2.cell x b hxb
       rw[e']at ho
       cases ho
       exact⟨x,v,hxb,hfn x,e',hd⟩
     . have:cc b=none:=if_neg z
       rw[this]at e
       cases e
   have hn:=I2.catchN hc
   refine h2 pins s2 _ _ D (I2.catch cc hc) (h f c' doc pm ctv oc _ ⟨λb u e=>QU hn (sm _ _ e),nf,QU hn e1,QU hn e2,e3,λx hx=>?_,inj⟩)
   obtain⟨ca,hca⟩:=frc' x hx
   obtain⟨v,o,ho,hd⟩:=I2.cell x ca hca
   have ecc:cc ca=some o:=(if_pos ⟨x,hx,hca⟩).trans ho
   refine⟨ca,o,v,clo x hx ca hca,zk ecc,hd,λj y e1 e2=>?_⟩
   obtain⟨m,_,hl⟩:=I2.loc
   obtain⟨w',rw',lk⟩:=hl j x y e1 e2 (.inr (.inl (frc x hx)))
   rcases lk with ⟨k,_⟩ | ⟨_,c2,ec2,o2,ho2,hd2⟩
   . have k':X.env.scope.names.lookup x=some .local:=k
     rw[frc x hx]at k'
     cases k'
   . rw[hca]at ec2
     cases ec2
     rw[ho]at ho2
     cases ho2
     rw[hd]at hd2
     exact⟨w',Data.cell.inj hd2,rw'⟩
 cases hh:codeAmong pos ts.toList with
 | none=>
   refine PySem.W.makeFunction_K (mg:=X.mg) hcl I.ok.glob hg hcode CH eP tr hh hgP hb λc' ctv doc h' tk hx hge hlt hrec htb=>?_
   obtain⟨c2,oc,vs,t,e2,hoc,hd,hv⟩:=hrec
   cases e2
   have hc0:H c'=none:=I.hok.fresh hge
   have hf0:H h'.objs.size=none:=I.hok.fresh (Nat.le_of_lt (Nat.lt_of_le_of_lt hge hlt))
   refine fin (I.made_def hP eP tr cs hx hge hlt hoc ⟨vs,t,hd,hv⟩ htb rfl) (λb u e=>?_) hf0 qd ?_ ⟨vs,t,hd,hv⟩
   . rw[qf (ql e hf0),qf (ql e hc0)]
     exact e
   . rw[qf (Nat.ne_of_lt hlt),qd]
 | some cv=>
   obtain⟨c',oc,rfl,ec,q,t,vs,t',hq1,hd,hv⟩:=cs pos cv hh
   cases hq1
   refine PySem.W.makeFunction_hit (mg:=X.mg) hcl I.ok.glob hg hcode CH eP tr hh hb λctv doc h' tk hk hsz=>?_
   have hf0:H h'.objs.size=none:=I.hok.fresh hsz
   have e1:(h'.push (PySem.W.fnMade name qual params body scope (qO X.env scope.names []) doc ((X.mg "__name__").getD .none) c' ctv)).get? h'.objs.size=some (PySem.W.fnMade name qual params body scope (qO X.env scope.names []) doc ((X.mg "__name__").getD .none) c' ctv):=Heap.get?_push_size h' rfl
   refine fin (oc:=oc) (I.laid (t':=tk) (o:=YF (PySem.W.fnMade name qual params body scope (qO X.env scope.names []) doc ((X.mg "__name__").getD .none) c' ctv)) (λb o e=>Heap.get?_push_of_some _ (hk b o e)) hsz ⟨e1,e1,_,e1⟩) (λb u e=>by rw[qf (ql e hf0)];exact e) hf0 qd ?_ ⟨vs,t',hd,hv⟩
   rw[qf (ql ec hf0)]
   exact ec
end
end L2
set_option Elab.async false
set_option linter.all false
set_option maxRecDepth 100000
set_option maxHeartbeats 4000000
namespace L2
open PySem PySem.Spec PyProof.Rows
section
variable {P:Program} {w:World} {K:PySem.W.Frag} {mg:Str->Option Value} {base:Heap} {N:List Str} {qual:Str} {scope:Scope} {f:Addr} {cd:Value} {A:Around} {outer:List Env} {s₀:Shared} {H₀:Hp} {E:XK}
theorem jZ:jm (jN P w) (js (jN P w) P w K mg base N qual scope f cd A outer s₀ H₀ E).shut E:=by
 intro pins σ H s e s' I0 hc
 obtain⟨a,C,dx,T,Hx,H1,rfl,os,bare,un,hok,ha,ht,hxT,hxa,hx,hE⟩:=hc
 have I:qu (js (jN P w) P w K mg base N qual scope f cd A outer s₀ H₀ E).shut pins σ H1 s':=I0.call' os un hok bare λb z=>absurd z (by simp)
 obtain⟨⟨fl,he,hz⟩,_,_⟩:=(show qx P w H1 s'.heap a (jr a C dx (.ref T)) from I.hok a _ ha)
 obtain⟨st0,_,_⟩:=(show qx P w H1 s'.heap T (ZZ T .none) from I.hok T _ ht)
 have fr:=I.ok.frames
 have ff:=I.stack
 have nT0:T≠a:=λz=>by
   obtain⟨ts,q,_⟩:=st0
   rw[z,he]at q
   cases q
 show wpAny _ _ (leaving _ _) _ _ s'
 unfold leaving
 refine wpAny_bind (ZN fr ff rfl he hz st0 nT0 λh1 T' hT F tT q1 q2=>?_)
 have lt:=(Array.getElem?_eq_some_iff.mp hz).1
 have g1:(fl.setIfInBounds 1 (Value.ref T'))[1]?=some (.ref T'):=by simp [lt]
 have nT:T'≠a:=λz=>by
   obtain⟨ts,q,_⟩:=q2
   rw[z,q1]at q
   cases q
 refine Qo (fs:=Zc (js (jN P w) P w K mg base N qual scope f cd A outer s₀ H₀ E).shut.stack) q1 g1 q2 λh2 F2 st=>?_
 have anf:∀b o,H1 b=some o->b∉Zc (js (jN P w) P w K mg base N qual scope f cd A outer s₀ H₀ E).shut.stack:=λb o q z=>by
   have:=I.stkFree b z
   rw[q]at this
   cases this
 have hTn:H1 T'=none:=I.hok.fresh hT
 have nTT:T'≠T:=(ql ht hTn).symm
 have q3:=F2.keep a _ (anf a _ ha) (by simp [Ne.symm nT]) q1
 obtain⟨oT,hoT⟩:=tT
 have q4:=F2.keep T _ (anf T _ ht) (by simp [Ne.symm nTT]) hoT
 have I2:=I.flown (H':=upd (upd (upd H1 a (jr a C dx (.ref T'))) T (.ext λh=>∃o,h.get? T=some o)) T' (ZZ T' .none)) (Xu.then F F2 hT) ⟨λb hb=>by
     simp only[List.mem_cons,List.not_mem_nil,or_false]at hb
     rcases hb with rfl | rfl
     . exact⟨_,ha⟩
     . exact⟨_,ht⟩,λb o hb q=>by
     simp only[List.mem_cons,List.not_mem_nil,or_false,not_or]at hb
     rw[qf (ql q hTn),qf hb.2,qf hb.1];exact q,λb hb q=>by
     rw[qf (Nat.ne_of_lt (Nat.lt_of_lt_of_le hb hT)),qf (λz=>by rw[z,ht]at q;cases q),qf (λz=>by rw[z,ha]at q;cases q)];exact q⟩ (λb hb=>by
     simp only[List.mem_cons,List.not_mem_nil,or_false]at hb
     rcases hb with rfl | rfl
     . exact⟨_,q3⟩
     . exact⟨_,q4⟩) λb o q hb=>by
   by_cases e1:b=T'
   . subst e1
     rw[qd]at q
     cases q
     exact Q6 st
   . rw[qf e1]at q
     by_cases e2:b=T
     . subst e2
       rw[qd]at q
       cases q
       exact⟨⟨_,q4⟩,⟨_,q4⟩,λh1 h2 ⟨u,z⟩ k=>⟨u,k u z⟩⟩
     . rw[qf e2]at q
       by_cases e3:b=a
       . subst e3
         rw[qd]at q
         cases q
         exact QS ⟨_,q3,g1⟩
       . rw[qf e3]at q
         rcases hb with hb | hb
         . rw[q]at hb;cases hb
         . simp only[List.mem_cons,List.not_mem_nil,or_false]at hb
           exact(hb.elim e3 e2).elim
 refine⟨a,C,dx,T',Hx,_,rfl,I2.os,I2.bare,I2.base,I2.hok,by rw[qf (Ne.symm nT),qf (Ne.symm nT0),qd],qd ..,?_,hxa,λb o nb q=>?_,hE⟩
 . cases e:Hx T' with
   | none=>rfl
   | some o=>
     have:=hx T' o nT e
     rw[hTn]at this
     cases this
 . have n1:b≠T:=λz=>by rw[z,hxT]at q;cases q
   have q':=hx b o nb q
   rw[qf (ql q' hTn),qf n1,qf nb]
   exact q'
end
section
variable {P:Program} {w:World} {K:PySem.W.Frag} {mg:Str->Option Value} {base:Heap}
theorem jU.okB {CX:Zd} {x qual:Str} {st:Stmt} {f c:Addr} {fd:FuncData} {N ps:List Str} {k:Nat} {sp:Sp} (F:jU K x qual st f fd) (hc:fd.code=.ref c) (S:qz N ps (qi st)) (len:∀vs H Q E,sp vs H Q E->vs.length=ps.length)
   (hbody:∀(A:Around) (outer:List Env) (s:Shared) (H:Hp) (vs:List V) (Q:VK) (E:XK),qS k (A.deeper (envOfC qual (qi st) s.heap.objs.size f (.ref c)))->sp vs H Q E->
     ∃t,PB (js CX P w K mg base N qual (qi st) f (.ref c) A outer s H E) (je st) t/\t {nx:=λ_ H'=>Q .non H',rt:=Q} (jM N vs) H):qo P w K mg base CX (k+1) f fd ps sp:=by
 obtain⟨oc,od,kV,doc,pm,an,cdv,ct,osl,rfl,lk,hcd⟩:=F.ex
 have hc':cdv=.ref c:=hc
 subst hc'
 refine⟨len,λA outer s H args us vs Q E hr e0 hb r hsp=>?_⟩
 have hl:=len _ _ _ _ hsp
 have KX:K.In s.heap:=e0.mod.kin.keeps λb o e=>(e0.bs b o e).1
 have lim:s.heap.NoLimit:=e0.mod.nolimit.keeps λb o e=>(e0.bs b o e).1
 have hkind:∀y∈ps.zip us,(qi st).names.lookup y.1=some .local\/((qi st).names.lookup y.1=some .cell/\((cellsFrom (s.heap.objs.size+1) (qi st).names []).lookup y.1).isSome=true):=λ⟨n,v⟩ hy=>by
   rcases S.par n (List.of_mem_zip hy).1 with q | q
   . exact .inl q
   . exact .inr ⟨q,PySem.W.cellsFrom_some _ _ _ (.inl q)⟩
 refine codeAny_call_function hr.depth (KX _ _ lk) rfl S.co S.gen rfl (PySem.W.codeRec_of KX hcd) (hb _ _ _ _ ?_)
 refine wpAny_newFunctionEnv_cells S.kind hkind λenv he s1 x=>?_
 subst he
 refine⟨lim.keeps x.toInCall.keep,codeAny_func ?_⟩
 obtain⟨t,ht,hq⟩:=hbody A outer s H vs Q E (hr.deeper _) hsp
 have I:qu (js CX P w K mg base N qual (qi st) f (.ref c) A outer s H E) [] (jM N vs) H s1:=zO S hr.hd e0 hl r x
 refine wpAny_mono (ht [] s1 (jM N vs) H _ I hq) (λfl s' hs=>?_) λe s' hs=>hs
 obtain⟨g,hs⟩:=hs
 have fin:∀{σ':St} {H':Hp} {v:V} {u:Value},qu {js CX P w K mg base N qual (qi st) f (.ref c) A outer s H E with fn:=g} [] σ' H' s'->qG v u->Q v H'->CE outer P w H s Q u s':=
   λ{σ' H' v u} J rv q=>⟨v,H',J.os,J.bare,J.base,J.hok,rv,q⟩
 cases fl with
 | ret u=>
   obtain⟨v,σ',H',J,rv,q⟩:=hs
   exact fin J rv q
 | next=>
   obtain⟨σ',H',J,q⟩:=hs
   exact fin (v:=V.non) (u:=Value.none) J rfl q
 | brk=>
   obtain⟨_,_,_,q⟩:=hs
   exact False.elim q
 | cont=>
   obtain⟨_,_,_,q⟩:=hs
   exact False.elim q
end
structure Xr (N ps fr:List Str) (sc:Scope):Prop where
 kind:sc.kind=.function
 co:sc.isCoroutine=false
 gen:sc.isGenerator=false
 nd:N.Nodup
 pre:N.take (ps++fr).length=ps++fr
 par:∀x∈ps,sc.names.lookup x=some .local
 free:∀x∈fr,sc.names.lookup x=some .free
 frees:∀y∈sc.names,y.2=.free->y.1∈fr
 nocell:∀y∈sc.names,y.2≠.cell
structure wf (H:Hp) (P f:Addr) (name qual:Str) (st:Stmt) (fd:FuncData) (ws:List (Str×V)):Prop where
 ex:∃(doc pm ctv:Value) (c':Addr) (cl:List (Str×Addr)) (oc:Obj),fd=PySem.W.fnX name qual (jH st) (je st) (qi st) cl .none .none doc pm none (.ref c') ctv/\H f=some (YF {cls:=.type "function",data:=.func fd})/\H c'=some (.frz oc (.own P))/\yo qual oc/\
   (∀x y c,cl.lookup x=some c->cl.lookup y=some c->x=y)/\(∀x c,cl.lookup x=some c->x∈ws.map (·.1))/\
   ∀x v,(x,v)∈ws->∃c o u,cl.lookup x=some c/\H c=some (YF o)/\o.data=.cell (some u)/\qG v u
theorem wf.mono {H H':Hp} {P f:Addr} {name qual:Str} {st:Stmt} {fd:FuncData} {ws:List (Str×V)} (h:wf H P f name qual st fd ws) (k:∀b o u,H b=some (.frz o u)->H' b=some (.frz o u)):wf H' P f name qual st fd ws:=by
 obtain⟨doc,pm,ctv,c',cl,oc,h1,h2,h3,h4,h5,h6,h7⟩:=h.ex
 exact⟨doc,pm,ctv,c',cl,oc,h1,k _ _ _ h2,k _ _ _ h3,h4,h5,h6,λx v hx=>let ⟨c,o,u,a,b,d,e⟩:=h7 x v hx;⟨c,o,u,a,k _ _ _ b,d,e⟩⟩
def W1 (CX:Zd) (P:Program) (w:World) (K:PySem.W.Frag) (mg:Str->Option Value) (base:Heap) (N:List Str) (qual:Str) (scope:Scope) (f:Addr) (cd:Value) (cl:List (Str×Addr)) (A:Around) (outer:List Env) (s:Shared) (H:Hp) (E:XK):Cx where
 prog:=P
 w:=w
 K:=K
 mg:=mg
 base:=base
 A:=A.deeper (PySem.W.envX qual scope s.heap.objs.size f cd cl)
 N:=N
 s₀:=s
 H₀:=H
 env:=PySem.W.envX qual scope s.heap.objs.size f cd cl
 outer:=outer
 stack:=PySem.W.envX qual scope s.heap.objs.size f cd cl::outer
 ex:=[]
 calm:=true
 fn:=λ_=>false
 pn:=[]
 xe:=λe s'=>wpAny (model P w) (A.deeper (PySem.W.envX qual scope s.heap.objs.size f cd cl)) (leaving (PySem.W.envX qual scope s.heap.objs.size f cd cl) e) (λ_ s''=>CX outer H s E e s'') (λe' s''=>CX outer H s E e' s'') s'
theorem XZ {x:Str} {u:Value}:∀{ps:List Str} {us:List Value} {i:Nat},ps.Nodup->ps[i]?=some x->us[i]?=some u->(ps.zip us).reverse.lookup x=some u:=by
 intro ps
 induction ps with
 | nil=>intro us i _ h;cases h
 | cons p ps ih=>
   intro us i nd h1 h2
   cases us with
   | nil=>cases h2
   | cons v us=>
     rw[List.zip_cons_cons,List.reverse_cons]
     obtain⟨np,nd⟩:=List.nodup_cons.mp nd
     cases i with
     | zero=>
       obtain rfl:p=x:=by simpa using h1
       obtain rfl:v=u:=by simpa using h2
       have:(ps.zip us).reverse.lookup p=none:=by
         rw[List.lookup_eq_none_iff]
         intro q hq
         have:=(List.of_mem_zip (List.mem_reverse.mp hq)).1
         simp only[beq_eq_false_iff_ne,ne_eq,Bool.not_eq_true,bne_iff_ne]
         intro z
         rw[z]at np
         exact np this
       rw[List.lookup_append,this]
       simp
     | succ i=>
       have:=ih nd (by simpa using h1) (by simpa using h2)
       rw[List.lookup_append,this]
       rfl
section
variable {P:Program} {w:World} {K:PySem.W.Frag} {mg:Str->Option Value} {base:Heap}
theorem x8 {CX:Zd} {PT f:Addr} {name qual:Str} {st:Stmt} {fd:FuncData} {N ps fr:List Str} {k:Nat} {sp:List (Str×V)->Sp} (S:Xr N ps fr (qi st)) (len:∀ws vs H Q E,sp ws vs H Q E->vs.length=ps.length/\ws.map (·.1)=fr)
   (hbody:∀(c':Addr) (cl:List (Str×Addr)) (A:Around) (outer:List Env) (s:Shared) (H:Hp) (ws:List (Str×V)) (vs:List V) (Q:VK) (E:XK),qS k (A.deeper (PySem.W.envX qual (qi st) s.heap.objs.size f (.ref c') cl))->sp ws vs H Q E->
     ∃t,zr (W1 CX P w K mg base N qual (qi st) f (.ref c') cl A outer s H E) (je st) t/\t {nx:=λ_ H'=>Q .non H',rt:=Q} (jM N (vs++ws.map (·.2))) H):
   qo P w K mg base CX (k+1) f fd ps (λvs H Q E=>∃ws,wf H PT f name qual st fd ws/\sp ws vs H Q E):=by
 refine⟨λvs H Q E ⟨ws,_,h⟩=>(len _ _ _ _ _ h).1,λA outer s H args us vs Q E hr e0 hb r ⟨ws,C,hsp⟩=>?_⟩
 obtain⟨hl,hw⟩:=len _ _ _ _ _ hsp
 obtain⟨doc,pm,ctv,c',cl,oc,rfl,hf,hcd,⟨vs',t',hd',hv'⟩,inj,clw,cells⟩:=C.ex
 have ef:=(show qx P w H s.heap f (YF _) from e0.hok f _ hf).1
 have ec:=(show qx P w H s.heap c' (.frz oc (.own PT)) from e0.hok c' _ hcd).1
 have lim:s.heap.NoLimit:=e0.mod.nolimit.keeps λb o e=>(e0.bs b o e).1
 refine codeAny_call_function hr.depth ef rfl S.co S.gen rfl ⟨c',oc,vs',t',rfl,ec,hd',hv'⟩ (hb _ _ _ _ ?_)
 refine wpAny_newFunctionEnv S.nocell (λy hy=>S.par y.1 (List.of_mem_zip hy).1) (λh1 hns hsb=>?_) S.kind
 have hk:∀b o,s.heap.get? b=some o->h1.get? b=some o:=λb o e=>hsb.extBut b o (Nat.ne_of_lt (Heap.lt_size e)) (Heap.get?_push_of_some _ e)
 refine⟨lim.keeps hk,codeAny_func ?_⟩
 obtain⟨t,ht,hq⟩:=hbody c' cl A outer s H ws vs Q E (hr.deeper _) hsp
 have noA:∀b:Addr,b∉(W1 CX P w K mg base N qual (qi st) f (.ref c') cl A outer s H E).ex:=λb z=>absurd (show b∈([]:List Addr) from z) (by simp)
 have lw:ws.length=fr.length:=by have:=congrArg List.length hw;simpa using this
 have hN:ps.length+fr.length<=N.length:=by
   have:=congrArg List.length S.pre
   rw[List.length_take,List.length_append]at this
   omega
 have kn:∀x c,cl.lookup x=some c->∃o u,H c=some (YF o)/\o.data=.cell (some u):=λx c e=>by
   obtain⟨⟨y,v⟩,hy,rfl⟩:=List.mem_map.mp (clw x c e)
   obtain⟨c2,o,u,a,b,d,_⟩:=cells y v hy
   rw[e]at a
   cases a
   exact⟨o,u,b,d⟩
 have I:qu (W1 CX P w K mg base N qual (qi st) f (.ref c') cl A outer s H E) [] (jM N (vs++ws.map (·.2))) H {s with heap:=h1,toks:=s.toks+(ps.zip us).length}:=by
   refine⟨⟨e0.mod,S.kind,rfl,rfl,Nat.le_refl _,inj,λy hy=>?_,λ_ _ z=>Bool.noConfusion z,λ_=>hr.hd,Around.frames_deeper e0.frames,.inr ⟨rfl,rfl⟩,λb z=>absurd z (noA b),e0.bs,e0.bsz,λb _ _=>noA b,λb z=>absurd z (noA b),e0.funs,e0.frf⟩,
     rfl,e0.bare,Un.kept hk,⟨_,hns,λi y v q1 q2 q3=>?_⟩,λy c h=>?_,e0.hok.fresh (Nat.le_refl _),λy c h=>?_,λp hp=>absurd (show p∈([]:List (Addr×Obj)) from hp) (by simp),e0.hok.kept hk,?_⟩
   . have hy:(qi st).names.lookup y=some .cell\/(qi st).names.lookup y=some .free:=hy
     rcases hy with hy | hy
     . exact absurd rfl (S.nocell _ (PySem.mem_of_lookup hy))
     . have:=S.frees _ (PySem.mem_of_lookup hy) rfl
       rw[<-hw]at this
       obtain⟨⟨z,v⟩,hz,ez⟩:=List.mem_map.mp this
       obtain⟨c2,o,u,a,_⟩:=cells z v hz
       exact⟨c2,by rw[<-show z=y from ez];exact a⟩
   . have hi:i < (vs++ws.map (·.2)).length:=by
       rcases Nat.lt_or_ge i (vs++ws.map (·.2)).length with z | z
       . exact z
       . unfold jM at q2
         rw[List.getElem?_append_right (by simpa using z),List.getElem?_replicate]at q2
         split at q2<;>cases q2
     have q2':(vs++ws.map (·.2))[i]?=some v:=by
       unfold jM at q2
       rw[List.getElem?_append_left (by simpa using hi),List.getElem?_map]at q2
       cases e:(vs++ws.map (·.2))[i]? with
       | none=>rw[e]at q2;cases q2
       | some z=>rw[e]at q2;cases q2;rfl
     rw[List.length_append,List.length_map]at hi
     have q1':(ps++fr)[i]?=some y:=by
       rw[<-S.pre,List.getElem?_take_of_lt (by rw[List.length_append];omega)]
       exact q1
     rcases Nat.lt_or_ge i vs.length with z | z
     . rw[List.getElem?_append_left z]at q2'
       rw[List.getElem?_append_left (by omega)]at q1'
       obtain⟨u,hu,rv⟩:=r.get q2'
       have ndP:ps.Nodup:=by
         have:=S.nd.sublist (List.take_sublist (ps++fr).length N)
         rw[S.pre]at this
         exact(List.nodup_append.mp this).1
       exact⟨u,rv,.inl ⟨S.par y (List.mem_of_getElem? q1'),XZ ndP q1' hu⟩⟩
     . rw[List.getElem?_append_right z,List.getElem?_map]at q2'
       rw[List.getElem?_append_right (by omega),<-hl]at q1'
       rw[<-hw,List.getElem?_map]at q1'
       cases e:ws[i - vs.length]? with
       | none=>rw[e]at q2';cases q2'
       | some yv=>
         rw[e]at q2' q1'
         obtain rfl:yv.1=y:=Option.some.inj q1'
         obtain rfl:yv.2=v:=Option.some.inj q2'
         have hm:yv∈ws:=List.mem_of_getElem? e
         obtain⟨c2,o,u,a,b,d,rv⟩:=cells yv.1 yv.2 hm
         have fy:(qi st).names.lookup yv.1=some .free:=S.free _ (by rw[<-hw];exact List.mem_map.mpr ⟨yv,hm,rfl⟩)
         exact⟨u,rv,.inr ⟨.inr fy,c2,a,o,hk _ _ (show qx P w H s.heap c2 (YF o) from e0.hok c2 _ b).1,d⟩⟩
   . obtain⟨o,u,b,d⟩:=kn y c h
     exact⟨some u,o,hk _ _ (show qx P w H s.heap c (YF o) from e0.hok c _ b).1,d⟩
   . obtain⟨o,u,b,d⟩:=kn y c h
     exact .inr ⟨rfl,o,b⟩
   . show (jM N (vs++ws.map (·.2))).length=N.length
     unfold jM
     rw[List.length_append,List.length_map,List.length_replicate,List.length_append,List.length_map]
     omega
 refine wpAny_mono (ht.to [] _ (jM N (vs++ws.map (·.2))) H _ I hq) (λfl s' hs=>?_) λe s' hs=>hs
 have fin:∀{σ':St} {H':Hp} {v:V} {u:Value},qu (W1 CX P w K mg base N qual (qi st) f (.ref c') cl A outer s H E) [] σ' H' s'->qG v u->Q v H'->CE outer P w H s Q u s':=
   λ{σ' H' v u} J rv q=>⟨v,H',J.os,J.bare,J.base,J.hok,rv,q⟩
 cases fl with
 | ret u=>
   obtain⟨v,σ',H',J,rv,q⟩:=hs
   exact fin J rv q
 | next=>
   obtain⟨σ',H',J,q⟩:=hs
   exact fin (v:=V.non) (u:=Value.none) J rfl q
 | brk=>
   obtain⟨_,_,_,q⟩:=hs
   exact False.elim q
 | cont=>
   obtain⟨_,_,_,q⟩:=hs
   exact False.elim q
end
def Ug (i:Nat) (C:Addr->FuncData->Sp->Prop) (E:St->XK) (t:TA):TE:=λσ H Q=>∃f fd sp,σ[i]?=some (some (.ref f))/\C f fd sp/\H f=some (YF {cls:=.type "function",data:=.func fd})/\t σ H λvs H1=>H1 f=some (YF {cls:=.type "function",data:=.func fd})/\sp vs H1 Q (E σ)
section
variable {X:Cx} {CX:Zd} {C:Addr->FuncData->Sp->Prop} {E:St->XK} {x:Str} {p pos:Pos} {e:Expr} {es:List Expr} {t:TA} {i:Nat}
theorem vg (hN:X.N[i]?=some x) (hv:wn X.env.scope x) (hC:∀f fd sp,C f fd sp->∃(k:Nat) (ps:List Str),qo X.prog X.w X.K X.mg X.base CX k f fd ps sp/\qS k X.A/\jx X.K fd ps []) (hx:QX CX X E) (ha:JA X (e::es) t) (hdb:(x==("__debug__":Str))=false:=by decide) (hcd:(x==("__classdict__":Str))=false:=by decide) (he:starEach (e::es) X.env=(false,eval e X.env)::starEach es X.env:=by rfl) (hpl:(backTo pos (starEach es X.env)).any (·.1)=false:=by rfl):JE X (.Call (.Name x p) (e::es) [] pos) (Ug i C E t):=.of (by
 have ha:=ha.to
 intro pins s σ H Q I h
 obtain⟨f,fd,sp,eσ,c,hf,h⟩:=h
 obtain⟨k,ps,F,hr,hb⟩:=hC f fd sp c
 refine wpAny_Call_Name_kw (qY (UI hN hv hdb hcd pins s σ H (λv H'=>v=.ref f/\H'=H) I ⟨_,eσ,rfl,rfl⟩) λu s1 ⟨v,H1,I1,r1,e1,e2⟩=>?_)
 subst e1 e2
 cases r1
 have at_:∀{H2:Hp} {s2:Shared},qu X pins σ H2 s2->H2 f=some (YF {cls:=.type "function",data:=.func fd})->PySem.W.FnAt f s2.heap:=λI2 q=>⟨_,_,fd,_,(show qx X.prog X.w _ _ f (YF _) from I2.hok f _ q).1⟩
 exact PySem.W.callWith_F (at_ I1 hf) (qY (ha pos pins s1 σ _ _ I1 h) λus s2 ⟨vs,H2,I2,r,q0,q⟩=>⟨at_ I2 q0,WC F hr hb .nil hx I2 r (by simpa using q)⟩) he hpl)
end
end L2
set_option Elab.async false
set_option linter.all false
set_option maxRecDepth 100000
set_option maxHeartbeats 4000000
namespace L2
open PySem PySem.Spec PyProof.Rows
structure Xn where
 x:Str
 c:Addr
 P:Addr
 q:Str
def Qj (tabs:List Xn) (H:Hp):Hp:=λb=>match tabs.find? λq=>q.P==b with
 | some q=>some (.tbl #[.str q.q 0])
 | none=>H b
theorem JK {tabs:List Xn} {H:Hp} {b:Addr} (h:∀q∈tabs,q.P≠b):Qj tabs H b=H b:=by
 unfold Qj
 cases e:tabs.find? λq=>q.P==b with
 | none=>rfl
 | some q=>exact absurd (beq_iff_eq.mp (List.find?_some (p:=λq:Xn=>q.P==b) e)) (h q (List.mem_of_find?_eq_some e))
theorem Zf {tabs:List Xn} {H:Hp} {b:Addr} {q:Xn} (h:q∈tabs) (e:q.P=b):∃q'∈tabs,q'.P=b/\Qj tabs H b=some (.tbl #[.str q'.q 0]):=by
 unfold Qj
 cases e2:tabs.find? λq=>q.P==b with
 | none=>exact absurd (beq_iff_eq.mpr e) (by simpa using List.find?_eq_none.mp e2 q h)
 | some q'=>exact⟨q',List.mem_of_find?_eq_some e2,beq_iff_eq.mp (List.find?_some (p:=λq:Xn=>q.P==b) e2),rfl⟩
theorem vT {tabs:List Xn} {H:Hp} (nd:(tabs.map (·.P)).Nodup) {q:Xn} (h:q∈tabs):Qj tabs H q.P=some (.tbl #[.str q.q 0]):=by
 obtain⟨q',h',e,r⟩:=Zf (H:=H) h rfl
 have:q'=q:=by
   have inj:∀{l:List Xn},(l.map (·.P)).Nodup->∀{a b:Xn},a∈l->b∈l->a.P=b.P->a=b:=by
     intro l
     induction l with
     | nil=>intro _ a b h;cases h
     | cons z l ih=>
       intro n a b ha hb e
       rw[List.map_cons,List.nodup_cons]at n
       rcases List.mem_cons.mp ha with ea | ha
       . rcases List.mem_cons.mp hb with eb | hb
         . rw[ea,eb]
         . exact absurd (List.mem_map.mpr ⟨b,hb,by rw[<-e,ea]⟩) n.1
       . rcases List.mem_cons.mp hb with eb | hb
         . exact absurd (List.mem_map.mpr ⟨a,ha,by rw[e,eb]⟩) n.1
         . exact ih n.2 ha hb e
   exact inj nd h' h e
 rw[r,this]
theorem VI {P:Program} {w:World} {K:PySem.W.Frag} {mg mb:Str->Option Value} {CX:Zd} {k:Nat} {fa a:Addr} {fd:FuncData} {x:Str} {sp:Sp} {s₁:Shared} {vs:List Value} {ns:List Int} {tabs:List Xn}
   (KX:K.In s₁.heap) (hns:s₁.heap.Ns mainGlobals mg) (hb:s₁.heap.Ns builtinsNs mb) (hbb:∀x:Str,x≠"__name__"->mb x=bootBuiltins x) (hlim:s₁.heap.NoLimit) (hg:s₁.gens=#[])
   (ha:s₁.heap.get? a=some {cls:=.type "list",data:=.seq vs.toArray}) (hi:IntsAre vs ns) (hl:ns.length<=sizeLine) (hr:qS k callerA)
   (hT:∀q∈tabs,PySem.W.CodeHd s₁.heap q.c q.P/\s₁.heap.get? q.P=some (PySem.W.tabObj #[])) (nd:(tabs.map (·.P)).Nodup) (hbl:∃bm o,mg "__builtins__"=some (.ref bm)/\bm≠builtinsNs/\bm≠mainGlobals/\s₁.heap.get? bm=some o/\o.cls=.type "module"/\o.dict=some builtinsNs/\o.data=.plain) (hnt:PySem.W.noTabs K=true)
   (F:∀base:Heap,K.In base->base.Ns mainGlobals mg->(∀q∈tabs,YB mg base q.c q.P)->qo P w K mg base CX k fa fd [x] sp) (hbind:∀(s:Shared) (u:Value),BindsTo s fd ⟨[u],[]⟩ [(x,u)])
   (hsp:∀H:Hp,SqL K H a (ns.map V.int)->(∀q∈tabs,H q.P=some (.tbl #[.str q.q 0]))->sp [.ref a] H (λv _=>v=.bl true) λ_ _ _=>False)
   (hCX:∀H e s',CX [] H s₁ (λ_ _ _=>False) e s'->False):
   codeAny (model P w) callerA (.call (.ref fa) ⟨[.ref a],[]⟩) (λr s'=>r=.ok (.ret (.bool true))/\OldK s₁.heap s'.heap/\s'.os=s₁.os/\AllBare s'.gens) s₁:=by
 have rv:=zz hi
 have lenV:=hi.length
 have naP:∀q∈tabs,q.P≠a:=λq hq z=>by
   have:=(hT q hq).2
   rw[z,ha]at this
   cases this
 have core:∀H0:Hp,Gd H0->SqL K H0 a (ns.map V.int)->QZ P w H0 s₁.heap->(∀b,H0 b≠none->b=a)->(H0 a≠none->K.lookup a=none)->
     codeAny (model P w) callerA (.call (.ref fa) ⟨[.ref a],[]⟩) (λr s'=>r=.ok (.ret (.bool true))/\OldK s₁.heap s'.heap/\s'.os=s₁.os/\AllBare s'.gens) s₁:=by
   intro H0 hO hS0 hok0 hA hK
   have hS:SqL K (Qj tabs H0) a (ns.map V.int):=by
     have e:Qj tabs H0 a=H0 a:=JK naP
     rcases hS0 with (h | ⟨o,h⟩) | h
     . exact .inl (.inl (e.trans h))
     . exact .inl (.inr ⟨o,e.trans h⟩)
     . exact .inr h
   have cases_:∀b,Qj tabs H0 b≠none->b=a\/∃q∈tabs,q.P=b:=λb z=>by
     rcases Classical.em (∃q∈tabs,q.P=b) with h | h
     . exact .inr h
     . rw[JK λq hq e=>h ⟨q,hq,e⟩]at z
       exact .inl (hA b z)
   have hok:QZ P w (Qj tabs H0) s₁.heap:=λb u e=>by
     rcases Classical.em (∃q∈tabs,q.P=b) with ⟨q,hq,eq⟩ | h
     . obtain⟨q',hq',e',r⟩:=Zf (H:=H0) hq eq
       rw[r]at e
       cases e
       exact⟨#[],by rw[<-e'];exact(hT q' hq').2,True.intro,λpos cv z=>nomatch z⟩
     . rw[JK λq hq e=>h ⟨q,hq,e⟩]at e
       have hb':b=a:=hA b (by rw[e];exact λz=>nomatch z)
       rcases hO b with z | ⟨o,xs,z⟩
       . rw[z]at e;cases e
       . rw[z]at e
         cases e
         obtain⟨h1,h2,its,n,h3,h4⟩:=(show qx P w H0 s₁.heap b (.frz o (.lst xs)) from hok0 b _ z)
         exact⟨h1,h2,its,n,h3,h4⟩
   have noT:∀{b:Addr} {o:Obj},s₁.heap.get? b=some o->o≠PySem.W.tabObj #[]->o≠{cls:=.type "list",data:=.seq vs.toArray}->Qj tabs H0 b=none:=λ{b o} e n1 n2=>by
     cases q:Qj tabs H0 b with
     | none=>rfl
     | some u=>
       rcases cases_ b (by rw[q];exact λz=>nomatch z) with z | ⟨t,ht,z⟩
       . rw[z,ha]at e
         exact absurd (Option.some.inj e).symm n2
       . have:=(hT t ht).2
         rw[z,e]at this
         exact absurd (Option.some.inj this) n1
   have base_of:∀{b:Addr} {o:Obj},s₁.heap.get? b=some o->Qj tabs H0 b=none->(zv s₁.heap (Qj tabs H0)).get? b=some o:=λe n=>vp e n
   have nsK:∀{b:Addr} {m:Str->Option Value},s₁.heap.Ns b m->(zv s₁.heap (Qj tabs H0)).Ns b m:=λ{b m} ⟨o,es,ep,e,d,r⟩=>⟨o,es,ep,base_of e (noT e (λz=>by rw[z]at d;cases d) (λz=>by rw[z]at d;cases d)),d,r⟩
   have hKb:K.In (zv s₁.heap (Qj tabs H0)):=λb o e=>base_of (KX b o e) (by
     cases q:Qj tabs H0 b with
     | none=>rfl
     | some u=>
       rcases cases_ b (by rw[q];exact λz=>nomatch z) with z | ⟨t,ht,z⟩
       . have e1:Qj tabs H0 a=H0 a:=JK naP
         rw[z,e1]at q
         rw[z,hK (by rw[q];exact λz=>nomatch z)]at e
         cases e
       . have:=(hT t ht).2
         rw[z,KX b o e]at this
         have h2:=List.all_eq_true.mp hnt (b,o) (PySem.W.mem_of_lookupK e)
         rw[Option.some.inj this]at h2
         exact absurd (show false=true from h2) Bool.false_ne_true)
   have hM:Mod K mg (zv s₁.heap (Qj tabs H0)):=⟨hKb,nsK hns,⟨mb,nsK hb,hbb⟩,let ⟨mc,h1,h2⟩:=hlim;⟨mc,nsK h1,h2⟩⟩
   have hTM:∀q∈tabs,YB mg (zv s₁.heap (Qj tabs H0)) q.c q.P:=λq hq=>by
     refine⟨?_,?_⟩
     . obtain⟨o,vs',file,tf,flags,tg,inF,text,tt,e1,e2,r⟩:=(hT q hq).1
       exact⟨o,vs',file,tf,flags,tg,inF,text,tt,base_of e1 (noT e1 (λz=>by rw[z]at e2;cases e2) (λz=>by rw[z]at e2;exact absurd (show Value.type "list"=Value.type "code" from e2) (by decide))),e2,r⟩
     . obtain⟨bm,o,b1,b2,b3,b4,b5,b6,b7⟩:=hbl
       refine⟨bm,o,b1,b2,b3,λz=>?_,base_of b4 (noT b4 (λz=>by rw[z]at b5;cases b5) (λz=>by rw[z]at b5;exact absurd (show Value.type "list"=Value.type "module" from b5) (by decide))),b5,b6,b7⟩
       have:=(hT q hq).2
       rw[<-z,b4]at this
       cases this
       cases b5
   have e0:Xp P w K mg (zv s₁.heap (Qj tabs H0)) callerA [] s₁ (Qj tabs H0):=⟨rfl,hM,λb o e=>kL e,Nat.le_of_eq (VT _ _),trivial,λb hb=>absurd (show b∈([]:List Addr) from hb) (by simp),hok,.of_eq hg⟩
   refine codeAny_mono ((F _ hKb (nsK hns) hTM).run callerA [] s₁ (Qj tabs H0) ⟨[.ref a],[]⟩ [.ref a] [.ref a] _ _ hr e0 (hbind s₁ (.ref a)) (.cons rfl .nil) (hsp _ hS λq hq=>vT nd hq)) λr s' h=>?_
   cases r with
   | error e=>exact(hCX _ e s' h).elim
   | ok fl=>
     cases fl with
     | next=>exact False.elim h
     | brk=>exact False.elim h
     | cont=>exact False.elim h
     | ret u=>
       obtain⟨v,H',os,bare,un,hok',r',q⟩:=h
       have q':v=.bl true:=q
       subst q'
       obtain rfl:u=Value.bool true:=r'
       have all:∀b o,s₁.heap.get? b=some o->s'.heap.get? b=some o\/∃t∈tabs,t.P=b/\∃ts,s'.heap.get? b=some (PySem.W.tabObj ts):=λb o e=>by
         rcases Classical.em (∃q∈tabs,q.P=b) with ⟨t,ht,et⟩ | h
         . obtain⟨t',ht',e',r⟩:=Zf (H:=H0) ht et
           obtain⟨m,z⟩:=un.tbls b _ r
           obtain⟨ts,z2,_⟩:=(show qx P w H' s'.heap b (.tbl _) from hok' b _ z)
           exact .inr ⟨t,ht,et,ts,z2⟩
         . have e1:Qj tabs H0 b=H0 b:=JK λq hq e=>h ⟨q,hq,e⟩
           cases q:H0 b with
           | none=>exact .inl (un.keep b o e (e1.trans q) (by intro z;exact absurd (show b∈([]:List Addr) from z) (by simp)) (by simp))
           | some u=>
             rcases hO b with z | ⟨ob,xs,z⟩
             . rw[q]at z;cases z
             . have z2:=un.frzs b ob _ (e1.trans z)
               obtain⟨h1,_⟩:=hok0 b _ z
               obtain⟨h2,_⟩:=hok' b _ z2
               rw[e]at h1;cases h1
               exact .inl h2
       refine⟨rfl,⟨λb o e=>?_,λb o e=>?_⟩,os,bare⟩
       . rcases all b o e with z | ⟨t,ht,et,ts,z⟩
         . exact .inl z
         . have e2:=(hT t ht).2
           rw[et,e]at e2
           cases e2
           subst et
           exact .inr (.inl ⟨((hT t ht).1.tab (hT t ht).2).isCodeTable,rfl,#[],ts,rfl,by rw[Array.empty_append];exact z⟩)
       . rcases all b o e with z | ⟨t,ht,et,ts,z⟩
         . exact⟨_,z⟩
         . exact⟨_,z⟩
 cases hk:K.lookup a with
 | some o=>
   have e:=KX a o hk
   rw[ha]at e
   cases e
   refine core (λ_=>none) (λ_=>.inl rfl) (.inr ⟨_,vs.toArray,_,hk,rfl,rfl,rfl,by rw[List.size_toArray,lenV];exact hl,by simpa using rv⟩) (λb u z=>by have z':(none:Option HO)=some u:=z;cases z') (λb z=>absurd rfl z) λz=>absurd rfl z
 | none=>
   refine core (λb=>if b=a then some (.frz {cls:=.type "list",data:=.seq vs.toArray} (.lst (ns.map V.int))) else none) (λb=>?_) (.inl (.inr ⟨{cls:=.type "list",data:=.seq vs.toArray},if_pos rfl⟩)) (λb u z=>?_) (λb z=>?_) λ_=>hk
   . by_cases hb:b=a
     . exact .inr ⟨_,_,if_pos hb⟩
     . exact .inl (if_neg hb)
   . by_cases hb:b=a
     . have z':=(if_pos hb).symm.trans z
       cases z'
       subst hb
       exact⟨ha,by rw[List.length_map];exact hl,vs,_,rv,ha⟩
     . have z':=(if_neg hb).symm.trans z
       cases z'
   . by_cases hb:b=a
     . exact hb
     . exact absurd (if_neg hb) z
theorem walk_ofT {l:PySem.W.OpenLaw} {n k:Nat} {q:Program} {loose:List Str} {XP:(Str->Option Value)->Heap->Prop} {YP:World->Heap->Prop} {d:DefRec} {K:Params->PySem.W.Frag} {sp:PySem.W.Frag->List Xn->Sp} {x:Str} {ts:List Addr}
   (hn:l.most=some n) (hn2:n<=sizeLine) (hdf:d.params.defaults=[]) (hr:qS k callerA)
   (hY:∀(w:World) (h:Heap),YP w h->(K w.params).In h) (hTs:∀(w:World) (h:Heap),YP w h->∀P∈ts,h.get? P=some (PySem.W.tabObj #[])) (hnt:∀w:World,PySem.W.noTabs (K w.params)=true)
   (F:∀(w:World) (mg:Str->Option Value) (fa:Addr) (h:Heap),(K w.params).In h->h.Ns mainGlobals mg->mg d.name=some (.ref fa)->
     ∃(tabs:List Xn) (fd:FuncData),(tabs.map (·.P)).Nodup/\(∀t∈tabs,t.P∈ts/\PySem.W.codeHdIn (K w.params) t.c t.P=true)/\(∀(s:Shared) (u:Value),BindsTo s fd ⟨[u],[]⟩ [(x,u)])/\
      ∀base:Heap,(K w.params).In base->base.Ns mainGlobals mg->(∀t∈tabs,YB mg base t.c t.P)->qo l.prog w (K w.params) mg base qZ k fa fd [x] (sp (K w.params) tabs))
   (hsp:∀(K:PySem.W.Frag) (tabs:List Xn) (H:Hp) (a:Addr) (ns:List Int),ns.length<=n->SqL K H a (ns.map V.int)->(∀q∈tabs,H q.P=some (.tbl #[.str q.q 0]))->sp K tabs [.ref a] H (λv _=>v=.bl true) λ_ _ _=>False):
   PySem.W.WalkO q loose XP YP l.row.toRowW d [] (λf vs=>PySem.call f vs):=by
 refine Att.attach_call hn hdf λw s₀ s₁ mg mb fa o pm cd doc a vs ns G Y ho hd hcd hmg hobj hints hlen hg=>?_
 have KX:=hY w _ Y
 obtain⟨tabs,fd,nd,ht,hb,hF⟩:=F w mg fa _ KX G.T.g hmg
 refine VI KX G.T.g G.T.b G.T.builtins G.T.nolimit hg hobj hints (Nat.le_trans hlen hn2) hr (tabs:=tabs) (λt hm=>⟨PySem.W.codeHd_of_K KX (ht t hm).2,hTs w _ Y _ (ht t hm).1⟩) nd ?_ (hnt w) hF hb (λH hS hP=>hsp _ _ H a ns hlen hS hP) λH e s' z=>z
 obtain⟨bm,ob,a1,a2,a3,a4,a5,a6⟩:=G.T.bmain
 refine⟨bm,ob,a1,a2,λz=>?_,a3,a4,a5,a6⟩
 obtain⟨o',es,ep,e,hd',_⟩:=G.T.g
 rw[z,e]at a3
 cases a3
 rw[hd']at a6
 cases a6
end L2
set_option Elab.async false
set_option linter.all false
set_option maxRecDepth 100000
set_option maxHeartbeats 4000000
namespace L2
open PySem PySem.Spec PyProof.Rows
mutual
inductive DG (H:Hp):V->PyData->Prop
 | non:DG H .non .none
 | bl (b:Bool):DG H (.bl b) (.bool b)
 | int (i:Int):DG H (.int i) (.int i)
 | str (x:Str):DG H (.str x) (.str x)
 | lst {a:Addr} {xs:List V} {ds:List PyData}:H a=some (.lst xs)->a≠sysModules->DGs H xs ds->DG H (.ref a) (.list ds)
 | tup {a:Addr} {xs:List V} {ds:List PyData}:H a=some (.tup xs)->DGs H xs ds->DG H (.ref a) (.tuple ds)
 | dct0 {a:Addr}:H a=some (.dK [])->DG H (.ref a) (.dict [])
 | dct1 {a:Addr} {z:Str} {i:Int}:H a=some (.dK [(Sum.inr z,.int i)])->DG H (.ref a) (.dict [(.str z,.int i)])
inductive DGs (H:Hp):List V->List PyData->Prop
 | nil:DGs H [] []
 | cons {x:V} {xs:List V} {d:PyData} {ds:List PyData}:DG H x d->DGs H xs ds->DGs H (x::xs) (d::ds)
end
mutual
theorem DG.keepX {H H':Hp} (k:∀b o,H b=some o->(∀φ,o≠.ext φ)->H' b=some o):∀{x:V} {d:PyData},DG H x d->DG H' x d
 | _,_,.non=>.non
 | _,_,.bl b=>.bl b
 | _,_,.int i=>.int i
 | _,_,.str x=>.str x
 | _,_,.lst q n hs=>.lst (k _ _ q (λ_ z=>nomatch z)) n (DGs.keepX k hs)
 | _,_,.tup q hs=>.tup (k _ _ q (λ_ z=>nomatch z)) (DGs.keepX k hs)
 | _,_,.dct0 q=>.dct0 (k _ _ q (λ_ z=>nomatch z))
 | _,_,.dct1 q=>.dct1 (k _ _ q (λ_ z=>nomatch z))
theorem DGs.keepX {H H':Hp} (k:∀b o,H b=some o->(∀φ,o≠.ext φ)->H' b=some o):∀{xs:List V} {ds:List PyData},DGs H xs ds->DGs H' xs ds
 | _,_,.nil=>.nil
 | _,_,.cons h hs=>.cons (DG.keepX k h) (DGs.keepX k hs)
end
theorem DGs.app {H:Hp} {ys:List V} {es:List PyData} (b:DGs H ys es):∀{xs:List V} {ds:List PyData},DGs H xs ds->DGs H (xs++ys) (ds++es)
 | _,_,.nil=>b
 | _,_,.cons h hs=>.cons h (DGs.app b hs)
theorem DGs.strs {H:Hp}:∀zs:List Str,DGs H (zs.map V.str) (zs.map PyData.str)
 | []=>.nil
 | _::zs=>.cons (.str _) (DGs.strs zs)
section
variable {X:Cx} {pins:List (Addr×Obj)} {σ:St} {H:Hp} {s:Shared}
mutual
theorem DG.reads (I:qu X pins σ H s):∀{x:V} {d:PyData},DG H x d->∀{u:Value},qG x u->∃as,Reads s.heap u d as/\sysModules∉as
 | _,_,.non,u,r=>by cases (show u=Value.none from r);exact⟨_,.none,by simp⟩
 | _,_,.bl b,u,r=>by cases (show u=Value.bool b from r);exact⟨_,.bool b,by simp⟩
 | _,_,.int i,u,r=>by obtain⟨t,q⟩:=(show ∃t,u=Value.int i t from r);subst q;exact⟨_,.int i t,by simp⟩
 | _,_,.str x,u,r=>by obtain⟨t,q⟩:=(show ∃t,u=Value.str x t from r);subst q;exact⟨_,.str x t,by simp⟩
 | _,_,.lst (a:=a) (xs:=xs) hq n hs,u,r=>by
   cases (show u=Value.ref a from r)
   obtain⟨_,its,k,rv,e⟩:=(show qx X.prog X.w H s.heap a (.lst xs) from I.hok a _ hq)
   obtain⟨as,ra,na⟩:=DGs.reads I hs rv
   exact⟨_,.list e rfl rfl (by simpa using ra),by simp [Ne.symm n,na]⟩
 | _,_,.tup (a:=a) (xs:=xs) hq hs,u,r=>by
   cases (show u=Value.ref a from r)
   obtain⟨its,rv,⟨o,e,hc,k,hda⟩,hz⟩:=I.tuple (.of hq)
   obtain⟨as,ra,na⟩:=DGs.reads I hs rv
   exact⟨_,.tuple e hc hda (by simpa using ra),na⟩
 | _,_,.dct0 (a:=a) ha,u,r=>by
   cases (show u=Value.ref a from r)
   obtain⟨_,hna,vs,kv,dd⟩:=(show qx X.prog X.w H s.heap a (.dK []) from I.hok a _ ha)
   cases kv
   obtain⟨o,es,ep,ho,hc,hdat,hk,hp,hn⟩:=dd
   generalize e0:es.toList=l0 at hp
   cases hp
   have n2:sysModules≠a:=λz=>by rw[<-z]at hna;exact absurd hna (by simp)
   exact⟨_,.dict ho hc.1 hdat (by rw[e0];exact .nil) (by rw[e0];exact .nil),by simp [n2]⟩
 | _,_,.dct1 (a:=a) (z:=z) (i:=i) ha,u,r=>by
   cases (show u=Value.ref a from r)
   obtain⟨_,hna,vs,kv,dd⟩:=(show qx X.prog X.w H s.heap a (.dK [(Sum.inr z,.int i)]) from I.hok a _ ha)
   cases kv with
   | cons h1 kv=>
     cases kv
     obtain⟨e1,t,e2⟩:=h1
     obtain⟨o,es,ep,ho,hc,hdat,hk,hp,hn⟩:=dd
     have n2:sysModules≠a:=λz=>by rw[<-z]at hna;exact absurd hna (by simp)
     generalize hl:es.toList=l at hp
     cases hp with
     | cons k1 k2 hp=>
       cases hp
       rename_i kv2 e
       rw[<-e1]at k1
       have k1':zf (Sum.inr z) e.key=true:=k1
       rcases q5 k1' with ⟨j,t2,q1,q2⟩ | ⟨y,t2,q1,q2⟩
       . cases q1
       . cases q1
         refine⟨_,.dict ho hc.1 hdat (as:=[]++[]) (bs:=[]++[]) ?_ ?_,by simp [n2]⟩
         . rw[hl]
           show ReadsAll s.heap [e.key] [.str z] _
           rw[q2]
           exact .cons (.str z t2) .nil
         . rw[hl]
           show ReadsAll s.heap [e.val] [.int i] _
           rw[k2,e2]
           exact .cons (.int i t) .nil
theorem DGs.reads (I:qu X pins σ H s):∀{xs:List V} {ds:List PyData},DGs H xs ds->∀{us:List Value},qD xs us->∃as,ReadsAll s.heap us ds as/\sysModules∉as
 | _,_,.nil,_,.nil=>⟨_,.nil,by simp⟩
 | _,_,.cons h hs,_,.cons r rs=>by
   obtain⟨as,a,na⟩:=DG.reads I h r
   obtain⟨bs,b,nb⟩:=DGs.reads I hs rs
   exact⟨_,.cons a b,by simp [na,nb]⟩
end
end
def xg:List V->Hp->VK->Prop:=λxs H Q=>∃v d,xs=[v]/\DG H v d/\d.showable=true/\d.depth<=60/\d.shown.length<=sizeLine/\(∀i,d=.int i->i.natAbs.log2 < 1920)/\Q (.str d.shown) H
theorem QV {X:Cx} (hg:X.A.guards=some []) (hu:X.A.units+64 < cLine):jX X (.builtin "repr") xg:=by
 intro pins s σ H xs us Q I r h
 obtain⟨v,d,rfl,dg,h1,h2,h3,h4,q⟩:=h
 obtain⟨u,rfl,ru⟩:=Qz r
 have heap:∀{a:Addr},v=.ref a->wpAny (model X.prog X.w) X.A (call (.builtin "repr") [u]) (EP X pins σ Q) X.xe s:=λ{a} e=>by
   subst e
   obtain⟨as,rd,na⟩:=dg.reads I ru
   cases (show u=Value.ref a from ru)
   exact repr_of_reads' rd h1 (λ_=>na) hg (by omega) (λ_ _ e=>e) (λh' t tk k=>⟨.str d.shown,H,I.kept (t':=tk) k,⟨t,rfl⟩,q⟩) h3
 cases dg with
 | non=>
   cases (show u=Value.none from ru)
   exact PySem.P.repr_of_none ⟨.str _,H,I.tok _,⟨_,rfl⟩,q⟩
 | bl b=>
   cases (show u=Value.bool b from ru)
   exact PySem.P.repr_of_bool ⟨.str _,H,I.tok _,⟨_,rfl⟩,q⟩
 | int i=>
   obtain⟨t,e⟩:=(show ∃t,u=Value.int i t from ru)
   subst e
   exact PySem.P.repr_of_int (h4 i rfl) ⟨.str _,H,I.tok _,⟨_,rfl⟩,q⟩
 | str x=>
   obtain⟨t,e⟩:=(show ∃t,u=Value.str x t from ru)
   subst e
   exact PySem.P.repr_of_str ⟨.str _,H,I.tok _,⟨_,rfl⟩,q⟩ h3
 | lst _ _ _=>exact heap rfl
 | tup _ _=>exact heap rfl
 | dct0 _=>exact heap rfl
 | dct1 _=>exact heap rfl
def xk (K:PySem.W.Frag):R2:=λx y H Q=>∃a b xs ys,x=.ref a/\y=.ref b/\SqL K H a xs/\SqL K H b ys/\xs.length+ys.length<=sizeLine/\∀l,H l=none->l≠sysModules->Q (.ref l) (upd H l (.lst (xs++ys)))
def wY (K:PySem.W.Frag):V->Option Int->Option Int->Hp->VK->Prop:=λx lo hi H Q=>∃a xs,x=.ref a/\SqL K H a xs/\∀p,H p=none->p≠sysModules->Q (.ref p) (upd H p (.lst (cutV xs lo hi)))
section
variable {X:Cx}
theorem YY:JF X (binaryOp .Add) (xk X.K):=by
 intro pins s σ H x y v u Q I rx ry h
 obtain⟨a,b,xs,ys,rfl,rfl,ha,hb,hz,q⟩:=h
 cases rx
 cases ry
 obtain⟨its,rv,pl,_⟩:=I.list ha
 obtain⟨its2,rv2,pl2,_⟩:=I.list hb
 have l1:=rv.length
 have l2:=rv2.length
 obtain⟨⟨cls,dd,data,sl⟩,ho,hc,n,hd⟩:=id pl.isList
 obtain⟨⟨cls2,dd2,data2,sl2⟩,ho2,hc2,n2,hd2⟩:=id pl2.isList
 simp only at hc hd hc2 hd2
 subst hc hd hc2 hd2
 have e:its.toArray++its2.toArray=(its++its2).toArray:=by simp
 refine concat_meets ⟨_,ho,rfl⟩ ⟨_,ho2,rfl⟩ noFill_list_add seq_list_add PySem.F.slot_list_add PySem.F.entry_list_add (PySem.F.args_list_add_2 _ _) (list_addW a b its.toArray its2.toArray n n2 dd dd2 sl sl2 (by simp only[List.size_toArray];omega)) ⟨ho,ho2,?_⟩
 rw[e]
 exact⟨.ref s.heap.objs.size,_,I.laid (t':=s.toks) (o:=.lst (xs++ys)) (λb u h=>Heap.get?_push_of_some _ h) (Nat.le_refl _) ⟨by rw[List.length_append];exact hz,its++its2,_,Paired.app rv rv2,Heap.get?_push_size _ rfl⟩,rfl,q _ (I.hok.fresh (Nat.le_refl _)) (Ne.symm (Nat.ne_of_lt I.big))⟩
theorem Up:Ki X (wY X.K):=by
 intro pins s σ H x v vl vu lo hi sl Q I rx hs pl pu h
 obtain⟨a,xs,rfl,hx,q⟩:=h
 cases rx
 obtain⟨its,r,ht,hz⟩:=I.list hx
 have hlen:=r.length
 refine⟨"list",_,slot_list_getitem.lookup,ht.isList.typeIs,?_⟩
 refine wpAny_getItem_list_slice ht.isList hs pl pu .none (by simp) ?_ (by rw[List.size_toArray]<;>omega)
 rw[Jq,<-hlen]
 refine⟨.ref s.heap.objs.size,_,I.laid (t':=s.toks) (o:=.lst (cutV xs lo hi)) (λb ob q=>Heap.get?_push_of_some _ q) (Nat.le_refl _) ?_,rfl,q _ (I.hok.fresh (Nat.le_refl _)) (Ne.symm (Nat.ne_of_lt I.big))⟩
 exact⟨Nat.le_trans (ZE xs lo hi) hz,_,0,(r.drop (HT.sIx xs.length 0 lo)).take (HT.sIx xs.length xs.length hi - HT.sIx xs.length 0 lo),Heap.get?_push_size _ rfl⟩
end
end L2
set_option Elab.async false
set_option linter.all false
set_option maxRecDepth 100000
set_option maxHeartbeats 4000000
namespace Rh
open PySem L2
def top (i:Nat):Stmt:=PySem.Challenge.pw_ringheaps_k21_heaps_refused.main.body.getD i (.Pass ⟨0,0,0,0⟩)
abbrev JV:Stmt:=top 12
abbrev WA:Stmt:=top 38
abbrev ZL:Stmt:=top 39
abbrev JP:Stmt:=top 40
abbrev Z4:Stmt:=top 41
abbrev Z5:Stmt:=top 42
abbrev Ww:Stmt:=top 43
abbrev Yg:Stmt:=top 49
end Rh
namespace Rh
open PySem L2 PyProof.Rows
structure jo (K:PySem.W.Frag) (mg:Str->Option Value) (x:Str) (st:Stmt) (ps:List Str) (f:Addr) (fd:FuncData):Prop where
 fn:jU K x x st f fd
 ns:mg x=some (.ref f)
 bi:jx K fd ps []
theorem qX {X:Cx} {x:Str} {st:Stmt} {ps:List Str} {f:Addr} {fd:FuncData} {k:Nat} {sp:Sp} {e:Expr} {es:List Expr} {t:TA} {p pos:Pos} (h:jo X.K X.mg x st ps f fd) (G:qo X.prog X.w X.K X.mg X.base qZ k f fd ps sp) (hr:qS k X.A)
   (hg:Gl X x) (ha:JA X (e::es) t) (hdb:(x==("__debug__":Str))=false:=by decide) (he:starEach (e::es) X.env=(false,eval e X.env)::starEach es X.env:=by rfl) (hpl:(backTo pos (starEach es X.env)).any (·.1)=false:=by rfl):
   JE X (.Call (.Name x p) (e::es) [] pos) (ZX sp [] E0 t):=.of (WH G hr hg h.ns h.fn.kp h.bi .nil Js ha.to hdb he hpl)
theorem qr {H:Hp} {b p:Addr} {o o':HO} (h:H b=some o) (hp:H p=none):upd H p o' b=some o:=by
 rw[qf (ql h hp)]
 exact h
theorem qh {H:Hp} {p:Addr} {o:HO} (hp:H p=none):Same H (upd H p o):=λb u h=>qr h hp
theorem Same.upd {H H':Hp} {p:Addr} {o:HO} (s:Same H H') (hp:H p=none):Same H (upd H' p o):=λb u h=>by
 rw[qf (ql h hp)]
 exact s b u h
def jf (n s t:Int):List (qP×V):=[(Sum.inr "number",.int n),(Sum.inr "seed",.int s),(Sum.inr "turn",.int t)]
theorem nns:¬(Str.ofString "number")=Str.ofString "seed":=by decide+kernel
theorem KO:¬(Str.ofString "number")=Str.ofString "turn":=by decide+kernel
theorem KN:¬(Str.ofString "seed")=Str.ofString "turn":=by decide+kernel
theorem nsn:¬(Str.ofString "seed")=Str.ofString "number":=by decide+kernel
theorem ntn:¬(Str.ofString "turn")=Str.ofString "number":=by decide+kernel
theorem nts:¬(Str.ofString "turn")=Str.ofString "seed":=by decide+kernel
theorem vn {a b:Str} (h:¬a=b):¬(Sum.inr a:qP)=Sum.inr b:=λe=>h (Sum.inr.inj e)
section
variable {H:Hp} {d:Addr} {n s t:Int}
theorem gN (h:H d=some (.dK (jf n s t))):Qy H d (.str "number") (some (.int n)):=by
 have e:jy (jf n s t) (Sum.inr "number":qP)=some (.int n):=qT rfl
 have q:=Qy.k (k:=(Sum.inr "number":qP)) h
 rw[e]at q
 exact q
theorem gS (h:H d=some (.dK (jf n s t))):Qy H d (.str "seed") (some (.int s)):=by
 have e:jy (jf n s t) (Sum.inr "seed":qP)=some (.int s):=(qU (vn nns)).trans (qT rfl)
 have q:=Qy.k (k:=(Sum.inr "seed":qP)) h
 rw[e]at q
 exact q
theorem gT (h:H d=some (.dK (jf n s t))):Qy H d (.str "turn") (some (.int t)):=by
 have e:jy (jf n s t) (Sum.inr "turn":qP)=some (.int t):=(qU (vn KO)).trans ((qU (vn KN)).trans (qT rfl))
 have q:=Qy.k (k:=(Sum.inr "turn":qP)) h
 rw[e]at q
 exact q
theorem wK:(jf n s t).length < sizeLine:=qw (by show 3<=1000;decide)
theorem pN (h:H d=some (.dK (jf n s t))) (v:Int):Zb H d (.str "number") (.int v) (upd H d (.dK (jf v s t))):=by
 have e:jE (jf n s t) (Sum.inr "number":qP) (.int v)=jf v s t:=by
   unfold jE jf
   simp [nsn,ntn]
 have q:=Zb.k (k:=(Sum.inr "number":qP)) (v:=.int v) h wK
 rw[e]at q
 exact q
theorem pT (h:H d=some (.dK (jf n s t))) (v:Int):Zb H d (.str "turn") (.int v) (upd H d (.dK (jf n s v))):=by
 have e:jE (jf n s t) (Sum.inr "turn":qP) (.int v)=jf n s v:=by
   unfold jE jf
   simp [KO,KN]
 have q:=Zb.k (k:=(Sum.inr "turn":qP)) (v:=.int v) h wK
 rw[e]at q
 exact q
end
def Q7:Sp:=λvs H Q _=>∃(d:Addr) (m n s t:Int),vs=[.ref d,.int m]/\H d=some (.dK (jf n s t))/\0 < m/\m.natAbs < 2^200/\∀r n' t',0<=r->r < m->Q (.int r) (upd H d (.dK (jf n' s t')))
def YO:Sp:=λvs H Q _=>∃c:Int,vs=[.int c]/\∀d n s,H d=none->Q (.ref d) (upd H d (.dK (jf n s 0)))
def Ul (K:PySem.W.Frag):Sp:=λvs H Q _=>∃(a:Addr) (ns:List Int) (k:Int),vs=[.ref a,.int k]/\SqL K H a (ns.map V.int)/\0<=k/\∀v,Q (.int v) H
section
variable {P:Program} {w:World} {K:PySem.W.Frag} {mg:Str->Option Value} {base:Heap}
theorem Ye:qz ["_law_source_here","_law_many","_law_digit","_law_number"] ["_law_source_here","_law_many"] (qi JP):=⟨rfl,rfl,rfl,by decide+kernel,rfl,by decide+kernel,by decide+kernel⟩
theorem Jk {f:Addr} {fd:FuncData} (F:jU K "_law_take" "_law_take" JP f fd):qo P w K mg base qZ 1 f fd ["_law_source_here","_law_many"] Q7:=by
 refine F.okJ Ye (λvs H Q E h=>?_) (λcdv A outer s H vs Q E hr h=>?_)
 . obtain⟨d,m,n,sd,t,rfl,_⟩:=h
   rfl
 . obtain⟨d,m,n,sd,t,rfl,hd,m0,m1,k⟩:=h
   have hu:=zP hr
   refine⟨_,qg (qL (qt zG (Qr hu (jv 0) qQ (λ_ _=>rfl)) qj (qy _))
       (qg (qA (i:=2) Ye.nd rfl (Or.inl rfl) (qI Ql (Qr hu (jv 0) qQ (λ_ _=>rfl)) (jv 1)))
       (qg (j5 hu (jv 0) qQ (qI UQ (Qr hu (jv 0) qQ (λ_ _=>rfl)) (jv 1)) rfl)
       (qk (qM (jv 2))))) qC)
     (qg (j5 hu (jv 0) qQ (qI Qd (Qr hu (jv 0) qQ (λ_ _=>rfl)) qj) rfl)
     (qg (qA (i:=3) Ye.nd rfl (Or.inl rfl) (qI Ql (qI QM (qI Qd (Qr hu (jv 0) qQ (λ_ _=>rfl)) (qI QM qj (Qr hu (jv 0) qQ (λ_ _=>rfl)))) qj) qj))
     (qg (qA (i:=3) Ye.nd rfl (Or.inl rfl) (qI Ql (qI QM (jv 3) (jv 3)) qj))
     (qk (qM (qI Ql (qI kD (qI Ql (qI QM (qI Qd (jv 3) (Qr hu (jv 0) qQ (λ_ _=>rfl))) (qI Qd (jv 3) qj)) qj) qj) (jv 1))))))),?_⟩
   refine⟨_,rfl,d,_,rfl,gN hd,_,_,rfl,rfl,_,rfl,?_⟩
   refine zh (λ_=>?_) (λ_=>?_)
   . refine⟨_,rfl,d,_,rfl,gN hd,_,rfl,_,_,rfl,rfl,m0,?_⟩
     refine⟨_,rfl,d,_,rfl,gN hd,_,rfl,_,_,rfl,rfl,⟨m0,m1⟩,_,rfl,d,_,rfl,pN hd _,?_⟩
     exact⟨_,rfl,k _ _ _ (Int.emod_nonneg _ (by omega)) (Int.emod_lt_of_pos _ m0)⟩
   . refine⟨_,rfl,d,_,rfl,gT hd,_,_,rfl,rfl,_,rfl,d,_,rfl,pT hd _,?_⟩
     have h1:upd H d (.dK (jf n sd (t+1))) d=some (.dK (jf n sd (t+1))):=qd
     refine⟨_,rfl,d,_,rfl,gS h1,_,rfl,d,_,rfl,gT h1,_,_,rfl,rfl,.inl ⟨by decide,by decide⟩,_,_,rfl,rfl,_,_,rfl,rfl,.inr ⟨by decide,by decide⟩,_,_,rfl,rfl,(by show (0:Int) < 2147483647;decide),?_⟩
     generalize ha:((sd+7919*(t+1))*48271) % 2147483647=x
     have x0:0<=x:=by rw[<-ha];exact Int.emod_nonneg _ (by decide)
     have x1:x < 2147483647:=by rw[<-ha];exact Int.emod_lt_of_pos _ (by decide)
     refine⟨_,rfl,_,rfl,_,_,rfl,rfl,.inl ⟨by omega,by omega⟩,_,_,rfl,rfl,(by show (0:Int) < 2147483629;decide),?_⟩
     generalize hb:(x*x) % 2147483629=y
     have y0:0<=y:=by rw[<-hb];exact Int.emod_nonneg _ (by decide)
     have y1:y < 2147483629:=by rw[<-hb];exact Int.emod_lt_of_pos _ (by decide)
     refine⟨_,rfl,_,rfl,d,_,rfl,gT h1,_,_,rfl,rfl,_,rfl,_,_,rfl,rfl,_,_,rfl,rfl,.inr ⟨by omega,by omega⟩,_,_,rfl,rfl,(by show (0:Int) < 2147483587;decide),_,_,rfl,rfl,⟨by decide,by decide⟩,_,rfl,_,_,rfl,rfl,m0,?_⟩
     exact k _ _ _ (Int.emod_nonneg _ (by omega)) (Int.emod_lt_of_pos _ m0)
end
end Rh
namespace Rh
open PySem L2 PyProof.Rows
structure Jj (mg:Str->Option Value):Prop where
 len:mg "len"=none
 max:mg "max"=none
 min:mg "min"=none
 int:mg "int"=none
 rng:mg "range"=none
theorem VG (n s t:Int):Jc [] (jf n s t)=jf n s t:=by
 unfold Jc jf
 simp only[List.foldl_cons,List.foldl_nil]
 unfold jE
 simp [nns,KO,KN,nsn,ntn,nts]
section
variable {P:Program} {w:World} {K:PySem.W.Frag} {mg:Str->Option Value} {base:Heap}
theorem Ur:qz ["_law_cell"] ["_law_cell"] (qi ZL):=⟨rfl,rfl,rfl,by decide+kernel,rfl,by decide+kernel,by decide+kernel⟩
theorem Vw {f:Addr} {fd:FuncData} (F:jU K "_law_source" "_law_source" ZL f fd) (B:Jj mg):qo P w K mg base qZ 1 f fd ["_law_cell"] YO:=by
 refine F.okJ Ur (λvs H Q E h=>?_) (λcdv A outer s H vs Q E hr h=>?_)
 . obtain⟨c,rfl,_⟩:=h
   rfl
 . obtain⟨c,rfl,k⟩:=h
   refine⟨_,qk (qM (WR
     (J4 qQ (qI QM (qp (zV rfl) (by rfl) B.max boot_max (qb qj (qb (jv 0) qe)))
       (jp zW (by rfl) B.int boot_int (qb (QQ UP (jv 0) (qI xo qj qj) (qy _)) qe)))
     (J4 qQ (qI Ql (jv 0) qj) (J4 qQ qj WP))) rfl rfl (by simp) (by decide))),?_⟩
   intro p hp
   refine⟨_,rfl,_,_,rfl,_,rfl,_,_,rfl,rfl,⟨by decide,by decide,by decide⟩,_,_,rfl,rfl,.inr ⟨_,rfl,_,_,rfl,rfl,.inr ?_,_,rfl,_,_,rfl,rfl,(by show (0:Int) < 2147483629;decide),?_⟩⟩
   . split<;>exact⟨by decide,by decide⟩
   . refine⟨qd,jf _ _ 0,rfl,(by show 3<=15;decide),?_⟩
     rw[VG,jz]
     exact k p _ _ hp
theorem xb:qz ["_law_script","_law_k"] ["_law_script","_law_k"] (qi WA):=⟨rfl,rfl,rfl,by decide+kernel,rfl,by decide+kernel,by decide+kernel⟩
theorem kJ {f:Addr} {fd:FuncData} (F:jU K "_law_cell_at" "_law_cell_at" WA f fd) (B:Jj mg):qo P w K mg base qZ 1 f fd ["_law_script","_law_k"] (Ul K):=by
 refine F.okJ xb (λvs H Q E h=>?_) (λcdv A outer s H vs Q E hr h=>?_)
 . obtain⟨a,ns,k,rfl,_⟩:=h
   rfl
 . obtain⟨a,ns,k,rfl,hS,k0,q⟩:=h
   refine⟨_,qg (qL (qt j8 (jv 1) (qp qB (by rfl) B.len boot_len (qb (jv 0) qe)) (qy _))
       (qk (qM (jg jl (jv 0) (jv 1) (λ_ _=>rfl)))) qC)
     (qk (qM (qI Qd (qI QM qj (jv 1)) qj))),?_⟩
   refine⟨_,rfl,_,rfl,a,_,rfl,.inl hS,_,_,rfl,rfl,_,rfl,?_⟩
   refine zh (λh=>?_) (λ_=>?_)
   . have h1:k < ((ns.map V.int).length:Int):=of_decide_eq_true h
     rw[List.length_map]at h1
     have h2:k.toNat < ns.length:=by omega
     have h3:(ns.map V.int)[k.toNat]?=some (V.int ns[k.toNat]):=by rw[List.getElem?_map,List.getElem?_eq_getElem h2];rfl
     have h4:k=((k.toNat:Nat):Int):=by omega
     refine⟨_,rfl,_,rfl,a,_,k,V.int ns[k.toNat],rfl,rfl,hS,?_,q _⟩
     have h5:=J8 h3
     rw[<-h4]at h5
     exact h5
   . exact⟨_,rfl,_,_,rfl,rfl,.inl ⟨by decide,by decide⟩,_,_,rfl,rfl,q _⟩
end
end Rh
set_option Elab.async false
set_option linter.all false
set_option maxRecDepth 100000
set_option maxHeartbeats 4000000
namespace Rh
open PySem L2 PyProof.Rows
def Fr (H:Hp) (d:Addr) (H':Hp):Prop:=∀b o,H b=some o->b≠d->H' b=some o
theorem Fr.refl {H:Hp} {d:Addr}:Fr H d H:=λ_ _ h _=>h
theorem Fr.at_d {H H':Hp} {d:Addr} {o:HO} (h:Fr H d H'):Fr H d (upd H' d o):=λb u hb hn=>by
 rw[qf hn]
 exact h b u hb hn
theorem Fr.new {H H':Hp} {d p:Addr} {o:HO} (h:Fr H d H') (hp:H' p=none):Fr H d (upd H' p o):=λb u hb hn=>qr (h b u hb hn) hp
theorem Fr.own {H H':Hp} {d p:Addr} {o:HO} (h:Fr H d H') (hp:H p=none):Fr H d (upd H' p o):=λb u hb hn=>by
 rw[qf (ql hb hp)]
 exact h b u hb hn
theorem Fr.trans {H H' H'':Hp} {d:Addr} (h:Fr H d H') (k:Fr H' d H''):Fr H d H'':=λb u hb hn=>k b u (h b u hb hn) hn
theorem Fr.fresh {H H':Hp} {d p:Addr} {o:HO} (h:Fr H d H') (hd:H' d=some o) (hp:H' p=none):H p=none:=by
 cases e:H p with
 | none=>rfl
 | some u=>
   by_cases n:p=d
   . subst n
     rw[hd]at hp
     cases hp
   . rw[h p u e n]at hp
     cases hp
def jq (c:Nat):Bool:=decide (97<=c)&&decide (c<=122)
def qK (z:Str):Bool:=(decide (1<=z.length)&&decide (z.length<=8))&&z.cps.toList.all jq
def W6:Str:="abcdefghijklmnopqrstuvwxyz"
theorem z8:W6.cps.toList=[97,98,99,100,101,102,103,104,105,106,107,108,109,110,111,112,113,114,115,116,117,118,119,120,121,122]:=by decide+kernel
theorem vH:W6.cps.toList=(List.range 26).map (97+·):=by rw[z8];rfl
theorem W5:W6.length<=sizeLine:=by
 show W6.cps.size<=sizeLine
 rw[<-Array.length_toList,z8]
 decide
theorem vI {r:Int} (h0:0<=r) (h1:r < 26):Xl W6.cps.toList r=some (97+r.toNat):=by
 have h2:W6.cps.toList[r.toNat]?=some (97+r.toNat):=by
   rw[vH,List.getElem?_map,List.getElem?_range (by omega)]
   rfl
 have h4:=J8 h2
 have h5:r=((r.toNat:Nat):Int):=by omega
 rw[<-h5]at h4
 exact h4
theorem zL {r:Int} (h0:0<=r) (h1:r < 26):jq (97+r.toNat)=true:=by
 unfold jq
 rw[decide_eq_true (by omega:97<=97+r.toNat),decide_eq_true (by omega:97+r.toNat<=122)]
 rfl
theorem xQ (ws:List Nat):(Txt.join (Str.ofString "") (ws.map λk=>(⟨#[k]⟩:Str))).cps.toList=ws:=by
 show (Builtin.Str.glued (Str.ofString "") _).cps.toList=_
 rw[StrLaws.glued_eq_join]
 have e:(Str.ofString "")=⟨#[]⟩:=by decide+kernel
 rw[e,PyProof.Rows.join_ones]
theorem VO {z:Str} {A B:List Nat} {c:Nat} (e:z.cps.toList=A++[c]++B) (hA:A.all jq=true) (hc:jq c=true) (hB:B.all jq=true) (hl:A.length+B.length<=7):qK z=true:=by
 have l:z.length=A.length+1+B.length:=by
   show z.cps.size=_
   rw[<-Array.length_toList,e]
   simp
   omega
 unfold qK
 rw[decide_eq_true (by omega:1<=z.length),decide_eq_true (by omega:z.length<=8),e,List.all_append,List.all_append,hA,hB]
 simp [hc]
def WK (f s:Int) (k:Nat):Nat:=97+((f+s*(k:Int)) % 26).toNat
theorem kO:∀s∈[(1:Int),3,5,7,9,11],∀k,k < 14->∀j,j < 14->(s*((k:Nat):Int) - s*((j:Nat):Int)) % 26=0->k=j:=by decide+kernel
theorem kN {f s:Int} {k j:Nat} (hs:s=1\/s=3\/s=5\/s=7\/s=9\/s=11) (hk:k < 14) (hj:j < 14) (h:WK f s k=WK f s j):k=j:=by
 unfold WK at h
 refine kO s (by simpa using hs) k hk j hj ?_
 generalize s*(k:Int)=x at h ⊢
 generalize s*(j:Int)=y at h ⊢
 omega
def Qs (A:List Nat) (f s:Int) (zs:List Str):Prop:=∀j z,zs[j]?=some z->∃B,z.cps.toList=A++[WK f s j]++B/\B.all jq=true/\A.length+B.length<=7
theorem Qs.snoc {A:List Nat} {f s:Int} {zs:List Str} (h:Qs A f s zs) {z:Str} {B:List Nat} (e:z.cps.toList=A++[WK f s zs.length]++B) (hB:B.all jq=true) (hl:A.length+B.length<=7):Qs A f s (zs++[z]):=by
 intro j y hy
 by_cases hj:j < zs.length
 . rw[List.getElem?_append_left hj]at hy
   exact h j y hy
 . have hj':j=zs.length:=by
     have:=(List.getElem?_eq_some_iff.mp hy).1
     rw[List.length_append,List.length_singleton]at this
     omega
   subst hj'
   rw[List.getElem?_append_right (Nat.le_refl _),Nat.sub_self]at hy
   obtain rfl:=(Option.some.inj hy).symm
   exact⟨B,e,hB,hl⟩
theorem Qs.names {A:List Nat} {f s:Int} {zs:List Str} (h:Qs A f s zs) (hA:A.all jq=true):∀z∈zs,qK z=true:=λz hz=>by
 obtain⟨j,hj⟩:=List.getElem?_of_mem hz
 obtain⟨B,e,hB,hl⟩:=h j z hj
 refine VO e hA ?_ hB hl
 unfold WK
 exact zL (Int.emod_nonneg _ (by decide)) (Int.emod_lt_of_pos _ (by decide))
theorem Qs.nodup {A:List Nat} {f s:Int} {zs:List Str} (h:Qs A f s zs) (hs:s=1\/s=3\/s=5\/s=7\/s=9\/s=11) (hz:zs.length<=14):zs.Nodup:=by
 refine List.pairwise_iff_getElem.mpr λi j hi hj hij e=>?_
 obtain⟨B,b1,_⟩:=h j _ (List.getElem?_eq_getElem hj)
 obtain⟨C,c1,_⟩:=h i _ (List.getElem?_eq_getElem hi)
 rw[e]at c1
 have e2:(A++[WK f s j]++B)[A.length]?=(A++[WK f s i]++C)[A.length]?:=by rw[<-b1,<-c1]
 rw[List.append_assoc,List.append_assoc,List.getElem?_append_right (Nat.le_refl _),List.getElem?_append_right (Nat.le_refl _),Nat.sub_self]at e2
 have e3:WK f s j=WK f s i:=Option.some.inj e2
 exact absurd (kN hs (by omega) (by omega) e3) (by omega)
theorem Xm {A:List Nat} (h:A.all jq=true) (n:Nat):(A.take n).all jq=true:=by
 rw[List.all_eq_true]at h ⊢
 exact λx hx=>h x (List.mem_of_mem_take hx)
theorem y8 {r:Int} (h0:0<=r) (h1:r < 6):∃m:Int,(m=1\/m=3\/m=5\/m=7\/m=9\/m=11)/\Xl [V.int 1,V.int 3,V.int 5,V.int 7,V.int 9,V.int 11] r=some (.int m):=by
 have:r=0\/r=1\/r=2\/r=3\/r=4\/r=5:=by omega
 rcases this with rfl | rfl | rfl | rfl | rfl | rfl
 . exact⟨1,by decide,rfl⟩
 . exact⟨3,by decide,rfl⟩
 . exact⟨5,by decide,rfl⟩
 . exact⟨7,by decide,rfl⟩
 . exact⟨9,by decide,rfl⟩
 . exact⟨11,by decide,rfl⟩
def Ws:Sp:=λvs H Q _=>∃(d:Addr) (m:Nat) (n s t:Int),vs=[.ref d,.int m]/\H d=some (.dK (jf n s t))/\m<=14/\
 ∀(l:Addr) (zs:List Str) (n' t':Int) (H':Hp),H l=none->H' l=some (.lst (zs.map V.str))->zs.length=m->(∀z∈zs,qK z=true)->zs.Nodup->H' d=some (.dK (jf n' s t'))->Fr H d H'->Q (.ref l) H'
theorem YN:∀zs:List Str,(zs.map λ_=>1).sum=zs.length
 | []=>rfl
 | z::zs=>by rw[List.map_cons,List.sum_cons,YN zs,List.length_cons];omega
section
variable {P:Program} {w:World} {K:PySem.W.Frag} {mg:Str->Option Value} {base:Heap}
abbrev xD:List Str:=["_law_source_here","_law_many","_law_letters","_law_word","_law_ahead","_law_first","_law_step","_law_names_here","_law_k","_law_behind"]
theorem Qf:qz xD ["_law_source_here","_law_many"] (qi Z4):=⟨rfl,rfl,rfl,by decide+kernel,rfl,by decide+kernel,by decide+kernel⟩
theorem UV {f fT:Addr} {fd fdT:FuncData} (F:jU K "_law_names" "_law_names" Z4 f fd) (B:Jj mg) (hT:jo K mg "_law_take" JP ["_law_source_here","_law_many"] fT fdT):qo P w K mg base qZ 2 f fd ["_law_source_here","_law_many"] Ws:=by
 have GT:qo P w K mg base qZ 1 fT fdT ["_law_source_here","_law_many"] Q7:=Jk hT.fn
 refine F.okJ Qf (λvs H Q E h=>?_) (λcdv A outer s H vs Q E hr h=>?_)
 . obtain⟨d,m,n,sd,t,rfl,_⟩:=h
   rfl
 . obtain⟨d,m,n,sd,t,rfl,hd,hm,q⟩:=h
   refine⟨_,qg (qA (i:=2) Qf.nd rfl (Or.inr rfl) qQ)
     (qg (qA (i:=3) Qf.nd rfl (Or.inl rfl) (Y8 PySem.F.plainAttrs_str PySem.F.slot_str_join PySem.F.type_str_join kQ qQ (qb
       (ZA (N':=["_law_k","_law_letters","_law_source_here"]) (ix:=[none,some 2,some 0]) rfl ⟨rfl,rfl,rfl,rfl,rfl⟩
         (jB (by rfl) B.rng (qb qj qe))
         (λC s2 H2 fp pins=>⟨qF (i:=0) (show (["_law_k","_law_letters","_law_source_here"]:List Str).Nodup by decide+kernel) rfl (Or.inl rfl),j4,
           jg vi (jv 1) (qX hT GT hr (by rfl) (qb (jv 2) (qb qj qe))) (λ_ _=>rfl)⟩)) qe)))
     (qg (qA (i:=4) Qf.nd rfl (Or.inl rfl) (QG Uo (jv 3) J5 (QP (qI QM (qX hT GT hr (by rfl) (qb (jv 0) (qb qj qe))) (qX hT GT hr (by rfl) (qb (jv 0) (qb qj qe)))))))
     (qg (qA (i:=5) Qf.nd rfl (Or.inl rfl) (qX hT GT hr (by rfl) (qb (jv 0) (qb qj qe))))
     (qg (qA (i:=6) Qf.nd rfl (Or.inl rfl) (jg jl (jk (qb qj (qb qj (qb qj (qb qj (qb qj (qb qj qe))))))) (qX hT GT hr (by rfl) (qb (jv 0) (qb qj qe))) (λ_ _=>rfl)))
     (qg (qA (i:=7) Qf.nd rfl (Or.inl rfl) (jk qe))
     (qg (jJ PassesOwn.never rfl (jB (by rfl) B.rng (qb (jv 1) qe)) (qF (i:=8) Qf.nd rfl (Or.inl rfl))
       (qg (qA (i:=9) Qf.nd rfl (Or.inl rfl) (QG Uo (jv 3) J5 (QP (qX hT GT hr (by rfl) (qb (jv 0) (qb (qI xn qj (qp QW (by rfl) B.len boot_len (qb (jv 4) qe))) qe))))))
       (qk (qJ (Y8 PySem.F.plainAttrs_list PySem.F.slot_list_append PySem.F.type_list_append Jl (jv 7) (qb
         (qI Jz (qI Jz (jv 4) (jg vi (jv 2) (qI Ql (qI Qd (jv 5) (qI QM (jv 6) (jv 8))) qj) (λ_ _=>rfl))) (jv 9)) qe))))))
     (qk (qM (jv 7))))))))),?_⟩
   refine⟨rfl,7,rfl,by decide,by decide,λD hD=>?_⟩
   have nDd:D≠d:=λe=>by rw[e,hd]at hD;cases hD
   refine Zu (λi σ' H'=>∃(v:Option V) (n' t':Int) (ws:List Nat),σ'=[v,some (.str W6),some (.ref d)]/\H' d=some (.dK (jf n' sd t'))/\H' D=some (.lst ((ws.map λk=>(⟨#[k]⟩:Str)).map V.str))/\ws.length=i/\ws.all jq=true/\Fr H d H')
     ⟨none,n,t,[],rfl,qr hd hD,qd,rfl,rfl,Fr.refl.new hD⟩ ?_ ?_
   . rintro i σ' H' hi ⟨v,n',t',ws,rfl,hd',hD',hl,ha,fr⟩
     refine⟨_,rfl,_,rfl,d,26,n',sd,t',rfl,hd',by decide,by decide,λr n3 t3 r0 r1=>?_⟩
     refine⟨W6,r,_,rfl,rfl,W5,vI r0 r1,_,(by rw[qf nDd];exact hD'),?_,?_⟩
     . rw[List.length_map,List.length_map,hl]
       exact qw (by omega)
     . refine⟨_,n3,t3,ws++[97+r.toNat],rfl,?_,?_,?_,?_,?_⟩
       . rw[qf (Ne.symm nDd)];exact qd
       . rw[List.map_append,List.map_append];exact qd
       . rw[List.length_append,hl];rfl
       . rw[List.all_append,ha]
         simp [zL r0 r1]
       . exact(fr.at_d).own hD
   rintro σ' H1 ⟨v,n1,t1,ws,rfl,hd1,hD1,hl1,ha1,fr1⟩
   have hl1:ws.length=7:=hl1
   refine⟨Str.ofString "",D,_,rfl,rfl,.of hD1,?_,?_⟩
   . have e1:((ws.map λk=>(⟨#[k]⟩:Str)).map (·.length))=(ws.map λk=>(⟨#[k]⟩:Str)).map λ_=>1:=by
       refine List.map_congr_left λz hz=>?_
       obtain⟨c,_,rfl⟩:=List.mem_map.mp hz
       rfl
     have e2:(Str.ofString "").length=0:=by decide+kernel
     rw[e1,e2,YN,List.length_map,hl1]
     decide
   generalize hw:Txt.join (Str.ofString "") (ws.map λk=>(⟨#[k]⟩:Str))=wd
   have hW:wd.cps.toList=ws:=by rw[<-hw];exact xQ ws
   have hWl:wd.length=7:=by
     show wd.cps.size=7
     rw[<-Array.length_toList,hW,hl1]
   refine⟨_,rfl,_,rfl,d,2,n1,sd,t1,rfl,hd1,by decide,by decide,λr2 n2 t2 r20 r21=>?_⟩
   refine⟨_,rfl,d,5,n2,sd,t2,rfl,qd,by decide,by decide,λr3 n3 t3 r30 r31=>?_⟩
   rw[jz]
   have e4:∃j:Nat,r2*r3=(j:Int)/\j<=4:=by
     have h2:r2=0\/r2=1:=by omega
     rcases h2 with rfl | rfl
     . exact⟨0,by omega,by omega⟩
     . exact⟨r3.toNat,by omega,by omega⟩
   obtain⟨j,ej,hj⟩:=e4
   refine⟨_,_,rfl,rfl,.inl ⟨by omega,by omega⟩,_,rfl,wd,r2*r3,rfl,rfl,rfl,by omega,?_⟩
   rw[ej]
   generalize ha:Txt.slice wd none (some (j:Int))=ah
   have hA:ah.cps.toList=ws.take j:=by rw[<-ha,Z1,hW]
   have hAl:ah.length=j:=by
     show ah.cps.size=j
     rw[<-Array.length_toList,hA,List.length_take,hl1]
     omega
   refine⟨_,rfl,d,26,n3,sd,t3,rfl,qd,by decide,by decide,λf n4 t4 f0 f1=>?_⟩
   rw[jz]
   refine⟨by show 6<=sizeLine;decide,λp hp=>?_⟩
   have npd:p≠d:=λe=>by rw[e,qd]at hp;cases hp
   refine⟨_,rfl,d,6,n4,sd,t4,rfl,(by rw[qf (Ne.symm npd)];exact qd),by decide,by decide,λr5 n5 t5 r50 r51=>?_⟩
   obtain⟨st,hst,hsa⟩:=y8 r50 r51
   refine⟨p,_,r5,.int st,rfl,rfl,.of (by rw[qf npd];exact qd),hsa,?_⟩
   have fr5:Fr H d (upd (upd (upd H1 d (.dK (jf n4 sd t4))) p (.lst [V.int 1,V.int 3,V.int 5,V.int 7,V.int 9,V.int 11])) d (.dK (jf n5 sd t5))):=(fr1.at_d.new hp).at_d
   generalize hH5:upd (upd (upd H1 d (.dK (jf n4 sd t4))) p (.lst [V.int 1,V.int 3,V.int 5,V.int 7,V.int 9,V.int 11])) d (.dK (jf n5 sd t5))=H5 at fr5
   have hd5:H5 d=some (.dK (jf n5 sd t5)):=by rw[<-hH5];exact qd
   refine⟨by show 0<=sizeLine;decide,λl hl=>⟨_,rfl,m,rfl,by omega,by omega,?_⟩⟩
   have hHl:H l=none:=fr5.fresh hd5 hl
   have nld:l≠d:=λe=>by rw[e,hd5]at hl;cases hl
   refine Qi (lo:=0) (n:=m) (λi σ' H'=>∃(v1 v2:Option V) (n' t':Int) (zs:List Str),σ'=[some (.ref d),some (.int m),some (.str W6),some (.str wd),some (.str ah),some (.int f),some (.int st),some (.ref l),v1,v2]/\
     H' d=some (.dK (jf n' sd t'))/\H' l=some (.lst (zs.map V.str))/\zs.length=i/\Qs (ws.take j) f st zs/\Fr H d H')
     ⟨none,none,n5,t5,[],rfl,qr hd5 hl,qd,rfl,λj z hz=>(nomatch hz),fr5.new hl⟩ ?_ ?_
   . rintro i σ' H' hi ⟨v1,v2,n',t',zs,rfl,hd',hl',hz,hN,fr⟩
     rw[Int.zero_add]
     refine⟨_,rfl,_,rfl,_,rfl,ah,rfl,(by rw[hAl];exact Nat.le_of_lt (qw (by omega))),_,_,rfl,rfl,d,8 - (ah.length:Int),n',sd,t',rfl,hd',by omega,by omega,λr n6 t6 r0 r1=>?_⟩
     have er:r=((r.toNat:Nat):Int):=by omega
     refine⟨_,rfl,wd,r,rfl,rfl,rfl,by omega,?_⟩
     generalize hb:Txt.slice wd none (some r)=bh
     have hB:bh.cps.toList=ws.take r.toNat:=by rw[<-hb,er,Z1,hW];rfl
     have hBl:bh.length<=r.toNat:=by
       show bh.cps.size<=r.toNat
       rw[<-Array.length_toList,hB,List.length_take]
       omega
     refine⟨_,rfl,.inl ⟨rfl,_,.of (by rw[qf nld];exact hl')⟩,_,rfl,_,rfl,_,rfl,_,rfl,_,rfl,_,_,rfl,rfl,.inl ⟨by omega,by omega⟩,_,_,rfl,rfl,_,_,rfl,rfl,(by show (0:Int) < 26;decide),?_⟩
     refine⟨W6,_,_,rfl,rfl,W5,vI (Int.emod_nonneg _ (by decide)) (Int.emod_lt_of_pos _ (by decide)),?_⟩
     have e26:97+((f+st*(i:Int)) % 26).toNat=WK f st i:=rfl
     rw[e26]
     have l1:(ah++(⟨#[WK f st i]⟩:Str)).length=j+1:=by
       show (ah++(⟨#[WK f st i]⟩:Str)).cps.size=_
       rw[Str.cps_append,Array.size_append]
       show ah.length+1=_
       rw[hAl]
     refine⟨_,_,rfl,rfl,Nat.le_of_lt (qw (by show ah.length+1<=1000;omega)),_,rfl,_,_,rfl,rfl,Nat.le_of_lt (qw (by rw[l1];omega)),?_⟩
     refine⟨l,_,_,rfl,rfl,(by rw[qf nld];exact hl'),(by rw[List.length_map,hz];exact qw (by omega)),?_⟩
     refine⟨_,_,n6,t6,zs++[ah++(⟨#[WK f st i]⟩:Str)++bh],rfl,?_,?_,?_,?_,?_⟩
     . rw[qf (Ne.symm nld)];exact qd
     . rw[List.map_append];exact qd
     . rw[List.length_append,hz];rfl
     . refine hN.snoc (B:=ws.take r.toNat) ?_ (Xm ha1 _) ?_
       . rw[Str.cps_append,Str.cps_append,Array.toList_append,Array.toList_append,hA,hB,hz]
       . rw[List.length_take,List.length_take]
         omega
     . exact fr.at_d.own hHl
   . rintro σ' H' ⟨v1,v2,n',t',zs,rfl,hd',hl',hz,hN,fr⟩
     exact⟨_,rfl,q l zs n' t' H' hHl hl' hz (hN.names (Xm ha1 _)) (hN.nodup hst (by omega)) hd' fr⟩
end
end Rh
set_option Elab.async false
set_option linter.all false
set_option maxRecDepth 100000
set_option maxHeartbeats 4000000
namespace Rh
open PySem L2 PyProof.Rows
def We (t:TT) (σ:L2.St) (H:Hp):Prop:=∀Q:Bool->Hp->Prop,(∀b,Q b H)->t σ H Q
theorem We.and {t u:TT} {σ:L2.St} {H:Hp} (h:We t σ H) (k:We u σ H):We (yW t u) σ H:=λQ q=>h _ λb=>by
 cases b
 . exact jT (q false)
 . exact Qq (k _ q)
theorem We.or {t u:TT} {σ:L2.St} {H:Hp} (h:We t σ H) (k:We u σ H):We (tOr t u) σ H:=λQ q=>h _ λb=>by
 cases b
 . exact jT (k _ q)
 . exact Qq (q true)
theorem vo {tc:TT} {tp:TS} {D:Qx} {σ:L2.St} {H0:Hp} (G:Hp->Prop) (h:G H0) (ht:We tc σ H0) (hp:∀D:Qx,(∀H',G H'->D.nx σ H')->tp D σ H0) (k:∀H',G H'->D.nx σ H'):vW tc tp Wn D σ H0:=
 ht _ λb=>by
   cases b
   . exact jT (k _ h)
   . exact Qq (hp D k)
theorem ZS {tc:TT} {tp u:TS} {D:Qx} {σ:L2.St} {H0:Hp} (G:Hp->Prop) (h:G H0) (ht:We tc σ H0) (hp:∀D:Qx,(∀H',G H'->D.nx σ H')->tp D σ H0) (k:∀H',G H'->u D σ H'):Vc (vW tc tp Wn) u D σ H0:=vo G h ht hp k
theorem zj {i:Nat} {v:V} {σ:L2.St} {H:Hp} {Q:L2.St->Hp->Prop} (h:Q (σ.set i (some v)) H):QI i v σ H Q:=h
abbrev up (k:Nat×Nat):Int×Int:=((k.1:Int),(k.2:Int))
def yM (a b:Nat×Nat):Prop:=a.1 < b.1\/(a.1=b.1/\a.2 < b.2)
abbrev Zp (ks:List (Nat×Nat)):List (List qP):=ks.map λk=>Zx (up k)
theorem Vs {a b:Nat×Nat} (h:Zx (up a)=Zx (up b)):a=b:=by
 unfold Zx at h
 simp only[List.cons.injEq,Sum.inl.injEq,and_true]at h
 exact Prod.ext (by have:=h.1;omega) (by have:=h.2;omega)
structure Q2 (m i j:Nat) (ks:List (Nat×Nat)):Prop where
 ord:ks.Pairwise yM
 lt:∀x∈ks,x.2 < m/\(x.1 < i\/(x.1=i/\x.2 < j))
 len:ks.length<=i*m+j
theorem Q2.more {m i j:Nat} {ks:List (Nat×Nat)} (h:Q2 m i j ks):Q2 m i (j+1) ks:=⟨h.ord,λx hx=>by have:=h.lt x hx;omega,by have:=h.len;omega⟩
theorem Q2.snoc {m i j:Nat} {ks:List (Nat×Nat)} (h:Q2 m i j ks) (hj:j < m):Q2 m i (j+1) (ks++[(i,j)]):=by
 refine⟨List.pairwise_append.mpr ⟨h.ord,List.pairwise_singleton _ _,λa ha b hb=>?_⟩,λx hx=>?_,?_⟩
 . rw[List.mem_singleton.mp hb]
   have:=h.lt a ha
   unfold yM
   omega
 . rcases List.mem_append.mp hx with hx | hx
   . have:=h.lt x hx
     omega
   . rw[List.mem_singleton.mp hx]
     exact⟨hj,.inr ⟨rfl,Nat.lt_succ_self _⟩⟩
 . rw[List.length_append]
   have:=h.len
   show ks.length+1<=_
   omega
theorem Q2.row {m i:Nat} {ks:List (Nat×Nat)} (h:Q2 m i m ks):Q2 m (i+1) 0 ks:=⟨h.ord,λx hx=>by have:=h.lt x hx;omega,by have:=h.len;rw[Nat.succ_mul];omega⟩
def wt (m i j:Nat) (kvs:List (List qP×V)):Prop:=∃ks,Q2 m i j ks/\(kvs.map (·.1)=Zp ks\/kvs.map (·.1)=Zp (ks++[(i,j)]))
theorem W4 (kvs:List (List qP×V)) (k:List qP):((kvs.any λkv=>decide (kv.1=k))=true)↔k∈kvs.map (·.1):=by
 rw[List.any_eq_true,List.mem_map]
 simp
theorem kS {kvs:List (List qP×V)} {k:List qP} (v:V) (h:k∈kvs.map (·.1)):(jE kvs k v).map (·.1)=kvs.map (·.1):=by
 unfold jE
 rw[if_pos ((W4 kvs k).mpr h),List.map_map]
 refine List.map_congr_left λx _=>?_
 show (if x.1=k then (x.1,v) else x).1=x.1
 split<;>rfl
theorem U7 {kvs:List (List qP×V)} {k:List qP} (v:V) (h:¬k∈kvs.map (·.1)):(jE kvs k v).map (·.1)=kvs.map (·.1)++[k]:=by
 unfold jE
 rw[if_neg (λz=>h ((W4 kvs k).mp z)),List.map_append]
 rfl
theorem wt.put {m i j:Nat} {kvs:List (List qP×V)} (h:wt m i j kvs) (v:V):wt m i j (jE kvs (Zx (up (i,j))) v):=by
 obtain⟨ks,ha,h⟩:=h
 refine⟨ks,ha,.inr ?_⟩
 rcases h with h | h
 . rw[U7,h,Zp,Zp,List.map_append]
   . rfl
   . rw[h]
     intro z
     obtain⟨x,hx,e⟩:=List.mem_map.mp z
     have e':=Vs e
     have:=ha.lt x hx
     rw[e']at this
     omega
 . rw[kS,h]
   rw[h]
   exact List.mem_map.mpr ⟨(i,j),by simp,rfl⟩
theorem wt.len {m i j:Nat} {kvs:List (List qP×V)} (h:wt m i j kvs):kvs.length<=i*m+j+1:=by
 obtain⟨ks,ha,h⟩:=h
 have hl:=ha.len
 rcases h with h | h
 . have:=congrArg List.length h
   simp only[List.length_map]at this
   omega
 . have:=congrArg List.length h
   simp only[List.length_map,List.length_append,List.length_singleton]at this
   omega
theorem yx {i m:Nat} (hi:i<=m) (hm:m<=14):i*m<=196:=Nat.le_trans (Nat.mul_le_mul (Nat.le_trans hi hm) hm) (by decide)
theorem uP (xs:List V):cutV xs none (some 40)=xs.take 40:=by
 unfold cutV
 have e1:HT.sIx xs.length 0 none=0:=rfl
 have e2:HT.sIx xs.length xs.length (some 40)=min 40 xs.length:=by
   simp [HT.sIx]
 rw[e1,e2,List.drop_zero,Nat.sub_zero]
 by_cases h:40<=xs.length
 . rw[Nat.min_eq_left h]
 . rw[Nat.min_eq_right (by omega),List.take_of_length_le (Nat.le_refl _),List.take_of_length_le (by omega)]
def Jn (H:Hp) (ps:List Addr) (ks:List (Nat×Nat)):Prop:=ps.length=ks.length/\∀(i:Nat) (p:Addr) (k:Nat×Nat),ps[i]?=some p->ks[i]?=some k->H p=some (.tup [.int (k.1:Nat),.int (k.2:Nat)])
def Wt:Sp:=λvs H Q _=>∃(d:Addr) (m:Nat) (n s t sh lo:Int),vs=[.ref d,.int m,.int sh,.int lo]/\H d=some (.dK (jf n s t))/\m<=14/\
 ∀(l:Addr) (ps:List Addr) (ks:List (Nat×Nat)) (n' t':Int) (H':Hp),H l=none->H' l=some (.lst (ps.map V.ref))->Jn H' ps ks->ks.Pairwise yM->(∀x∈ks,x.1 < m/\x.2 < m)->ks.length<=40->H' d=some (.dK (jf n' s t'))->Fr H d H'->Q (.ref l) H'
section
variable {P:Program} {w:World} {K:PySem.W.Frag} {mg:Str->Option Value} {base:Heap}
abbrev xE:List Str:=["_law_source_here","_law_many","_law_shape","_law_low","_law_pairs","_law_k","_law_j","_law_way"]
abbrev za:List Str:=["_law_source_here","_law_many","_law_shape","_law_low"]
theorem JN:qz xE za (qi Z5):=⟨rfl,rfl,rfl,by decide+kernel,rfl,by decide+kernel,by decide+kernel⟩
theorem UX {f fT:Addr} {fd fdT:FuncData} (F:jU K "_law_leads" "_law_leads" Z5 f fd) (B:Jj mg) (hso:mg "sorted"=none) (hT:jo K mg "_law_take" JP ["_law_source_here","_law_many"] fT fdT):qo P w K mg base qZ 2 f fd za Wt:=by
 have GT:qo P w K mg base qZ 1 fT fdT ["_law_source_here","_law_many"] Q7:=Jk hT.fn
 refine F.okJ JN (λvs H Q E h=>?_) (λcdv A outer s H vs Q E hr h=>?_)
 . obtain⟨d,m,n,sd,t,sh,lo,rfl,_⟩:=h
   rfl
 . obtain⟨d,m,n,sd,t,sh,lo,rfl,hd,hm,q⟩:=h
   have hu:=zP hr
   refine⟨_,qg (qA (i:=4) JN.nd rfl (Or.inl rfl) vf)
     (qg (jJ PassesOwn.never rfl (jB (by rfl) B.rng (qb (jv 1) qe)) (qF (i:=5) JN.nd rfl (Or.inl rfl))
       (qk (jJ PassesOwn.never rfl (jB (by rfl) B.rng (qb (jv 1) qe)) (qF (i:=6) JN.nd rfl (Or.inl rfl))
         (qg (qA (i:=7) JN.nd rfl (Or.inl rfl) (qX hT GT hr (by rfl) (qb (jv 0) (qb qj qe))))
         (qg (qL (jO (qt jD (jv 2) qj (qy _)) (jA (Q0 (jO (qt j8 (jv 6) (jv 5) (qy _)) (jA (qt j8 (jv 7) qj (qy _)))).pt (Qm (jO (qt UP (jv 6) (jv 5) (qy _)) (jA (qt j8 (jv 7) qj (qy _)))).pt)).pt)).pt
           (qk (j5 hu (jv 4) (j0 (qb (jv 5) (qb (jv 6) qe))) jW rfl)) qC)
         (qg (qL (jO (qt jD (jv 2) qj (qy _)) (jA (qt j8 (jv 7) qj (qy _)))).pt
           (qk (j5 hu (jv 4) (j0 (qb (jv 5) (qb (jv 6) qe))) jW rfl)) qC)
         (qg (qL (jO (qt jD (jv 2) qj (qy _)) (jA (Q0 (jO (qt jD (jv 6) (qI Ql (qI Qd (jv 5) qj) (jv 1)) (qy _)) (jA (qt j8 (jv 7) qj (qy _)))).pt (Qm (qt j8 (jv 7) qj (qy _)))).pt)).pt
           (qk (j5 hu (jv 4) (j0 (qb (jv 5) (qb (jv 6) qe))) jW rfl)) qC)
         (qg (qL (jO (qt jD (jv 2) qj (qy _)) (jO (qt j8 (jv 6) (jv 5) (qy _)) (jA (Q0 (qt j8 (jv 6) (jv 3) (qy _)) (Qm (qt j8 (jv 7) qj (qy _)))).pt))).pt
           (qk (j5 hu (jv 4) (j0 (qb (jv 5) (qb (jv 6) qe))) jW rfl)) qC)
         (qk (qL (jO (qt jD (jv 2) qj (qy _)) (jA (Q0 (jO (qt j8 (jv 6) (jv 3) (qy _)) (jA (qt j8 (jv 6) (jv 5) (qy _)))).pt (Qm (jO (qt UP (jv 5) (jv 3) (qy _)) (jA (qt j8 (jv 7) qj (qy _)))).pt)).pt)).pt
           (qk (j5 hu (jv 4) (j0 (qb (jv 5) (qb (jv 6) qe))) jW rfl)) qC)))))))))
       )
     (qk (qM (QG Yd (qp (Wc rfl) (by rfl) hso boot_sorted (qb (jv 4) qe)) J5 (QP qj))))),?_⟩
   intro D hD
   have nDd:D≠d:=λe=>by rw[e,hd]at hD;cases hD
   refine⟨_,rfl,m,rfl,by omega,by omega,?_⟩
   refine Qi (lo:=0) (n:=m) (λi σ' H'=>∃(v1 v2 v3:Option V) (n' t':Int) (kvs:List (List qP×V)) (ks:List (Nat×Nat)),σ'=[some (.ref d),some (.int m),some (.int sh),some (.int lo),some (.ref D),v1,v2,v3]/\
     H' d=some (.dK (jf n' sd t'))/\H' D=some (.dT kvs)/\kvs.map (·.1)=Zp ks/\Q2 m i 0 ks/\Fr H d H')
     ⟨none,none,none,n,t,[],[],rfl,qr hd hD,qd,rfl,⟨.nil,λx hx=>(nomatch hx),Nat.zero_le _⟩,Fr.refl.new hD⟩ ?_ ?_
   . rintro i σ' H' hi ⟨v1,v2,v3,n',t',kvs,ks,rfl,hd',hD',ek,ha,fr⟩
     rw[Int.zero_add]
     refine⟨_,rfl,m,rfl,by omega,by omega,?_⟩
     refine Qi (lo:=0) (n:=m) (λj σ' H'=>∃(v2 v3:Option V) (n' t':Int) (kvs:List (List qP×V)) (ks:List (Nat×Nat)),σ'=[some (.ref d),some (.int m),some (.int sh),some (.int lo),some (.ref D),some (.int i),v2,v3]/\
       H' d=some (.dK (jf n' sd t'))/\H' D=some (.dT kvs)/\kvs.map (·.1)=Zp ks/\Q2 m i j ks/\Fr H d H')
       ⟨_,_,n',t',kvs,ks,rfl,hd',hD',ek,ha,fr⟩ ?_ ?_
     . rintro j σ' H2 hj ⟨v2,v3,n2,t2,kvs,ks,rfl,hd2,hD2,ek,ha,fr⟩
       rw[Int.zero_add]
       refine⟨_,rfl,d,12,n2,sd,t2,rfl,hd2,by decide,by decide,λr n3 t3 r0 r1=>?_⟩
       have hsq:=yx (Nat.le_of_lt hi) hm
       let G:Hp->Prop:=λH'=>∃(kvs:List (List qP×V)),H' d=some (.dK (jf n3 sd t3))/\H' D=some (.dT kvs)/\wt m i j kvs/\Fr H d H'
       have g0:G (upd H2 d (.dK (jf n3 sd t3))):=⟨kvs,qd,(by rw[qf nDd];exact hD2),⟨ks,ha,.inl ek⟩,fr.at_d⟩
       have put:∀H',G H'->∀E:Qx,(∀H',G H'->E.nx [some (.ref d),some (.int m),some (.int sh),some (.int lo),some (.ref D),some (.int i),some (.int j),some (.int r)] H')->
           yH (jt 4) (vU (jc (jt 5) (jc (jt 6) QB))) (tC (.bl true)) E [some (.ref d),some (.int m),some (.int sh),some (.int lo),some (.ref D),some (.int i),some (.int j),some (.int r)] H':=by
         rintro H' ⟨kvs,h1,h2,h3,h4⟩ E k
         refine⟨_,rfl,_,rfl,_,rfl,by show 2<=sizeLine;decide,λp hp=>?_⟩
         have npd:p≠d:=λe=>by rw[e,h1]at hp;cases hp
         have npD:p≠D:=λe=>by rw[e,h2]at hp;cases hp
         refine⟨D,_,rfl,Zb.t (k:=Zx (up (i,j))) (kvs:=kvs) (by rw[qf (Ne.symm npD)];exact h2) qd (qw (by have:=h3.len;omega)),?_⟩
         refine k _ ⟨_,?_,qd,h3.put _,?_⟩
         . rw[qf (Ne.symm nDd),qf (Ne.symm npd)]
           exact h1
         . exact(h4.new hp).own hD
       refine zj ?_
       dsimp only[List.set]
       refine ZS G g0 ?_ (put _ g0) λH3 g3=>?_
       . exact We.and (λQ q=>⟨_,rfl,rfl,_,rfl,q _⟩) (.or (.and (λQ q=>⟨_,rfl,_,rfl,_,_,rfl,rfl,_,rfl,q _⟩) (λQ q=>⟨_,rfl,_,_,rfl,rfl,_,rfl,q _⟩)) (.and (λQ q=>⟨_,rfl,_,rfl,_,_,rfl,rfl,_,rfl,q _⟩) (λQ q=>⟨_,rfl,_,_,rfl,rfl,_,rfl,q _⟩)))
       refine ZS G g3 ?_ (put _ g3) λH4 g4=>?_
       . exact We.and (λQ q=>⟨_,rfl,rfl,_,rfl,q _⟩) (λQ q=>⟨_,rfl,_,_,rfl,rfl,_,rfl,q _⟩)
       refine ZS G g4 ?_ (put _ g4) λH5 g5=>?_
       . exact We.and (λQ q=>⟨_,rfl,rfl,_,rfl,q _⟩) (.or (.and (λQ q=>⟨_,rfl,_,rfl,_,_,rfl,rfl,_,rfl,_,_,rfl,rfl,(by show (0:Int) < m;omega),rfl,_,rfl,q _⟩) (λQ q=>⟨_,rfl,_,_,rfl,rfl,_,rfl,q _⟩)) (λQ q=>⟨_,rfl,_,_,rfl,rfl,_,rfl,q _⟩))
       refine ZS G g5 ?_ (put _ g5) λH6 g6=>?_
       . exact We.and (λQ q=>⟨_,rfl,rfl,_,rfl,q _⟩) (.and (λQ q=>⟨_,rfl,_,rfl,_,_,rfl,rfl,_,rfl,q _⟩) (.or (λQ q=>⟨_,rfl,_,rfl,_,_,rfl,rfl,_,rfl,q _⟩) (λQ q=>⟨_,rfl,_,_,rfl,rfl,_,rfl,q _⟩)))
       refine vo G g6 ?_ (put _ g6) λH7 g7=>?_
       . exact We.and (λQ q=>⟨_,rfl,rfl,_,rfl,q _⟩) (.or (.and (λQ q=>⟨_,rfl,_,rfl,_,_,rfl,rfl,_,rfl,q _⟩) (λQ q=>⟨_,rfl,_,rfl,_,_,rfl,rfl,_,rfl,q _⟩)) (.and (λQ q=>⟨_,rfl,_,rfl,_,_,rfl,rfl,_,rfl,q _⟩) (λQ q=>⟨_,rfl,_,_,rfl,rfl,_,rfl,q _⟩)))
       obtain⟨kvs,h1,h2,⟨ks,ha,h3⟩,h4⟩:=g7
       rcases h3 with h3 | h3
       . exact⟨_,_,n3,t3,kvs,ks,rfl,h1,h2,h3,ha.more,h4⟩
       . exact⟨_,_,n3,t3,kvs,_,rfl,h1,h2,h3,ha.snoc hj,h4⟩
     . rintro σ' H2 ⟨v2,v3,n2,t2,kvs,ks,rfl,hd2,hD2,ek,ha,fr⟩
       exact⟨_,_,_,n2,t2,kvs,ks,rfl,hd2,hD2,ek,ha.row,fr⟩
   . rintro σ' H1 ⟨v1,v2,v3,n1,t1,kvs,ks,rfl,hd1,hD1,ek,ha,fr⟩
     have hl:kvs.length=ks.length:=by simpa using congrArg List.length ek
     have hsq:=yx (Nat.le_refl m) hm
     have hal:=ha.len
     refine⟨_,rfl,D,kvs,ks.map up,rfl,hD1,?_,?_,by omega,λl ps hfl lps tup=>?_⟩
     . rw[ek,List.map_map]
       rfl
     . intro i k k' e1 e2
       rw[List.getElem?_map]at e1 e2
       cases e3:ks[i]? with
       | none=>rw[e3]at e1;cases e1
       | some a=>
         cases e4:ks[i+1]? with
         | none=>rw[e4]at e2;cases e2
         | some b=>
           rw[e3]at e1
           rw[e4]at e2
           obtain rfl:=(Option.some.inj e1).symm
           obtain rfl:=(Option.some.inj e2).symm
           have h5:=List.pairwise_iff_getElem.mp ha.ord i (i+1) (List.getElem?_eq_some_iff.mp e3).1 (List.getElem?_eq_some_iff.mp e4).1 (Nat.lt_succ_self _)
           rw[(List.getElem?_eq_some_iff.mp e3).2,(List.getElem?_eq_some_iff.mp e4).2]at h5
           unfold yM at h5
           show zd _ _
           unfold zd
           show (a.1:Int) < b.1\/((a.1:Int)=b.1/\(a.2:Int) < b.2)
           omega
     . refine⟨40,rfl,l,_,rfl,.of qd,λl2 hl2=>?_⟩
       rw[uP,<-List.map_take]
       have n2d:l2≠d:=λe=>by
         rw[e,qr hd1 hfl]at hl2
         cases hl2
       have hl1:H1 l2=none:=by
         by_cases e:l2=l
         . rw[e];exact hfl
         . rw[qf e]at hl2;exact hl2
       have fr2:=(fr.new (o:=.lst (ps.map V.ref)) hfl).new (o:=.lst ((ps.take 40).map V.ref)) hl2
       refine q l2 (ps.take 40) (ks.take 40) n1 t1 _ (fr.fresh hd1 hl1) qd ⟨?_,λi p k e1 e2=>?_⟩ ?_ ?_ ?_ ?_ fr2
       . rw[List.length_take,List.length_take,lps,List.length_map]
       . have i40:i < 40:=by
           have:=(List.getElem?_eq_some_iff.mp e1).1
           rw[List.length_take]at this
           omega
         rw[List.getElem?_take_of_lt i40]at e1 e2
         have h1:=tup i p (up k) e1 (by rw[List.getElem?_map,e2];rfl)
         exact qr (qr h1 hfl) hl2
       . exact ha.ord.sublist (List.take_sublist _ _)
       . intro x hx
         have:=ha.lt x (List.mem_of_mem_take hx)
         omega
       . rw[List.length_take]
         omega
       . exact qr (qr hd1 hfl) hl2
end
end Rh
set_option Elab.async false
set_option linter.all false
set_option maxRecDepth 100000
set_option maxHeartbeats 4000000
namespace Rh
open PySem L2 PyProof.Rows
structure qH (rs:List (Str×List Str)):Prop where
 nm:∀r∈rs,qK r.1=true
 nd:(rs.map (·.1)).Nodup
 to:∀r∈rs,∀z∈r.2,z∈rs.map (·.1)
 rd:∀r∈rs,r.2.Nodup
 few:(rs.map λr=>r.2.length).sum<=40
def zt (zs:List Str) (j:Nat):Str:=zs.getD j ⟨#[]⟩
theorem z9 {zs:List Str} {j:Nat} (h:j < zs.length):zt zs j∈zs:=by
 unfold zt
 rw[List.getD_eq_getElem?_getD,List.getElem?_eq_getElem h]
 exact List.getElem_mem h
theorem ZI {zs:List Str} {j:Nat} (h:j < zs.length):zs[j]?=some (zt zs j):=by
 unfold zt
 rw[List.getD_eq_getElem?_getD,List.getElem?_eq_getElem h]
 rfl
theorem Wi {zs:List Str} (hn:zs.Nodup) {i j:Nat} (hi:i < zs.length) (hj:j < zs.length) (h:zt zs i=zt zs j):i=j:=by
 have h1:=ZI hi
 have h2:=ZI hj
 rw[h,<-h2,List.getElem?_eq_getElem hi,List.getElem?_eq_getElem hj]at h1
 have e:zs[i]=zs[j]:=Option.some.inj h1
 rcases Nat.lt_trichotomy i j with l | l | l
 . exact absurd e (List.pairwise_iff_getElem.mp hn i j hi hj l)
 . exact l
 . exact absurd e.symm (List.pairwise_iff_getElem.mp hn j i hj hi l)
theorem Zm {α β:Type} {f:α->β}:∀{l:List α},l.Nodup->(∀a∈l,∀b∈l,f a=f b->a=b)->(l.map f).Nodup
 | [],_,_=>List.nodup_nil
 | a::l,h,k=>by
   rw[List.map_cons,List.nodup_cons]
   rw[List.nodup_cons]at h
   refine⟨λz=>?_,Zm h.2 λx hx y hy=>k x (List.mem_cons_of_mem _ hx) y (List.mem_cons_of_mem _ hy)⟩
   obtain⟨b,hb,e⟩:=List.mem_map.mp z
   have:=k b (List.mem_cons_of_mem _ hb) a (List.mem_cons_self) e
   subst this
   exact h.1 hb
def zB (ks:List (Nat×Nat)) (k:Nat):List Nat:=(ks.filter λx=>decide (x.1=k)).map (·.2)
theorem Vb {ks:List (Nat×Nat)} (h:ks.Pairwise yM) (k:Nat):(zB ks k).Nodup:=by
 have h1:(ks.filter λx=>decide (x.1=k)).Pairwise yM:=h.sublist (List.filter_sublist)
 refine List.pairwise_map.mpr (List.Pairwise.imp_of_mem (λ{a b} ha hb r=>?_) h1)
 have e1:a.1=k:=of_decide_eq_true (List.mem_filter.mp ha).2
 have e2:b.1=k:=of_decide_eq_true (List.mem_filter.mp hb).2
 unfold yM at r
 omega
theorem Xx {ks:List (Nat×Nat)} {m:Nat} (h:∀x∈ks,x.1 < m/\x.2 < m) (k:Nat):∀j∈zB ks k,j < m:=λj hj=>by
 obtain⟨x,hx,e⟩:=List.mem_map.mp hj
 have:=(h x (List.mem_filter.mp hx).1).2
 omega
theorem vZ (os:List Nat) (f g:Nat->Nat):(os.map λk=>f k+g k).sum=(os.map f).sum+(os.map g).sum:=by
 induction os with
 | nil=>rfl
 | cons a os ih=>
   simp only[List.map_cons,List.sum_cons,ih]
   omega
theorem vY {os:List Nat} (h:os.Nodup) (a:Nat):(os.map λk=>if a=k then 1 else 0).sum<=1:=by
 induction os with
 | nil=>exact Nat.zero_le _
 | cons b os ih=>
   rw[List.nodup_cons]at h
   rw[List.map_cons,List.sum_cons]
   by_cases e:a=b
   . subst e
     have z:(os.map λk=>if a=k then 1 else 0)=os.map λ_=>0:=List.map_congr_left λk hk=>by
       rw[if_neg]
       intro e
       subst e
       exact h.1 hk
     rw[z,if_pos rfl]
     have:(os.map λ_=>0).sum=0:=by
       clear z ih h
       induction os with
       | nil=>rfl
       | cons c os ih=>rw[List.map_cons,List.sum_cons,ih]
     omega
   . rw[if_neg e]
     have:=ih h.2
     omega
theorem Wk {os:List Nat} (h:os.Nodup):∀ks:List (Nat×Nat),(os.map λk=>(zB ks k).length).sum<=ks.length
 | []=>by
   have:(os.map λk=>(zB [] k).length).sum=0:=by
     clear h
     induction os with
     | nil=>rfl
     | cons c os ih=>rw[List.map_cons,List.sum_cons,ih];rfl
   omega
 | x::ks=>by
   have e:(os.map λk=>(zB (x::ks) k).length)=os.map λk=>(if x.1=k then 1 else 0)+(zB ks k).length:=List.map_congr_left λk _=>by
     unfold zB
     rw[List.filter_cons]
     by_cases z:x.1=k
     . rw[if_pos (decide_eq_true z),if_pos z]
       simp only[List.map_cons,List.length_cons]
       omega
     . rw[if_neg (by simpa using z),if_neg z,Nat.zero_add]
   rw[e,vZ,List.length_cons]
   have:=vY h x.1
   have:=Wk h ks
   omega
def QD (zs:List Str) (ks:List (Nat×Nat)) (ab:Bool) (k:Nat):Str×List Str:=
 (zt zs k,if ab=true then ((zB ks k).map (zt zs)).reverse else (zB ks k).map (zt zs))
theorem Vl {zs:List Str} {ks:List (Nat×Nat)} {ab:Bool} {k:Nat} {z:Str}:z∈(QD zs ks ab k).2↔z∈(zB ks k).map (zt zs):=by
 unfold QD
 cases ab
 . rw[if_neg Bool.false_ne_true]
 . rw[if_pos rfl,List.mem_reverse]
theorem Vm {zs:List Str} {ks:List (Nat×Nat)} {ab:Bool} {k:Nat}:(QD zs ks ab k).2.length=(zB ks k).length:=by
 unfold QD
 cases ab
 . rw[if_neg Bool.false_ne_true,List.length_map]
 . rw[if_pos rfl,List.length_reverse,List.length_map]
structure Xo (m:Nat) (os:List Nat):Prop where
 len:os.length=m
 nd:os.Nodup
 lt:∀k∈os,k < m
 all:∀j,j < m->j∈os
theorem VU {zs:List Str} {ks:List (Nat×Nat)} {os:List Nat} {m:Nat} (ab:Bool) (hz:zs.length=m) (hN:∀z∈zs,qK z=true) (hd:zs.Nodup) (hk:ks.Pairwise yM) (hl:∀x∈ks,x.1 < m/\x.2 < m) (h40:ks.length<=40) (ho:Xo m os):
   qH (os.map (QD zs ks ab)):=by
 have e1:(os.map (QD zs ks ab)).map (·.1)=os.map (zt zs):=by rw[List.map_map];rfl
 have inj:∀a∈os,∀b∈os,zt zs a=zt zs b->a=b:=λa ha b hb e=>Wi hd (by rw[hz];exact ho.lt a ha) (by rw[hz];exact ho.lt b hb) e
 refine⟨λr hr=>?_,?_,λr hr z hz'=>?_,λr hr=>?_,?_⟩
 . obtain⟨k,hk',rfl⟩:=List.mem_map.mp hr
   exact hN _ (z9 (by rw[hz];exact ho.lt k hk'))
 . rw[e1]
   exact Zm ho.nd inj
 . obtain⟨k,hk',rfl⟩:=List.mem_map.mp hr
   rw[Vl]at hz'
   obtain⟨j,hj,rfl⟩:=List.mem_map.mp hz'
   rw[e1]
   exact List.mem_map.mpr ⟨j,ho.all j (Xx hl k j hj),rfl⟩
 . obtain⟨k,hk',rfl⟩:=List.mem_map.mp hr
   have h1:((zB ks k).map (zt zs)).Nodup:=Zm (Vb hk k) λa ha b hb e=>Wi hd (by rw[hz];exact Xx hl k a ha) (by rw[hz];exact Xx hl k b hb) e
   show (if ab=true then _ else _:List Str).Nodup
   cases ab
   . rw[if_neg Bool.false_ne_true]
     exact h1
   . rw[if_pos rfl]
     exact List.pairwise_reverse.mpr (h1.imp λh=>Ne.symm h)
 . have e2:((os.map (QD zs ks ab)).map λr=>r.2.length)=os.map λk=>(zB ks k).length:=by
     rw[List.map_map]
     exact List.map_congr_left λk _=>Vm
   rw[e2]
   exact Nat.le_trans (Wk ho.nd ks) h40
theorem UN (m:Nat):Xo m (List.range m):=⟨List.length_range,List.nodup_range,λk h=>List.mem_range.mp h,λj h=>List.mem_range.mpr h⟩
theorem XR (m:Nat):Xo m (J7 m):=⟨by rw[J7,List.length_reverse,List.length_range],List.pairwise_reverse.mpr (List.nodup_range.imp λh=>Ne.symm h),λk h=>List.mem_range.mp (List.mem_reverse.mp h),λj h=>List.mem_reverse.mpr (List.mem_range.mpr h)⟩
def ZC (m:Nat):List Nat:=(List.range m).map λk=>k*5 % m
theorem VX:∀m,m < 15->(ZC m).Nodup->∀j,j < m->j∈ZC m:=by decide+kernel
theorem YX {m:Nat} (hm:m<=14) (h0:0 < m) (h:(ZC m).Nodup):Xo m (ZC m):=
 ⟨by rw[ZC,List.length_map,List.length_range],h,λk hk=>by obtain⟨x,_,rfl⟩:=List.mem_map.mp hk;exact Nat.mod_lt _ h0,VX m (by omega) h⟩
theorem zK (val:Nat->Int):∀i,(firstMet val i).length=i->((List.range i).map val).Nodup
 | 0,_=>List.nodup_nil
 | i+1,h=>by
   have h1:=firstMet_any val i (val i)
   have h2:=firstMet_length_le val i
   rw[firstMet_succ]at h
   unfold step_dedup at h
   split at h
   . omega
   . rename_i z
     rw[List.length_append,List.length_singleton]at h
     rw[List.range_succ,List.map_append,List.nodup_append]
     refine⟨zK val i (by omega),by simp,λa ha b hb e=>?_⟩
     have eb:b=val i:=by simpa using hb
     subst eb
     subst e
     refine z ?_
     rw[h1,List.any_eq_true]
     exact⟨_,ha,by simp⟩
theorem xF {os:List Nat} (h:¬(firstMet (λi=>(os.map λk=>((k:Nat):Int)).getD i 0) (os.map λk=>((k:Nat):Int)).length).length < os.length):os.Nodup:=by
 have h1:=firstMet_length_le (λi=>(os.map λk=>((k:Nat):Int)).getD i 0) (os.map λk=>((k:Nat):Int)).length
 have h2:=zK (λi=>(os.map λk=>((k:Nat):Int)).getD i 0) (os.map λk=>((k:Nat):Int)).length (by rw[List.length_map]at h1 h ⊢;omega)
 have e:(List.range (os.map λk=>((k:Nat):Int)).length).map (λi=>(os.map λk=>((k:Nat):Int)).getD i 0)=os.map λk=>((k:Nat):Int):=by
   refine List.ext_getElem? λi=>?_
   rw[List.getElem?_map]
   by_cases hi:i < (os.map λk=>((k:Nat):Int)).length
   . rw[List.getElem?_range hi,List.getElem?_eq_getElem hi]
     simp only[Option.map_some,List.getD_eq_getElem?_getD,List.getElem?_eq_getElem hi,Option.getD_some]
   . rw[List.getElem?_eq_none (by rw[List.length_range];omega),List.getElem?_eq_none (by omega)]
     rfl
 rw[e]at h2
 refine(List.pairwise_map.mp h2).imp λh e=>h (by rw[e])
end Rh
set_option Elab.async false
set_option linter.all false
set_option maxRecDepth 100000
set_option maxHeartbeats 4000000
namespace Rh
open PySem L2 PyProof.Rows
def ji (H:Hp) (ps:List Addr) (rs:List (Str×List Str)):Prop:=ps.length=rs.length/\∀(i:Nat) (p:Addr) (r:Str×List Str),ps[i]?=some p->rs[i]?=some r->∃q,H p=some (.tup [.str r.1,.ref q])/\H q=some (.tup (r.2.map V.str))
def Uj:Sp:=λvs H Q _=>∃(d:Addr) (mo:Nat) (n s t:Int),vs=[.ref d,.int mo]/\H d=some (.dK (jf n s t))/\0 < mo/\mo<=14/\
 ∀(l:Addr) (ps:List Addr) (rs:List (Str×List Str)) (n' t':Int) (H':Hp),H l=none->H' l=some (.lst (ps.map V.ref))->ji H' ps rs->qH rs->0 < rs.length->rs.length<=mo->H' d=some (.dK (jf n' s t'))->Fr H d H'->Q (.ref l) H'
structure jR (mg:Str->Option Value):Prop where
 srt:mg "sorted"=none
 lst:mg "list"=none
 rev:mg "reversed"=none
 set:mg "set"=none
 tup:mg "tuple"=none
theorem ji.mono {H H':Hp} {ps:List Addr} {rs:List (Str×List Str)} (h:ji H ps rs) (s:Same H H'):ji H' ps rs:=⟨h.1,λi p r e1 e2=>let ⟨q,a,b⟩:=h.2 i p r e1 e2;⟨q,s _ _ a,s _ _ b⟩⟩
theorem Jn.mono {H H':Hp} {ps:List Addr} {ks:List (Nat×Nat)} (h:Jn H ps ks) (s:Same H H'):Jn H' ps ks:=⟨h.1,λi p k e1 e2=>s _ _ (h.2 i p k e1 e2)⟩
theorem Fr.same {H H' H'':Hp} {d:Addr} (h:Fr H d H') (s:Same H' H''):Fr H d H'':=λb u hb hn=>s _ _ (h b u hb hn)
theorem ji.snoc {H:Hp} {ps:List Addr} {rs:List (Str×List Str)} (h:ji H ps rs) {p q:Addr} {r:Str×List Str} (hp:H p=some (.tup [.str r.1,.ref q])) (hq:H q=some (.tup (r.2.map V.str))):ji H (ps++[p]) (rs++[r]):=by
 refine⟨by rw[List.length_append,List.length_append,h.1];rfl,λi p' r' e1 e2=>?_⟩
 by_cases hi:i < ps.length
 . rw[List.getElem?_append_left hi]at e1
   rw[List.getElem?_append_left (by rw[<-h.1];exact hi)]at e2
   exact h.2 i p' r' e1 e2
 . have hi':i=ps.length:=by
     have:=(List.getElem?_eq_some_iff.mp e1).1
     rw[List.length_append,List.length_singleton]at this
     omega
   subst hi'
   rw[List.getElem?_append_right (Nat.le_refl _),Nat.sub_self]at e1
   rw[h.1,List.getElem?_append_right (Nat.le_refl _),Nat.sub_self]at e2
   obtain rfl:=(Option.some.inj e1).symm
   obtain rfl:=(Option.some.inj e2).symm
   exact⟨q,hp,hq⟩
theorem ji.upd_lst {H:Hp} {ps:List Addr} {rs:List (Str×List Str)} {l:Addr} {xs:List V} {o:HO} (h:ji H ps rs) (hl:H l=some (.lst xs)):ji (upd H l o) ps rs:=by
 refine⟨h.1,λi p r e1 e2=>?_⟩
 obtain⟨q,a,b⟩:=h.2 i p r e1 e2
 refine⟨q,?_,?_⟩
 . rw[qf (λe=>by rw[e,hl]at a;cases a)]
   exact a
 . rw[qf (λe=>by rw[e,hl]at b;cases b)]
   exact b
theorem X6 {tc:TT} {tp u:TS} {D:Qx} {σ:L2.St} {H0:Hp} (R:Bool->Hp->Prop) (G:L2.St->Hp->Prop) (ht:∀Q:Bool->Hp->Prop,(∀b H1,R b H1->Q b H1)->tc σ H0 Q)
   (hT:∀H1,R true H1->∀D':Qx,(∀σ' H',G σ' H'->D'.nx σ' H')->tp D' σ H1) (hF:∀H1,R false H1->G σ H1) (k:∀σ' H',G σ' H'->u D σ' H'):Vc (vW tc tp Wn) u D σ H0:=
 ht _ λb H1 r=>by
   cases b
   . exact jT (k _ _ (hF _ r))
   . exact Qq (hT _ r _ k)
theorem yp {zs:List Str} {j:Nat} (h:j < zs.length):Xl (zs.map V.str) ((j:Nat):Int)=some (V.str (zt zs j)):=J8 (by rw[List.getElem?_map,ZI h];rfl)
theorem V9 {ks:List (Nat×Nat)} {j:Nat} {x:Nat×Nat} (k:Nat) (h:ks[j]?=some x):zB (ks.take (j+1)) k=zB (ks.take j) k++if x.1=k then [x.2] else []:=by
 unfold zB
 rw[List.take_add_one,h,List.filter_append,List.map_append]
 congr 1
 by_cases e:x.1=k
 . rw[if_pos e]
   simp [e]
 . rw[if_neg e]
   simp [e]
abbrev oL (os:List Nat):List V:=os.map λk=>V.int ((k:Nat):Int)
theorem kM (os:List Nat):oL os=(os.map λk=>((k:Nat):Int)).map V.int:=by rw[List.map_map];rfl
section
variable {P:Program} {w:World} {K:PySem.W.Frag} {mg:Str->Option Value} {base:Heap}
abbrev uo:List Str:=["_law_source_here","_law_most","_law_many","_law_names_here","_law_shape","_law_pairs","_law_about","_law_order","_law_rows_here","_law_k","_law_leads_here"]
theorem Qc:qz uo ["_law_source_here","_law_most"] (qi Ww):=⟨rfl,rfl,rfl,by decide+kernel,rfl,by decide+kernel,by decide+kernel⟩
abbrev uR:List Str:=["_law_one","_law_j","_law_k","_law_names_here"]
theorem W2:uR.Nodup:=by decide+kernel
theorem kF {f fT fN fL:Addr} {fd fdT fdN fdL:FuncData} (F:jU K "_law_rows" "_law_rows" Ww f fd) (B:Jj mg) (G:jR mg) (hT:jo K mg "_law_take" JP ["_law_source_here","_law_many"] fT fdT)
   (hN:jo K mg "_law_names" Z4 ["_law_source_here","_law_many"] fN fdN) (hL:jo K mg "_law_leads" Z5 za fL fdL):qo P w K mg base qZ 3 f fd ["_law_source_here","_law_most"] Uj:=by
 have GT:qo P w K mg base qZ 1 fT fdT ["_law_source_here","_law_many"] Q7:=Jk hT.fn
 have GN:qo P w K mg base qZ 2 fN fdN ["_law_source_here","_law_many"] Ws:=UV hN.fn B hT
 have GL:qo P w K mg base qZ 2 fL fdL za Wt:=UX hL.fn B G.srt hT
 refine F.okJ Qc (λvs H Q E h=>?_) (λcdv A outer s H vs Q E hr h=>?_)
 . obtain⟨d,m,n,sd,t,rfl,_⟩:=h
   rfl
 . obtain⟨d,mo,n,sd,t,rfl,hd,hmo,hm14,q⟩:=h
   have r1:qS 1 _:=hr.mono (by decide)
   refine⟨_,qg (qA (i:=2) Qc.nd rfl (Or.inr rfl) (qI Qd qj (qX hT GT r1 (by rfl) (qb (jv 0) (qb (jv 1) qe)))))
     (qg (qA (i:=3) Qc.nd rfl (Or.inr rfl) (qX hN GN hr (by rfl) (qb (jv 0) (qb (jv 2) qe))))
     (qg (qA (i:=4) Qc.nd rfl (Or.inl rfl) (qX hT GT r1 (by rfl) (qb (jv 0) (qb qj qe))))
     (qg (qA (i:=5) Qc.nd rfl (Or.inl rfl) (qX hL GL hr (by rfl) (qb (jv 0) (qb (jv 2) (qb (jv 4) (qb (qI Qd qj (qX hT GT r1 (by rfl) (qb (jv 0) (qb qj qe)))) qe))))))
     (qg (qA (i:=6) Qc.nd rfl (Or.inl rfl) (QQ jD (qX hT GT r1 (by rfl) (qb (jv 0) (qb qj qe))) qj (qy _)))
     (qg (qA (i:=7) Qc.nd rfl (Or.inl rfl) (uE rfl (by rfl) G.lst (by rfl) B.rng (jv 2)))
     (qg (qL (ju (jv 6)) (qk (J3 (i:=7) (N':=["_law_k","_law_many"]) (ix:=[none,some 2]) Qc.nd rfl (Or.inl rfl) rfl ⟨rfl,rfl,rfl,rfl,rfl⟩ (jB (by rfl) B.rng (qb (jv 2) qe))
         (λC s2 H2 fp pins=>⟨qF (i:=0) (show (["_law_k","_law_many"]:List Str).Nodup by decide+kernel) rfl (Or.inl rfl),j4,qI Ql (qI QM (jv 0) qj) (jv 1)⟩))) qC)
     (qg (qL (qt j8 (qp Xj (by rfl) B.len boot_len (qb (jp (V2 rfl) (by rfl) G.set boot_set (qb (jv 7) qe)) qe)) (jv 2) (qy _))
         (qk (qA (i:=7) Qc.nd rfl (Or.inl rfl) (xS rfl (by rfl) G.lst (by rfl) G.rev (by rfl) B.rng (jv 2)))) qC)
     (qg (qA (i:=8) Qc.nd rfl (Or.inl rfl) (jk qe))
     (qg (jJ PassesOwn.never rfl (jC (jv 7)) (qF (i:=9) Qc.nd rfl (Or.inr rfl))
       (qg (J3 (i:=10) (N':=uR) (ix:=[none,none,some 9,some 3]) (g:=uK K 2 (vv (QI 0) (vv (QI 1) uM))) (te:=Xs (xi K) (jt 3) (jt 1)) Qc.nd rfl (Or.inl rfl) rfl ⟨rfl,rfl,rfl,rfl,rfl⟩ (jC (jv 5))
           (λC s2 H2 fp pins=>⟨X4 rfl (j9 (qF (i:=0) W2 rfl (Or.inl rfl)) (j9 (qF (i:=1) W2 rfl (Or.inl rfl)) ZP)),
             WM (qt jD (jv 0) (jv 2) (qy _)),jg jl (jv 3) (jv 1) (λ_ _=>rfl)⟩))
       (qg (qL (ju (jv 6)) (qk (qJ (xU PySem.F.plainAttrs_list PySem.F.slot_list_reverse PySem.F.type_list_reverse XW (jv 10)))) qC)
       (qk (qJ (Y8 PySem.F.plainAttrs_list PySem.F.slot_list_append PySem.F.type_list_append Jl (jv 8) (qb
         (j0 (qb (jg jl (jv 3) (jv 9) (λ_ _=>rfl)) (qb (jp Jv (by rfl) G.tup boot_tuple (qb (jv 10) qe)) qe))) qe)))))))
     (qk (qM (jv 8)))))))))))),?_⟩
   refine⟨_,rfl,_,rfl,d,mo,n,sd,t,rfl,hd,by omega,by omega,λr n1 t1 r0 r1=>⟨_,_,rfl,rfl,?_⟩⟩
   obtain⟨m,em,m0,m1⟩:∃m:Nat,1+r=(m:Int)/\0 < m/\m<=mo:=⟨(1+r).toNat,by omega,by omega,by omega⟩
   have em':(λi j:Int=>V.int (i+j)) 1 r=V.int (m:Int):=congrArg V.int em
   rw[em']
   refine⟨_,rfl,_,rfl,d,m,n1,sd,t1,rfl,qd,by omega,λlz zs n2 t2 H2 hlz hlz' zl zn znd hd2 fr2=>?_⟩
   have fr2:Fr H d H2:=Fr.refl.at_d.trans fr2
   refine⟨_,rfl,d,5,n2,sd,t2,rfl,hd2,by decide,by decide,λsh n3 t3 _ _=>?_⟩
   refine⟨_,rfl,_,rfl,_,rfl,_,rfl,d,5,n3,sd,t3,rfl,qd,by decide,by decide,λlw n4 t4 _ _=>⟨_,_,rfl,rfl,d,m,n4,sd,t4,sh,1+lw,rfl,qd,by omega,λlp ps ks n5 t5 H5 hlp hlp' pat kord klt k40 hd5 fr5=>?_⟩⟩
   have nzd:lz≠d:=λe=>by rw[e,qd]at hlz;cases hlz
   have hz5:H5 lz=some (.lst (zs.map V.str)):=fr5 _ _ (by rw[qf nzd,qf nzd];exact hlz') nzd
   have fr5:Fr H d H5:=fr2.at_d.at_d.trans fr5
   refine⟨_,rfl,d,2,n5,sd,t5,rfl,hd5,by decide,by decide,λab n6 t6 _ _=>⟨rfl,?_⟩⟩
   generalize decide (V.int ab=V.int 1)=b
   have npd:lp≠d:=λe=>by rw[e,qd]at hlp;cases hlp
   have fr6:Fr H d (upd H5 d (.dK (jf n6 sd t6))):=fr5.at_d
   have hd6:upd H5 d (.dK (jf n6 sd t6)) d=some (.dK (jf n6 sd t6)):=qd
   have hz6:upd H5 d (.dK (jf n6 sd t6)) lz=some (.lst (zs.map V.str)):=by rw[qf nzd];exact hz5
   have hp6:upd H5 d (.dK (jf n6 sd t6)) lp=some (.lst (ps.map V.ref)):=by rw[qf npd];exact hlp'
   have pat6:Jn (upd H5 d (.dK (jf n6 sd t6))) ps ks:=⟨pat.1,λi p k e1 e2=>by
     have h1:=pat.2 i p k e1 e2
     have:p≠d:=λe=>by rw[e,hd5]at h1;cases h1
     rw[qf this]
     exact h1⟩
   generalize upd H5 d (.dK (jf n6 sd t6))=H6 at fr6 hd6 hz6 hp6 pat6
   refine⟨_,rfl,m,rfl,by omega,λlo hlo=>?_⟩
   refine zj ?_
   dsimp only[List.set]
   refine X6 (λc H'=>c=b/\H'=upd H6 lo (.lst (yq m))) (λσ' H'=>∃lo os,σ'=[some (.ref d),some (.int mo),some (.int m),some (.ref lz),some (.int sh),some (.ref lp),some (.bl b),some (.ref lo),none,none,none]/\Same H6 H'/\H6 lo=none/\H' lo=some (.lst (oL os))/\(os=List.range m\/os=ZC m))
     (λQ k=>⟨_,rfl,b,rfl,k _ _ ⟨rfl,rfl⟩⟩) ?_ ?_ ?_
   . rintro H1 ⟨rfl,rfl⟩ D' k
     refine⟨_,rfl,m,rfl,by omega,by omega,λD hD=>?_⟩
     refine Zu (λi σ' H'=>∃v:Option V,σ'=[v,some (.int m)]/\H'=upd (upd H6 lo (.lst (yq m))) D (.lst (oL ((List.range i).map λk=>k*5 % m)))) ⟨none,rfl,rfl⟩ ?_ ?_
     . rintro i σ' H' hi ⟨v,rfl,rfl⟩
       rw[Int.zero_add]
       have hi:i < m:=by simpa using hi
       refine⟨_,rfl,_,_,rfl,rfl,.inl ⟨by omega,by omega⟩,_,rfl,_,_,rfl,rfl,(by show (0:Int) < m;omega),_,qd,?_,_,rfl,?_⟩
       . rw[List.length_map,List.length_map,List.length_range]
         exact qw (by omega)
       . rw[jz,List.range_succ,List.map_append,oL,oL,List.map_append]
         rfl
     . rintro σ' H' ⟨v,rfl,rfl⟩
       have hD6:H6 D=none:=by
         by_cases e:D=lo
         . rw[e];exact hlo
         . rw[qf e]at hD;exact hD
       exact k _ _ ⟨D,ZC m,rfl,λa u h=>qr (qr h hlo) hD,hD6,qd,.inr rfl⟩
   . rintro H1 ⟨rfl,rfl⟩
     exact⟨lo,List.range m,rfl,qh hlo,hlo,qd,.inl rfl⟩
   rintro σ' H7 ⟨lo,os,rfl,s7,hlo6,hlo7,hos⟩
   have los:os.length=m:=by
     rcases hos with rfl | rfl
     . exact List.length_range
     . rw[ZC,List.length_map,List.length_range]
   refine X6 (λc H'=>Same H7 H'/\(c=true\/os.Nodup)) (λσ' H'=>∃lo os,σ'=[some (.ref d),some (.int mo),some (.int m),some (.ref lz),some (.int sh),some (.ref lp),some (.bl b),some (.ref lo),none,none,none]/\Same H6 H'/\H' lo=some (.lst (oL os))/\Xo m os)
     ?_ ?_ ?_ ?_
   . intro Q k
     refine⟨_,rfl,lo,os.map (λk=>((k:Nat):Int)),rfl,.of (by rw[<-kM];exact hlo7),by rw[List.length_map,los];omega,λl S hl=>?_⟩
     refine⟨l,S,_,rfl,qd,_,rfl,_,_,rfl,rfl,_,rfl,k _ _ ⟨qh hl,?_⟩⟩
     by_cases h:(((firstMet (λi=>(os.map λk=>((k:Nat):Int)).getD i 0) (os.map λk=>((k:Nat):Int)).length).length:Nat):Int) < (m:Int)
     . exact .inl (decide_eq_true h)
     . exact .inr (xF (by rw[los];omega))
   . rintro H1 ⟨s1,_⟩ D' k
     refine⟨_,rfl,m,rfl,by omega,λl hl=>?_⟩
     exact k _ _ ⟨l,J7 m,rfl,λa u h=>qr (s1 _ _ (s7 _ _ h)) hl,qd,XR m⟩
   . rintro H1 ⟨s1,h⟩
     have h:os.Nodup:=h.resolve_left (by decide)
     refine⟨lo,os,rfl,λa u h=>s1 _ _ (s7 _ _ h),s1 _ _ hlo7,?_⟩
     rcases hos with rfl | rfl
     . exact UN m
     . exact YX (by omega) m0 h
   rintro σ' H8 ⟨lo,os,rfl,s8,hlo8,ho⟩
   refine⟨by show 0<=sizeLine;decide,λlr hlr=>⟨_,rfl,lo,rfl,⟨_,.of (qr hlo8 hlr)⟩,?_⟩⟩
   refine QJ (K:=K) (a:=lo) (xs:=oL os) (λi σ' H'=>∃(v9 v10:Option V) (qs:List Addr),σ'=[some (.ref d),some (.int mo),some (.int m),some (.ref lz),some (.int sh),some (.ref lp),some (.bl b),some (.ref lo),some (.ref lr),v9,v10]/\
     Same H8 H'/\H' lr=some (.lst (qs.map V.ref))/\ji H' qs ((os.take i).map (QD zs ks b)))
     ⟨none,none,[],rfl,qh hlr,qd,rfl,λi p r e=>(nomatch e)⟩ (λi σ' H' _ ⟨_,_,_,_,s,_⟩=>.of (s _ _ hlo8)) ?_ ?_
   . rintro i x σ' H' hx ⟨v9,v10,qs,rfl,s9,hlr9,rat⟩
     have hix:i < os.length:=by
       have:=(List.getElem?_eq_some_iff.mp hx).1
       rwa [List.length_map]at this
     obtain⟨k,hk⟩:∃k,os[i]?=some k:=⟨_,List.getElem?_eq_getElem hix⟩
     have ex:x=V.int ((k:Nat):Int):=by
       rw[List.getElem?_map,hk]at hx
       exact(Option.some.inj hx).symm
     subst ex
     have hkm:k < m:=ho.lt k (List.mem_of_getElem? hk)
     refine⟨_,rfl,lp,rfl,⟨_,.of (s9 _ _ (s8 _ _ hp6))⟩,λD hD=>?_⟩
     have nDr:D≠lr:=λe=>by rw[e,hlr9]at hD;cases hD
     have hz9:H' lz=some (.lst (zs.map V.str)):=s9 _ _ (s8 _ _ hz6)
     have pat9:Jn H' ps ks:=pat6.mono λa u h=>s9 _ _ (s8 _ _ h)
     refine Qp (K:=K) (a:=lp) (xs:=ps.map V.ref) (λj σ'' H''=>∃v0 v1:Option V,σ''=[v0,v1,some (.int k),some (.ref lz)]/\H''=upd H' D (.lst (((zB (ks.take j) k).map (zt zs)).map V.str))) ⟨none,none,rfl,rfl⟩
       (λj σ'' G _ ⟨_,_,_,e⟩=>e▸.of (qr (s9 _ _ (s8 _ _ hp6)) hD)) ?_ ?_
     . rintro j y σ'' G hy ⟨v0,v1,rfl,rfl⟩
       have hj:j < ps.length:=by
         have:=(List.getElem?_eq_some_iff.mp hy).1
         rwa [List.length_map]at this
       obtain⟨p,hp⟩:∃p,ps[j]?=some p:=⟨_,List.getElem?_eq_getElem hj⟩
       obtain⟨kk,hkk⟩:∃p,ks[j]?=some p:=⟨_,List.getElem?_eq_getElem (by rw[<-pat9.1];exact hj)⟩
       have ey:y=V.ref p:=by
         rw[List.getElem?_map,hp]at hy
         exact(Option.some.inj hy).symm
       subst ey
       have hpt:=pat9.2 j p kk hp hkk
       have hk2:kk.2 < zs.length:=by rw[zl];exact(klt kk (List.mem_of_getElem? hkk)).2
       refine⟨p,_,rfl,.of (qr hpt hD),rfl,_,_,rfl,_,_,rfl,rfl,_,rfl,_,rfl,rfl,_,rfl,?_⟩
       rw[V9 k hkk]
       by_cases e:kk.1=k
       . have e1:decide (V.int ((kk.1:Nat):Int)=V.int ((k:Nat):Int))=true:=decide_eq_true (by rw[e])
         rw[e1,if_pos e]
         refine Qq ⟨_,rfl,_,rfl,lz,_,_,_,rfl,rfl,.of (qr hz9 hD),yp hk2,_,qd,?_,_,_,rfl,?_⟩
         . rw[List.length_map,List.length_map]
           refine qw ?_
           have h1:(zB (ks.take j) k).length<=(ks.take j).length:=by
             unfold zB
             rw[List.length_map]
             exact List.length_filter_le _ _
           rw[List.length_take]at h1
           omega
         . rw[jz,List.map_append,List.map_append]
           rfl
       . have e1:decide (V.int ((kk.1:Nat):Int)=V.int ((k:Nat):Int))=false:=decide_eq_false (by
           intro z
           have:=V.int.inj z
           omega)
         rw[e1,if_neg e,List.append_nil]
         exact jT ⟨_,_,rfl,rfl⟩
     . rintro σ'' G ⟨v0,v1,rfl,rfl⟩
       rw[List.length_map,pat9.1,List.take_of_length_le (Nat.le_refl _)]
       refine zj ?_
       dsimp only[List.set]
       refine X6 (λc G=>c=b/\G=upd H' D (.lst (((zB ks k).map (zt zs)).map V.str)))
         (λσ' G=>σ'=[some (.ref d),some (.int mo),some (.int m),some (.ref lz),some (.int sh),some (.ref lp),some (.bl b),some (.ref lo),some (.ref lr),some (.int k),some (.ref D)]/\G=upd H' D (.lst ((QD zs ks b k).2.map V.str)))
         (λQ k=>⟨_,rfl,b,rfl,k _ _ ⟨rfl,rfl⟩⟩) ?_ ?_ ?_
       . rintro H1 ⟨rfl,rfl⟩ D' kk
         refine⟨_,rfl,.inl ⟨rfl,_,.of qd⟩,D,_,rfl,rfl,qd,?_⟩
         refine kk _ _ ⟨rfl,?_⟩
         rw[jz,QD,if_pos rfl,List.map_reverse]
       . rintro H1 ⟨rfl,rfl⟩
         exact⟨rfl,rfl⟩
       rintro σ' G ⟨rfl,rfl⟩
       have hlrG:upd H' D (.lst ((QD zs ks b k).2.map V.str)) lr=some (.lst (qs.map V.ref)):=by rw[qf (Ne.symm nDr)];exact hlr9
       have sG:Same H' (upd H' D (.lst ((QD zs ks b k).2.map V.str))):=qh hD
       refine⟨_,rfl,.inl ⟨rfl,_,.of hlrG⟩,_,rfl,_,rfl,lz,_,_,_,rfl,rfl,.of (sG _ _ hz9),yp (by rw[zl];exact hkm),_,rfl,D,_,rfl,.inl ⟨.of qd,λlq hq=>⟨by show 2<=sizeLine;decide,λlt hlt=>?_⟩⟩⟩
       have hqlr:=qr (o':=HO.tup ((QD zs ks b k).2.map V.str)) hlrG hq
       have htlr:=qr (o':=HO.tup [V.str (zt zs k),V.ref lq]) hqlr hlt
       refine⟨lr,_,_,rfl,rfl,htlr,?_,_,_,qs++[lt],rfl,?_,?_,?_⟩
       . rw[List.length_map,rat.1,List.length_map,List.length_take]
         refine qw ?_
         have:=ho.len
         omega
       . exact Same.upd (λa u h=>qr (qr (sG _ _ (s9 _ _ h)) hq) hlt) hlr
       . rw[List.map_append]
         exact qd
       . have e:os.take (i+1)=os.take i++[k]:=by rw[List.take_add_one,hk];rfl
         rw[e,List.map_append]
         refine ji.upd_lst ?_ htlr
         exact ji.snoc (q:=lq) (rat.mono λa u h=>qr (qr (sG _ _ h) hq) hlt) qd (qr qd hlt)
   . rintro σ' H' ⟨v9,v10,qs,rfl,s9,hlr9,rat⟩
     have e:(oL os).length=os.length:=List.length_map ..
     rw[e,List.take_of_length_le (Nat.le_refl _)]at rat
     have h8:H6 lr=none:=by
       cases z:H6 lr with
       | none=>rfl
       | some u=>rw[s8 _ _ z]at hlr;cases hlr
     refine⟨_,rfl,q lr qs _ n6 t6 H' (fr6.fresh hd6 h8) hlr9 rat (VU b zl zn znd kord klt k40 ho) ?_ ?_ (s9 _ _ (s8 _ _ hd6)) (fr6.same λa u h=>s9 _ _ (s8 _ _ h))⟩
     . rw[List.length_map,ho.len];exact m0
     . rw[List.length_map,ho.len];exact m1
end
end Rh
set_option Elab.async false
set_option linter.all false
set_option maxRecDepth 100000
set_option maxHeartbeats 4000000
namespace Rh
open PySem L2 PyProof.Rows
abbrev zD:Stmt:=top 16
abbrev Z6:Stmt:=top 17
abbrev Wy:Stmt:=top 18
abbrev kq:Stmt:=top 19
abbrev Wz:Stmt:=top 20
abbrev kr:Stmt:=top 21
abbrev YT:Stmt:=top 22
theorem wm (x:Str):[x].Nodup:=by simp
structure j2 (K:PySem.W.Frag) (mg:Str->Option Value):Prop where
 isi:mg "isinstance"=none
 str:mg "str"=none
 all:mg "all"=none
 enu:mg "enumerate"=none
 sum:mg "sum"=none
 lets:∃t,mg "LETTERS"=some (.str W6 t)
 lgst:∃t,mg "LONGEST_NAME"=some (.int 8 t)
 mp:∃t,mg "MOST_PLACES"=some (.int 14 t)
 mr:∃t,mg "MOST_ROADS"=some (.int 40 t)
 kss:PySem.W.kitOne K (.type "str") (.type "str")=some true
 ktt:PySem.W.kitOne K (.type "tuple") (.type "tuple")=some true
 kll:PySem.W.kitOne K (.type "list") (.type "list")=some true
theorem xW (c:Nat):(!(Builtin.Str.occurrences W6 ⟨#[c]⟩ 0 W6.length 1).isEmpty)=jq c:=by
 rw[StrLaws.found_one,vH]
 unfold jq
 rw[Bool.eq_iff_iff]
 simp only[decide_eq_true_eq,Bool.and_eq_true,List.mem_map,List.mem_range]
 constructor
 . rintro⟨k,hk,rfl⟩
   omega
 . intro h
   exact⟨c - 97,by omega,by omega⟩
theorem vG (f:Nat->Bool) (l:List Nat) (i c:Nat) (h:l[i]?=some c):(l.take i).map f++[f c]=(l.take (i+1)).map f:=by
 rw[List.take_add_one,h]
 simp
def ke:Sp:=λvs H Q _=>∃z,vs=[.str z]/\qK z=true/\∀H',Same H H'->Q (.bl true) H'
def wL:Sp:=λvs H Q _=>∃(q:Addr) (zs:List Str),vs=[.ref q]/\H q=some (.tup (zs.map V.str))/\(∀z∈zs,qK z=true)/\zs.length<=1000/\∀H',Same H H'->Q (.bl true) H'
def yz:Sp:=λvs H Q _=>∃(p q:Addr) (r:Str×List Str),vs=[.ref p]/\H p=some (.tup [.str r.1,.ref q])/\H q=some (.tup (r.2.map V.str))/\qK r.1=true/\(∀z∈r.2,qK z=true)/\r.2.length<=1000/\∀H',Same H H'->Q (.bl true) H'
structure jK (H:Hp) (l:Addr) (ps:List Addr) (rs:List (Str×List Str)):Prop where
 at_:H l=some (.lst (ps.map V.ref))
 rows:ji H ps rs
 good:qH rs
 pos:0 < rs.length
 le:rs.length<=14
theorem jK.mono {H H':Hp} {l:Addr} {ps:List Addr} {rs:List (Str×List Str)} (h:jK H l ps rs) (s:Same H H'):jK H' l ps rs:=⟨s _ _ h.at_,h.rows.mono s,h.good,h.pos,h.le⟩
theorem qH.names {rs:List (Str×List Str)} (h:qH rs):∀r∈rs,∀z∈r.2,qK z=true:=λr hr z hz=>by
 obtain⟨r',hr',rfl⟩:=List.mem_map.mp (h.to r hr z hz)
 exact h.nm r' hr'
theorem qH.len {rs:List (Str×List Str)} (h:qH rs):∀r∈rs,r.2.length<=40:=λr hr=>by
 refine Nat.le_trans ?_ h.few
 have:∀(rs:List (Str×List Str)),r∈rs->r.2.length<=(rs.map λr=>r.2.length).sum:=by
   intro rs
   induction rs with
   | nil=>intro h;cases h
   | cons a rs ih=>
     intro h
     rw[List.map_cons,List.sum_cons]
     rcases List.mem_cons.mp h with rfl | h
     . omega
     . have:=ih h
       omega
 exact this rs hr
theorem ji.item {H:Hp} {ps:List Addr} {rs:List (Str×List Str)} (h:ji H ps rs) {i:Nat} {x:V} (hx:(ps.map V.ref)[i]?=some x):∃p q r,x=.ref p/\rs[i]?=some r/\r∈rs/\H p=some (.tup [.str r.1,.ref q])/\H q=some (.tup (r.2.map V.str)):=by
 rw[List.getElem?_map]at hx
 cases e:ps[i]? with
 | none=>rw[e]at hx;cases hx
 | some p=>
   rw[e]at hx
   have hi:i < rs.length:=by
     have:=(List.getElem?_eq_some_iff.mp e).1
     rw[h.1]at this
     exact this
   obtain⟨q,a,b⟩:=h.2 i p _ e (List.getElem?_eq_getElem hi)
   exact⟨p,q,_,(Option.some.inj hx).symm,List.getElem?_eq_getElem hi,List.getElem_mem hi,a,b⟩
def Zh:Sp:=λvs H Q _=>∃(l:Addr) (ps:List Addr) (rs:List (Str×List Str)),vs=[.ref l]/\jK H l ps rs/\∀H',Same H H'->Q .non H'
def yC:Sp:=λvs H Q _=>∃(l:Addr) (zs:List Str),vs=[.ref l]/\H l=some (.lst (zs.map V.str))/\zs.Nodup/\zs.length<=1000/\∀H',Same H H'->Q .non H'
def Uk:Sp:=λvs H Q _=>∃(q l:Addr) (es zs:List Str),vs=[.ref q,.ref l]/\H q=some (.tup (es.map V.str))/\H l=some (.lst (zs.map V.str))/\es.Nodup/\(∀z∈es,z∈zs)/\es.length<=900/\∀H',Same H H'->Q .non H'
theorem ZW {kvs:List (qP×V)} {k:qP} (h:¬k∈kvs.map (·.1)):jy kvs k=none:=by
 cases e:jy kvs k with
 | none=>rfl
 | some v=>exact absurd (vR e) h
theorem Zs (zs:List Str):(zs.map V.str).all J6=true:=by
 rw[List.all_map,List.all_eq_true]
 intro z _
 rfl
theorem WT {z:Str} {zs:List Str} (h:z∈zs):Xt (.str z) (zs.map V.str)=true:=by
 unfold Xt
 rw[List.any_eq_true]
 exact⟨.str z,List.mem_map.mpr ⟨z,h,rfl⟩,by show (z==z)=true;simp⟩
section
variable {P:Program} {w:World} {K:PySem.W.Frag} {mg:Str->Option Value} {base:Heap}
theorem xa:qz ["thing"] ["thing"] (qi JV):=⟨rfl,rfl,rfl,by decide+kernel,rfl,by decide+kernel,by decide+kernel⟩
theorem Yl {f:Addr} {fd:FuncData} (F:jU K "is_name" "is_name" JV f fd) (B:Jj mg) (T:j2 K mg):qo P w K mg base qZ 1 f fd ["thing"] ke:=by
 refine F.okJ xa (λvs H Q E h=>?_) (λcdv A outer s H vs Q E hr h=>?_)
 . obtain⟨x,rfl,_⟩:=h
   rfl
 . obtain⟨z,rfl,hz,q⟩:=h
   obtain⟨tl,hlets⟩:=T.lets
   obtain⟨tg,hlg⟩:=T.lgst
   refine⟨_,qg (qL (jP (ju (qp ja (by rfl) T.isi boot_isinstance (qb (jv 0) (qb (j6 (v:=.ty "str") (by rfl) T.str boot_str rfl) qe))))) (qk (qM jW)) qC)
     (qg (qL (Q0 (qt j8 (qp QW (by rfl) B.len boot_len (qb (jv 0) qe)) qj (qy _))
         (Qm (qt zG (qp QW (by rfl) B.len boot_len (qb (jv 0) qe)) (jh (v:=.int 8) (by rfl) hlg ⟨_,rfl⟩) (qy _)))).pt (qk (qM jW)) qC)
     (qk (qM (qp (zX rfl) (by rfl) T.all boot_all (qb (ZA (N':=["sign"]) (ix:=[none]) rfl ⟨rfl,rfl,rfl,rfl,rfl⟩ (xR (jv 0)) (λC s2 H2 fp pins=>
       ⟨qF (i:=0) (wm _) rfl (Or.inl rfl),j4,QQ Vv (jv 0) (jh (v:=.str W6) (by rfl) hlets ⟨_,rfl⟩) (by with_unfolding_all rfl)⟩)) qe))))),?_⟩
   have hn:=hz
   unfold qK at hn
   simp only[Bool.and_eq_true,decide_eq_true_eq]at hn
   obtain⟨⟨n1,n8⟩,na⟩:=hn
   have hz':z.length<=sizeLine:=Nat.le_of_lt (qw (by omega))
   refine⟨_,rfl,_,_,_,_,rfl,rfl,.str z,T.kss,_,rfl,jT ?_⟩
   refine⟨_,rfl,z,rfl,hz',_,_,rfl,rfl,_,rfl,?_⟩
   refine zh (λh=>?_) (λh=>?_)
   . exact absurd (of_decide_eq_true h) (by omega)
   . refine⟨_,rfl,z,rfl,hz',_,_,rfl,rfl,_,rfl,?_⟩
     refine zh (λh2=>?_) (λh2=>?_)
     . exact absurd (of_decide_eq_true h2) (by show ¬(8:Int) < (z.length:Int);omega)
     . refine⟨_,rfl,z,rfl,λD hD=>?_⟩
       refine yj (λi σ' H'=>∃v,σ'=[v]/\H'=upd H D (.lst (((z.cps.toList.take i).map jq).map V.bl))) ⟨none,rfl,rfl⟩ ?_ ?_
       . rintro i c σ' H' hc ⟨v,rfl,rfl⟩
         refine⟨_,rfl,_,_,rfl,rfl,_,qd,?_,?_⟩
         . rw[List.length_map,List.length_map,List.length_take]
           exact Nat.lt_of_le_of_lt (Nat.min_le_right _ _) (qw (show z.cps.toList.length<=1000 by rw[Array.length_toList];exact Nat.le_trans n8 (by decide)))
         . refine⟨_,rfl,?_⟩
           rw[jz,xW]
           have hc':z.cps.toList[i]?=some c:=by simpa using hc
           rw[<-vG jq z.cps.toList i c hc',List.map_append]
           rfl
       . rintro σ' H' ⟨v,rfl,rfl⟩
         refine⟨D,_,rfl,.of qd,?_⟩
         have e0:z.cps.toList.take z.cps.size=z.cps.toList:=List.take_of_length_le (by simp)
         have e1:(z.cps.toList.map jq).all id=true:=by rw[List.all_map];exact na
         rw[e0,e1]
         exact q _ (qh hD)
theorem y9:qz ["thing"] ["thing"] (qi zD):=⟨rfl,rfl,rfl,by decide+kernel,rfl,by decide+kernel,by decide+kernel⟩
theorem kE {f fN:Addr} {fd fdN:FuncData} (F:jU K "is_tuple_of_names" "is_tuple_of_names" zD f fd) (B:Jj mg) (G:jR mg) (T:j2 K mg) (hN:jo K mg "is_name" JV ["thing"] fN fdN):qo P w K mg base qZ 2 f fd ["thing"] wL:=by
 have GN:qo P w K mg base qZ 1 fN fdN ["thing"] ke:=Yl hN.fn B T
 refine F.okJ y9 (λvs H Q E h=>?_) (λcdv A outer s H vs Q E hr h=>?_)
 . obtain⟨x,zs,rfl,_⟩:=h
   rfl
 . obtain⟨x,zs,rfl,hx,hz,hl,q⟩:=h
   refine⟨_,qk (qM (Zr (qp ja (by rfl) T.isi boot_isinstance (qb (jv 0) (qb (j6 (v:=.ty "tuple") (by rfl) G.tup boot_tuple rfl) qe)))
     (Zq (qp (zX rfl) (by rfl) T.all boot_all (qb (ZA (N':=["part"]) (ix:=[none]) rfl ⟨rfl,rfl,rfl,rfl,rfl⟩ (vb (jv 0)) (λC s2 H2 fp pins=>
       ⟨qF (i:=0) (wm _) rfl (Or.inl rfl),j4,qX hN GN hr (by rfl) (qb (jv 0) qe)⟩)) qe))))),?_⟩
   refine⟨_,rfl,_,_,_,_,rfl,rfl,.tup hx,T.ktt,_,rfl,Qq ⟨_,rfl,x,rfl,⟨_,.of hx⟩,λD hD=>?_⟩⟩
   refine yi (K:=K) (a:=x) (xs:=zs.map V.str) (λi σ' H'=>∃v,σ'=[v]/\Same H H'/\H' D=some (.lst ((List.replicate i true).map V.bl))) ⟨none,rfl,qh hD,qd⟩ (λi σ' H' _ ⟨_,_,s,_⟩=>.of (s _ _ hx)) ?_ ?_
   . rintro i y σ' H' hy ⟨v,rfl,s1,hD1⟩
     rw[List.getElem?_map]at hy
     cases e:zs[i]? with
     | none=>rw[e]at hy;cases hy
     | some z=>
       rw[e]at hy
       obtain rfl:=(Option.some.inj hy).symm
       have hi:=(List.getElem?_eq_some_iff.mp e).1
       refine⟨_,rfl,z,rfl,hz z (List.mem_of_getElem? e),λH2 s2=>⟨_,s2 _ _ hD1,?_,_,rfl,?_,?_⟩⟩
       . rw[List.length_map,List.length_replicate]
         exact qw (by omega)
       . exact Same.upd (s1.trans s2) hD
       . rw[qd,List.replicate_succ',List.map_append]
         rfl
   . rintro σ' H' ⟨v,rfl,s1,hD1⟩
     refine⟨D,_,rfl,.of hD1,?_⟩
     have e:(List.replicate (zs.map V.str).length true).all id=true:=by simp
     rw[e]
     exact q _ s1
theorem km:qz ["thing"] ["thing"] (qi Z6):=⟨rfl,rfl,rfl,by decide+kernel,rfl,by decide+kernel,by decide+kernel⟩
theorem UY {f fN fP:Addr} {fd fdN fdP:FuncData} (F:jU K "is_row" "is_row" Z6 f fd) (B:Jj mg) (G:jR mg) (T:j2 K mg) (hN:jo K mg "is_name" JV ["thing"] fN fdN) (hP:jo K mg "is_tuple_of_names" zD ["thing"] fP fdP):qo P w K mg base qZ 3 f fd ["thing"] yz:=by
 have GN:qo P w K mg base qZ 1 fN fdN ["thing"] ke:=Yl hN.fn B T
 have GP:qo P w K mg base qZ 2 fP fdP ["thing"] wL:=kE hP.fn B G T hN
 refine F.okJ km (λvs H Q E h=>?_) (λcdv A outer s H vs Q E hr h=>?_)
 . obtain⟨p,x,r,rfl,_⟩:=h
   rfl
 . obtain⟨p,x,r,rfl,hp,hx,hn,hz,hl,q⟩:=h
   refine⟨_,qg (qL (Q0 (jP (ju (qp ja (by rfl) T.isi boot_isinstance (qb (jv 0) (qb (j6 (v:=.ty "tuple") (by rfl) G.tup boot_tuple rfl) qe)))))
       (Qm (qt WI (qp qB (by rfl) B.len boot_len (qb (jv 0) qe)) qj (qy _)))).pt qE qC)
     (qk (qM (Zr (qX hN GN (hr.mono (by decide)) (by rfl) (qb (jg Qn (jv 0) qj (λ_ _=>rfl)) qe)) (Zq (qX hP GP hr (by rfl) (qb (jg Qn (jv 0) qj (λ_ _=>rfl)) qe)))))),?_⟩
   refine⟨_,rfl,_,_,_,_,rfl,rfl,.tup hp,T.ktt,_,rfl,jT ⟨_,rfl,p,_,rfl,.inr (.of hp),rfl,_,rfl,jT ?_⟩⟩
   refine⟨_,rfl,p,_,0,_,rfl,rfl,.of hp,rfl,r.1,rfl,hn,λH1 s1=>⟨_,rfl,Qq ?_⟩⟩
   exact⟨_,rfl,p,_,1,_,rfl,rfl,.of (s1 _ _ hp),rfl,x,r.2,rfl,s1 _ _ hx,hz,hl,λH2 s2=>q H2 (s1.trans s2)⟩
end
end Rh
set_option Elab.async false
set_option linter.all false
set_option maxRecDepth 100000
set_option maxHeartbeats 4000000
namespace Rh
open PySem L2 PyProof.Rows
section
variable {P:Program} {w:World} {K:PySem.W.Frag} {mg:Str->Option Value} {base:Heap}
abbrev ut:List Str:=["rows","number","row"]
theorem XH:qz ut ["rows"] (qi Wy):=⟨rfl,rfl,rfl,by decide+kernel,rfl,by decide+kernel,by decide+kernel⟩
theorem kH {f fN fP fR:Addr} {fd fdN fdP fdR:FuncData} (F:jU K "need_form" "need_form" Wy f fd) (B:Jj mg) (G:jR mg) (T:j2 K mg) (hN:jo K mg "is_name" JV ["thing"] fN fdN) (hP:jo K mg "is_tuple_of_names" zD ["thing"] fP fdP)
   (hR:jo K mg "is_row" Z6 ["thing"] fR fdR):qo P w K mg base qZ 4 f fd ["rows"] Zh:=by
 have GR:qo P w K mg base qZ 3 fR fdR ["thing"] yz:=UY hR.fn B G T hN hP
 obtain⟨tm,hmp⟩:=T.mp
 refine F.okJ XH (λvs H Q E h=>?_) (λcdv A outer s H vs Q E hr h=>?_)
 . obtain⟨l,ps,rs,rfl,_⟩:=h
   rfl
 . obtain⟨l,ps,rs,rfl,g,q⟩:=h
   refine⟨_,qg (qL (Q0 (jP (ju (qp ja (by rfl) T.isi boot_isinstance (qb (jv 0) (qb (j6 (v:=.ty "list") (by rfl) G.lst boot_list rfl) qe)))))
       (Qm (qt jD (qp qB (by rfl) B.len boot_len (qb (jv 0) qe)) qj (qy _)))).pt qE qC)
     (qg (qL (qt zG (qp qB (by rfl) B.len boot_len (qb (jv 0) qe)) (jh (v:=.int 14) (by rfl) hmp ⟨_,rfl⟩) (qy _)) qE qC)
     (qk (jJ PassesOwn.never rfl (WQ (by rfl) T.enu (qb (jv 0) qe)) (X4 rfl (j9 (qF (i:=1) XH.nd rfl (Or.inl rfl)) (j9 (qF (i:=2) XH.nd rfl (Or.inl rfl)) ZP)))
       (qk (qL (jP (ju (qX hR GR hr (by rfl) (qb (jv 2) qe)))) qE qC))))),?_⟩
   have lp:(ps.map V.ref).length=rs.length:=by rw[List.length_map,g.rows.1]
   refine⟨_,rfl,_,_,_,_,rfl,rfl,.lst g.at_,T.kll,_,rfl,jT ⟨_,rfl,l,_,rfl,.inl (.of g.at_),rfl,_,rfl,?_⟩⟩
   have e0:decide (V.int (((ps.map V.ref).length:Nat):Int)=V.int 0)=false:=decide_eq_false (by
     intro z
     have:=V.int.inj z
     have:=g.pos
     omega)
   rw[e0]
   refine jT ⟨_,rfl,l,_,rfl,.inl (.of g.at_),_,_,rfl,rfl,_,rfl,?_⟩
   have e1:decide ((14:Int) < (((ps.map V.ref).length:Nat):Int))=false:=decide_eq_false (by
     have:=g.le
     omega)
   refine zh (λz=>absurd z (by rw[e1];decide)) (λ_=>?_)
   refine⟨_,rfl,l,rfl,⟨_,.of g.at_⟩,?_⟩
   refine Xa (K:=K) (a:=l) (xs:=ps.map V.ref) (λi σ' H'=>∃v1 v2,σ'=[some (.ref l),v1,v2]/\Same H H') ⟨none,none,rfl,Same.refl H⟩ (λi σ' H' _ ⟨_,_,_,s⟩=>.of (s _ _ g.at_)) ?_ ?_
   . rintro i x σ' H' p hx hp ⟨v1,v2,rfl,s1⟩
     have g1:=g.mono (s1.trans (qh (o:=.tup [.int (i:Nat),x]) hp))
     obtain⟨p',q',r,rfl,_,hr',a,b⟩:=g1.rows.item hx
     refine⟨p,_,rfl,.of qd,rfl,_,_,rfl,_,_,rfl,rfl,_,rfl,p',q',r,rfl,a,b,g.good.nm r hr',g.good.names r hr',Nat.le_trans (g.good.len r hr') (by decide),λH2 s2=>⟨_,rfl,jT ⟨_,_,rfl,?_⟩⟩⟩
     exact(s1.trans (qh hp)).trans s2
   . rintro σ' H' ⟨v1,v2,rfl,s1⟩
     exact q H' s1
abbrev KP:List Str:=["order","ahead","name"]
theorem Us:qz KP ["order"] (qi kq):=⟨rfl,rfl,rfl,by decide+kernel,rfl,by decide+kernel,by decide+kernel⟩
theorem Zl {zs:List Str} (hn:zs.Nodup) {i:Nat} {z:Str} (e:zs[i]?=some z):¬(Sum.inr z:qP)∈(zs.take i).map Sum.inr:=λh=>by
 obtain⟨y,hy,ey⟩:=List.mem_map.mp h
 have ey':y=z:=Sum.inr.inj ey
 subst ey'
 obtain⟨j,hj⟩:=List.getElem?_of_mem hy
 have hj1:=(List.getElem?_eq_some_iff.mp hj).1
 rw[List.length_take]at hj1
 have hji:j < i:=by omega
 rw[List.getElem?_take_of_lt hji]at hj
 have h1:=(List.getElem?_eq_some_iff.mp hj)
 have h2:=(List.getElem?_eq_some_iff.mp e)
 exact absurd (h1.2.trans h2.2.symm) (List.pairwise_iff_getElem.mp hn j i h1.1 h2.1 hji)
theorem Yi {kvs:List (qP×V)} {k:qP} (v:V) (h:jy kvs k=none):(jE kvs k v).map (·.1)=kvs.map (·.1)++[k]:=by
 rw[UF v h,List.map_append]
 rfl
theorem xy {f:Addr} {fd:FuncData} (F:jU K "need_own_names" "need_own_names" kq f fd):qo P w K mg base qZ 1 f fd ["order"] yC:=by
 refine F.okJ Us (λvs H Q E h=>?_) (λcdv A outer s H vs Q E hr h=>?_)
 . obtain⟨l,zs,rfl,_⟩:=h
   rfl
 . obtain⟨l,zs,rfl,hl,hn,hz,q⟩:=h
   have hu:=zP hr
   refine⟨_,qg (qA (i:=1) Us.nd rfl (Or.inl rfl) Jh)
     (qk (jJ PassesOwn.never rfl (jC (jv 0)) (qF (i:=2) Us.nd rfl (Or.inl rfl))
       (qg (qL (X3 (vh hu (jv 2) (jv 1))) qE qC) (qk (j5 hu (jv 1) (jv 2) jW rfl))))),?_⟩
   intro D hD
   refine⟨_,rfl,l,rfl,⟨_,.of (qr hl hD)⟩,?_⟩
   refine QJ (K:=K) (a:=l) (xs:=zs.map V.str) (λi σ' H'=>∃v kvs,σ'=[some (.ref l),some (.ref D),v]/\Same H H'/\H' D=some (.dK kvs)/\kvs.map (·.1)=(zs.take i).map Sum.inr) ⟨none,[],rfl,qh hD,qd,rfl⟩ (λi σ' H' _ ⟨_,_,_,s,_⟩=>.of (s _ _ hl)) ?_ ?_
   . rintro i x σ' H' hx ⟨v,kvs,rfl,s1,hD1,ek⟩
     rw[List.getElem?_map]at hx
     cases e:zs[i]? with
     | none=>rw[e]at hx;cases hx
     | some z=>
       rw[e]at hx
       obtain rfl:=(Option.some.inj hx).symm
       have hi:=(List.getElem?_eq_some_iff.mp e).1
       have ez:jy kvs (Sum.inr z:qP)=none:=ZW (by rw[ek];exact Zl hn e)
       have gz:Qy H' D (.str z) none:=by
         have:=Qy.k (k:=(Sum.inr z:qP)) hD1
         rw[ez]at this
         exact this
       have lk:kvs.length < sizeLine:=by
         have:=congrArg List.length ek
         rw[List.length_map,List.length_map,List.length_take]at this
         exact qw (by omega)
       refine⟨_,rfl,_,rfl,D,none,rfl,gz,_,rfl,jT ?_⟩
       refine⟨_,rfl,_,rfl,D,_,rfl,Zb.k (k:=(Sum.inr z:qP)) hD1 lk,_,_,rfl,Same.upd s1 hD,qd,?_⟩
       rw[Yi _ ez,ek,List.take_add_one,e,List.map_append]
       rfl
   . rintro σ' H' ⟨v,kvs,rfl,s1,_⟩
     exact q H' s1
abbrev uu:List Str:=["ends","order","ahead","name"]
theorem XI:qz uu ["ends","order"] (qi Wz):=⟨rfl,rfl,rfl,by decide+kernel,rfl,by decide+kernel,by decide+kernel⟩
theorem kI {f:Addr} {fd:FuncData} (F:jU K "need_ends" "need_ends" Wz f fd):qo P w K mg base qZ 1 f fd ["ends","order"] Uk:=by
 refine F.okJ XI (λvs H Q E h=>?_) (λcdv A outer s H vs Q E hr h=>?_)
 . obtain⟨x,l,es,zs,rfl,_⟩:=h
   rfl
 . obtain⟨x,l,es,zs,rfl,hx,hl,hn,hin,hz,q⟩:=h
   have hu:=zP hr
   refine⟨_,qg (qA (i:=2) XI.nd rfl (Or.inl rfl) Jh)
     (qk (jJ PassesOwn.never rfl (vb (jv 0)) (qF (i:=3) XI.nd rfl (Or.inl rfl))
       (qg (qL (qt J0 (jv 3) (jv 1) (by with_unfolding_all rfl)) qE qC)
       (qg (qL (X3 (vh hu (jv 3) (jv 2))) qE qC) (qk (j5 hu (jv 2) (jv 3) jW rfl)))))),?_⟩
   intro D hD
   refine⟨_,rfl,x,rfl,⟨_,.of (qr hx hD)⟩,?_⟩
   refine yc (K:=K) (a:=x) (xs:=es.map V.str) (λi σ' H'=>∃v kvs,σ'=[some (.ref x),some (.ref l),some (.ref D),v]/\Same H H'/\H' D=some (.dK kvs)/\kvs.map (·.1)=(es.take i).map Sum.inr) ⟨none,[],rfl,qh hD,qd,rfl⟩ (λi σ' H' _ ⟨_,_,_,s,_⟩=>.of (s _ _ hx)) ?_ ?_
   . rintro i y σ' H' hy ⟨v,kvs,rfl,s1,hD1,ek⟩
     rw[List.getElem?_map]at hy
     cases e:es[i]? with
     | none=>rw[e]at hy;cases hy
     | some z=>
       rw[e]at hy
       obtain rfl:=(Option.some.inj hy).symm
       have hi:=(List.getElem?_eq_some_iff.mp e).1
       have ez:jy kvs (Sum.inr z:qP)=none:=ZW (by rw[ek];exact Zl hn e)
       have gz:Qy H' D (.str z) none:=by
         have:=Qy.k (k:=(Sum.inr z:qP)) hD1
         rw[ez]at this
         exact this
       have lk:kvs.length < sizeLine:=by
         have:=congrArg List.length ek
         rw[List.length_map,List.length_map,List.length_take]at this
         exact qw (by omega)
       refine⟨_,rfl,_,rfl,l,_,rfl,.inl (.of (s1 _ _ hl)),rfl,Zs zs,_,rfl,?_⟩
       rw[WT (hin z (List.mem_of_getElem? e))]
       refine jT ⟨_,rfl,_,rfl,D,none,rfl,gz,_,rfl,jT ?_⟩
       refine⟨_,rfl,_,rfl,D,_,rfl,Zb.k (k:=(Sum.inr z:qP)) hD1 lk,_,_,rfl,Same.upd s1 hD,qd,?_⟩
       rw[Yi _ ez,ek,List.take_add_one,e,List.map_append]
       rfl
   . rintro σ' H' ⟨v,kvs,rfl,s1,_⟩
     exact q H' s1
abbrev KS:List Str:=["rows","many"]
theorem yE:qz KS ["rows"] (qi kr):=⟨rfl,rfl,rfl,by decide+kernel,rfl,by decide+kernel,by decide+kernel⟩
theorem xA {f:Addr} {fd:FuncData} (F:jU K "need_few_roads" "need_few_roads" kr f fd) (B:Jj mg) (T:j2 K mg):qo P w K mg base qZ 1 f fd ["rows"] Zh:=by
 obtain⟨tm,hmr⟩:=T.mr
 refine F.okJ yE (λvs H Q E h=>?_) (λcdv A outer s H vs Q E hr h=>?_)
 . obtain⟨l,ps,rs,rfl,_⟩:=h
   rfl
 . obtain⟨l,ps,rs,rfl,g,q⟩:=h
   refine⟨_,qg (qA (i:=1) yE.nd rfl (Or.inl rfl) (qp (V1 rfl) (by rfl) T.sum boot_sum (qb (ZA (N':=["row"]) (ix:=[none]) (te:=yw (λxs H Q=>∃p ys,xs=[.ref p]/\(SqL K H p ys\/SqT K H p ys)/\Q (.int ys.length) H) (jc (Xs (XN K) (jt 0) (tC (.int 1))) QB)) rfl ⟨rfl,rfl,rfl,rfl,rfl⟩ (jC (jv 0)) (λC s2 H2 fp pins=>
       ⟨qF (i:=0) (wm _) rfl (Or.inl rfl),j4,qp qB (by rfl) B.len boot_len (qb (jg Qn (jv 0) qj (λ_ _=>rfl)) qe)⟩)) qe)))
     (qk (qL (qt zG (jv 1) (jh (v:=.int 40) (by rfl) hmr ⟨_,rfl⟩) (qy _)) qE qC)),?_⟩
   refine⟨_,rfl,l,rfl,⟨_,.of g.at_⟩,λD hD=>?_⟩
   refine Qp (K:=K) (a:=l) (xs:=ps.map V.ref) (λi σ' H'=>∃v,σ'=[v]/\H'=upd H D (.lst (((rs.take i).map λr=>r.2.length).map λn=>V.int ((n:Nat):Int)))) ⟨none,rfl,rfl⟩ (λi σ' H' _ ⟨_,_,e⟩=>e▸.of (qr g.at_ hD)) ?_ ?_
   . rintro i x σ' H' hx ⟨v,rfl,rfl⟩
     obtain⟨p',q',r,rfl,er,hr',a,b⟩:=g.rows.item hx
     have hi:=(List.getElem?_eq_some_iff.mp er).1
     refine⟨_,rfl,p',_,1,_,rfl,rfl,.of (qr a hD),rfl,q',_,rfl,.inr (.of (qr b hD)),_,qd,?_,_,rfl,?_⟩
     . rw[List.length_map,List.length_map,List.length_take]
       have:=g.le
       exact qw (by omega)
     . rw[jz,List.take_add_one,er,List.map_append,List.map_append,List.length_map]
       rfl
   . rintro σ' H' ⟨v,rfl,rfl⟩
     have e:rs.take (ps.map V.ref).length=rs:=List.take_of_length_le (by rw[List.length_map,g.rows.1];exact Nat.le_refl _)
     rw[e]
     refine⟨D,_,rfl,.of qd,Nat.lt_of_le_of_lt g.good.few (by decide),?_⟩
     refine⟨_,rfl,_,_,rfl,rfl,_,rfl,?_⟩
     have:=g.good.few
     refine zh (λz=>absurd (of_decide_eq_true z) ?_) (λ_=>q _ (qh hD))
     show ¬(40:Int) < _
     omega
abbrev uq:List Str:=["rows","order","row"]
theorem XG:qz uq ["rows"] (qi YT):=⟨rfl,rfl,rfl,by decide+kernel,rfl,by decide+kernel,by decide+kernel⟩
structure yn (K:PySem.W.Frag) (mg:Str->Option Value):Prop where
 nm:∃f fd,jo K mg "is_name" JV ["thing"] f fd
 tn:∃f fd,jo K mg "is_tuple_of_names" zD ["thing"] f fd
 rw:∃f fd,jo K mg "is_row" Z6 ["thing"] f fd
 fo:∃f fd,jo K mg "need_form" Wy ["rows"] f fd
 ow:∃f fd,jo K mg "need_own_names" kq ["order"] f fd
 en:∃f fd,jo K mg "need_ends" Wz ["ends","order"] f fd
 fw:∃f fd,jo K mg "need_few_roads" kr ["rows"] f fd
theorem kG {f:Addr} {fd:FuncData} (F:jU K "need_rows" "need_rows" YT f fd) (B:Jj mg) (G:jR mg) (T:j2 K mg) (N:yn K mg):qo P w K mg base qZ 5 f fd ["rows"] Zh:=by
 obtain⟨fN,fdN,hN⟩:=N.nm
 obtain⟨fP,fdP,hP⟩:=N.tn
 obtain⟨fR,fdR,hR⟩:=N.rw
 obtain⟨fF,fdF,hF⟩:=N.fo
 obtain⟨fO,fdO,hO⟩:=N.ow
 obtain⟨fE,fdE,hE⟩:=N.en
 obtain⟨fW,fdW,hW⟩:=N.fw
 have GF:qo P w K mg base qZ 4 fF fdF ["rows"] Zh:=kH hF.fn B G T hN hP hR
 have GO:qo P w K mg base qZ 1 fO fdO ["order"] yC:=xy hO.fn
 have GE:qo P w K mg base qZ 1 fE fdE ["ends","order"] Uk:=kI hE.fn
 have GW:qo P w K mg base qZ 1 fW fdW ["rows"] Zh:=xA hW.fn B T
 refine F.okJ XG (λvs H Q E h=>?_) (λcdv A outer s H vs Q E hr h=>?_)
 . obtain⟨l,ps,rs,rfl,_⟩:=h
   rfl
 . obtain⟨l,ps,rs,rfl,g,q⟩:=h
   refine⟨_,qg (qJ (qX hF GF hr (by rfl) (qb (jv 0) qe)))
     (qg (J3 (i:=1) (N':=["row"]) (ix:=[none]) (te:=Xs (XN K) (jt 0) (tC (.int 0))) XG.nd rfl (Or.inl rfl) rfl ⟨rfl,rfl,rfl,rfl,rfl⟩ (jC (jv 0)) (λC s2 H2 fp pins=>
       ⟨qF (i:=0) (wm _) rfl (Or.inl rfl),j4,jg Qn (jv 0) qj (λ_ _=>rfl)⟩))
     (qg (qJ (qX hO GO (hr.mono (by decide)) (by rfl) (qb (jv 1) qe)))
     (qg (jJ PassesOwn.never rfl (jC (jv 0)) (qF (i:=2) XG.nd rfl (Or.inl rfl))
       (qk (qJ (qX hE GE (hr.mono (by decide)) (by rfl) (qb (jg Qn (jv 2) qj (λ_ _=>rfl)) (qb (jv 1) qe))))))
     (qk (qJ (qX hW GW (hr.mono (by decide)) (by rfl) (qb (jv 0) qe))))))),?_⟩
   refine⟨_,rfl,l,ps,rs,rfl,g,λH1 s1=>?_⟩
   have g1:=g.mono s1
   refine⟨_,rfl,l,rfl,⟨_,.of g1.at_⟩,λD hD=>?_⟩
   refine Qp (K:=K) (a:=l) (xs:=ps.map V.ref) (λi σ' H'=>∃v,σ'=[v]/\H'=upd H1 D (.lst (((rs.take i).map (·.1)).map V.str))) ⟨none,rfl,rfl⟩ (λi σ' H' _ ⟨_,_,e⟩=>e▸.of (qr g1.at_ hD)) ?_ ?_
   . rintro i x σ' H' hx ⟨v,rfl,rfl⟩
     obtain⟨p',q',r,rfl,er,hr',a,b⟩:=g1.rows.item hx
     have hi:=(List.getElem?_eq_some_iff.mp er).1
     refine⟨_,rfl,p',_,0,_,rfl,rfl,.of (qr a hD),rfl,_,qd,?_,_,rfl,?_⟩
     . rw[List.length_map,List.length_map,List.length_take]
       have:=g.le
       exact qw (by omega)
     . rw[jz,List.take_add_one,er,List.map_append,List.map_append]
       rfl
   . rintro σ' H' ⟨v,rfl,rfl⟩
     have e:rs.take (ps.map V.ref).length=rs:=List.take_of_length_le (by rw[List.length_map,g.rows.1];exact Nat.le_refl _)
     rw[e]
     refine⟨_,rfl,D,rs.map (·.1),rfl,qd,g.good.nd,by rw[List.length_map];have:=g.le;omega,λH2 s2=>?_⟩
     have sD:Same H1 H2:=(qh hD).trans s2
     have hD2:H2 D=some (.lst ((rs.map (·.1)).map V.str)):=s2 _ _ qd
     have g2:=g1.mono sD
     refine⟨_,rfl,l,rfl,⟨_,.of g2.at_⟩,?_⟩
     refine QJ (K:=K) (a:=l) (xs:=ps.map V.ref) (λi σ' H'=>∃v,σ'=[some (.ref l),some (.ref D),v]/\Same H2 H') ⟨none,rfl,Same.refl H2⟩ (λi σ' H' _ ⟨_,_,s⟩=>.of (s _ _ g2.at_)) ?_ ?_
     . rintro i x σ' H' hx ⟨v,rfl,s3⟩
       obtain⟨p',q',r,rfl,er,hr',a,b⟩:=(g2.mono s3).rows.item hx
       refine⟨_,rfl,p',_,1,_,rfl,rfl,.of a,rfl,_,rfl,q',D,r.2,rs.map (·.1),rfl,b,s3 _ _ hD2,g.good.rd r hr',g.good.to r hr',Nat.le_trans (g.good.len r hr') (by decide),λH4 s4=>⟨_,rfl,s3.trans s4⟩⟩
     . rintro σ' H' ⟨v,rfl,s3⟩
       exact⟨_,rfl,l,ps,rs,rfl,g2.mono s3,λH4 s4=>q H4 (((s1.trans sD).trans s3).trans s4)⟩
end
end Rh
set_option Elab.async false
set_option linter.all false
set_option maxRecDepth 100000
set_option maxHeartbeats 4000000
namespace Rh
open PySem L2 PyProof.Rows
abbrev XJ:Stmt:=QR (top 23) 0
abbrev JX:Stmt:=QR (top 23) 1
abbrev Z7:Stmt:=QR (top 23) 2
def Jx (rs:List (Str×List Str)) (r:Str×List Str):List Str:=(rs.map (·.1)).filter λz=>Xt (.str z) (r.2.map V.str)
def jS (CG:Addr) (H:Hp) (a:Addr) (rs:List (Str×List Str)):Prop:=∃(dx lo rd:Addr) (kvs:List (qP×V)),H a=some (.ins CG dx [("order",.ref lo),("roads",.ref rd)])/\H lo=some (.lst ((rs.map (·.1)).map V.str))/\H rd=some (.dK kvs)/\
 ∀r∈rs,∃q,jy kvs (Sum.inr r.1)=some (.ref q)/\H q=some (.lst ((Jx rs r).map V.str))
theorem jS.mono {CG:Addr} {H H':Hp} {a:Addr} {rs:List (Str×List Str)} (h:jS CG H a rs) (s:Same H H'):jS CG H' a rs:=by
 obtain⟨dx,lo,rd,kvs,h1,h2,h3,h4⟩:=h
 exact⟨dx,lo,rd,kvs,s _ _ h1,s _ _ h2,s _ _ h3,λr hr=>let ⟨q,a,b⟩:=h4 r hr;⟨q,a,s _ _ b⟩⟩
theorem jK.fr {H H':Hp} {l x C dx:Addr} {fs:List (Str×V)} {ps:List Addr} {rs:List (Str×List Str)} (h:jK H l ps rs) (hx:H x=some (.ins C dx fs)) (s:Fr H x H'):jK H' l ps rs:=by
 refine⟨s _ _ h.at_ (λe=>?_),⟨h.rows.1,λi p r e1 e2=>?_⟩,h.good,h.pos,h.le⟩
 . have:=h.at_
   rw[e,hx]at this
   cases this
 . obtain⟨q,a,b⟩:=h.rows.2 i p r e1 e2
   exact⟨q,s _ _ a (λe=>by rw[e,hx]at a;cases a),s _ _ b (λe=>by rw[e,hx]at b;cases b)⟩
structure u9 (K:PySem.W.Frag) (mg:Str->Option Value) (CG f:Addr) (fd:FuncData):Prop where
 cl:Wh K CG
 mkr:Mk K CG f
 ns:mg "Ground"=some (.ref CG)
 no:j1 K CG "order"
 nr:j1 K CG "roads"
 fn:jU K "__init__" "Ground.__init__" XJ f fd
 bi:jx K fd ["self","rows"] []
theorem nor:¬(Str.ofString "order")=Str.ofString "roads":=by decide+kernel
theorem KM (v:V):QL (Str.ofString "order") v []=[(Str.ofString "order",v)]:=rfl
theorem KL (v u:V):QL (Str.ofString "roads") u [(Str.ofString "order",v)]=[(Str.ofString "order",v),(Str.ofString "roads",u)]:=by
 unfold QL
 rw[if_neg nor]
 rfl
theorem lkO (v u:V):([(Str.ofString "order",v),(Str.ofString "roads",u)]:List (Str×V)).lookup (Str.ofString "order")=some v:=by simp [List.lookup]
theorem KU (v u:V):([(Str.ofString "order",v),(Str.ofString "roads",u)]:List (Str×V)).lookup (Str.ofString "roads")=some u:=by
 have e:((Str.ofString "roads")==(Str.ofString "order"))=false:=by decide+kernel
 simp [List.lookup,e]
def Yb (CG:Addr):Sp:=λvs H Q _=>∃(x dx l:Addr) (ps:List Addr) (rs:List (Str×List Str)),vs=[.ref x,.ref l]/\jK H l ps rs/\H x=some (.ins CG dx [])/\∀H',jS CG H' x rs->Fr H x H'->Q .non H'
def Z0 (CG:Addr):Sp:=λvs H Q _=>∃(a:Addr) (rs:List (Str×List Str)),vs=[.ref a]/\jS CG H a rs/\∀l,H l=none->Q (.ref l) (upd H l (.lst ((rs.map (·.1)).map V.str)))
def Wv (CG:Addr):Sp:=λvs H Q _=>∃(a:Addr) (rs:List (Str×List Str)) (r:Str×List Str),vs=[.ref a,.str r.1]/\jS CG H a rs/\r∈rs/\qK r.1=true/\∀H1 l,Same H H1->H1 l=none->Q (.ref l) (upd H1 l (.lst ((Jx rs r).map V.str)))
section
variable {P:Program} {w:World} {K:PySem.W.Frag} {mg:Str->Option Value} {base:Heap}
abbrev nGI:List Str:=["self","rows","row"]
theorem wU:qz nGI ["self","rows"] (qi XJ):=⟨rfl,rfl,rfl,by decide+kernel,rfl,by decide+kernel,by decide+kernel⟩
theorem UZ {f fW CG:Addr} {fd fdW:FuncData} (C:u9 K mg CG f fd) (B:Jj mg) (G:jR mg) (T:j2 K mg) (N:yn K mg) (hW:jo K mg "need_rows" YT ["rows"] fW fdW):qo P w K mg base qZ 6 f fd ["self","rows"] (Yb CG):=by
 have GW:qo P w K mg base qZ 5 fW fdW ["rows"] Zh:=kG hW.fn B G T N
 refine C.fn.okJ wU (λvs H Q E h=>?_) (λcdv A outer s H vs Q E hr h=>?_)
 . obtain⟨x,dx,l,ps,rs,rfl,_⟩:=h
   rfl
 . obtain⟨x,dx,l,ps,rs,rfl,g,hx,q⟩:=h
   have hu:=zP hr
   refine⟨_,qg (qJ (qX hW GW hr (by rfl) (qb (jv 1) qe)))
     (qg (U9 (jv 0) (ZA (N':=["row"]) (ix:=[none]) (te:=Xs (XN K) (jt 0) (tC (.int 0))) rfl ⟨rfl,rfl,rfl,rfl,rfl⟩ (jC (jv 1)) (λC s2 H2 fp pins=>
       ⟨qF (i:=0) (wm _) rfl (Or.inl rfl),j4,jg Qn (jv 0) qj (λ_ _=>rfl)⟩)) rfl)
     (qg (U9 (jv 0) Jh rfl)
     (qk (jJ PassesOwn.never rfl (jC (jv 1)) (qF (i:=2) wU.nd rfl (Or.inr rfl))
       (qk (j5 hu (zg (jv 0) rfl) (jg Qn (jv 2) qj (λ_ _=>rfl))
         (ZA (N':=["name","row"]) (ix:=[none,some 2]) (tt:=Wl (Xs (KH K false) (jt 0) (Xs (XN K) (jt 1) (tC (.int 1))))) rfl ⟨rfl,rfl,rfl,rfl,rfl⟩ (jC (zg (jv 0) rfl)) (λC s2 H2 fp pins=>
           ⟨qF (i:=0) (show (["name","row"]:List Str).Nodup by decide+kernel) rfl (Or.inl rfl),WM (qt zF (jv 0) (jg Qn (jv 1) qj (λ_ _=>rfl)) (by with_unfolding_all rfl)),jv 0⟩)) rfl)))))),?_⟩
   refine⟨_,rfl,l,ps,rs,rfl,g,λH1 s1=>?_⟩
   have g1:=g.mono s1
   have fr1:Fr H x H1:=λb u h _=>s1 _ _ h
   have hx1:=s1 _ _ hx
   refine⟨_,rfl,l,rfl,⟨_,.of g1.at_⟩,λlo hlo=>?_⟩
   have nlx:lo≠x:=λe=>by rw[e,hx1]at hlo;cases hlo
   refine Qp (K:=K) (a:=l) (xs:=ps.map V.ref) (λi σ' H'=>∃v,σ'=[v]/\H'=upd H1 lo (.lst (((rs.take i).map (·.1)).map V.str))) ⟨none,rfl,rfl⟩ (λi σ' H' _ ⟨_,_,e⟩=>e▸.of (qr g1.at_ hlo)) ?_ ?_
   . rintro i y σ' H' hy ⟨v,rfl,rfl⟩
     obtain⟨p',q',r,rfl,er,hr',a,b⟩:=g1.rows.item hy
     have hi:=(List.getElem?_eq_some_iff.mp er).1
     refine⟨_,rfl,p',_,0,_,rfl,rfl,.of (qr a hlo),rfl,_,qd,?_,_,rfl,?_⟩
     . rw[List.length_map,List.length_map,List.length_take]
       have:=g.le
       exact qw (by omega)
     . rw[jz,List.take_add_one,er,List.map_append,List.map_append]
       rfl
   rintro σ' H' ⟨v,rfl,rfl⟩
   have e:rs.take (ps.map V.ref).length=rs:=List.take_of_length_le (by rw[List.length_map,g.rows.1];exact Nat.le_refl _)
   rw[e]
   have fr2:Fr H x (upd H1 lo (.lst ((rs.map (·.1)).map V.str))):=fr1.new hlo
   have hlo2:upd H1 lo (.lst ((rs.map (·.1)).map V.str)) lo=some (.lst ((rs.map (·.1)).map V.str)):=qd
   have hx2:upd H1 lo (.lst ((rs.map (·.1)).map V.str)) x=some (.ins CG dx []):=qr hx1 hlo
   generalize upd H1 lo (.lst ((rs.map (·.1)).map V.str))=H2 at fr2 hlo2 hx2
   refine⟨_,rfl,x,CG,dx,[],rfl,hx2,C.cl,C.no,by decide,?_⟩
   rw[KM]
   intro rd hrd
   have nrx:rd≠x:=λe=>by rw[e,qd]at hrd;cases hrd
   have hrd2:H2 rd=none:=by rw[qf nrx]at hrd;exact hrd
   have nrl:rd≠lo:=λe=>by rw[e,hlo2]at hrd2;cases hrd2
   have hHr:H rd=none:=fr2.fresh hx2 hrd2
   refine⟨_,rfl,x,CG,dx,_,rfl,qr qd hrd,C.cl,C.nr,by show 1 < 1000;decide,?_⟩
   rw[KL]
   have fr5:Fr H x (upd (upd (upd H2 x (.ins CG dx [("order",.ref lo)])) rd (.dK [])) x (.ins CG dx [("order",.ref lo),("roads",.ref rd)])):=((fr2.at_d).own hHr).at_d
   have g5:=g.fr hx fr5
   refine⟨_,rfl,l,rfl,⟨_,.of g5.at_⟩,?_⟩
   refine QJ (K:=K) (a:=l) (xs:=ps.map V.ref) (λi σ' H'=>∃v kvs,σ'=[some (.ref x),some (.ref l),v]/\H' x=some (.ins CG dx [("order",.ref lo),("roads",.ref rd)])/\H' lo=some (.lst ((rs.map (·.1)).map V.str))/\H' rd=some (.dK kvs)/\
     kvs.map (·.1)=((rs.map (·.1)).take i).map Sum.inr/\(∀r∈rs.take i,∃q,jy kvs (Sum.inr r.1)=some (.ref q)/\H' q=some (.lst ((Jx rs r).map V.str)))/\Fr H x H')
     ⟨none,[],rfl,qd,?_,?_,rfl,λr h=>(nomatch h),fr5⟩ (λi σ' H' _ ⟨_,_,_,_,_,_,_,_,fr⟩=>.of (g.fr hx fr).at_) ?_ ?_
   . rw[qf nlx,qf (Ne.symm nrl),qf nlx]
     exact hlo2
   . rw[qf nrx]
     exact qd
   . rintro i y σ' H' hy ⟨v,kvs,rfl,hx',hlo',hrd',ek,hv,fr⟩
     have g':=g.fr hx fr
     obtain⟨p,qq,r,rfl,er,hr',a,b⟩:=g'.rows.item hy
     have hi:=(List.getElem?_eq_some_iff.mp er).1
     have hle:=g.le
     refine⟨_,rfl,x,CG,dx,_,_,rfl,hx',C.cl,C.no,lkO _ _,lo,rfl,⟨_,.of hlo'⟩,λD hD=>?_⟩
     refine Qp (K:=K) (a:=lo) (xs:=(rs.map (·.1)).map V.str) (λj σ'' H''=>∃v0,σ''=[v0,some (.ref p)]/\H''=upd H' D (.lst ((((rs.map (·.1)).take j).filter λz=>Xt (.str z) (r.2.map V.str)).map V.str))) ⟨none,rfl,rfl⟩
       (λj σ'' H'' _ ⟨_,_,e⟩=>e▸.of (qr hlo' hD)) ?_ ?_
     . rintro j y σ'' H'' hy ⟨v0,rfl,rfl⟩
       rw[List.getElem?_map]at hy
       cases e:(rs.map (·.1))[j]? with
       | none=>rw[e]at hy;cases hy
       | some z=>
         rw[e]at hy
         obtain rfl:=(Option.some.inj hy).symm
         refine⟨_,rfl,_,rfl,p,_,1,_,rfl,rfl,.of (qr a hD),rfl,qq,_,rfl,.inr (.of (qr b hD)),rfl,Zs _,_,rfl,?_⟩
         have et:((rs.map (·.1)).take (j+1)).filter (λz=>Xt (.str z) (r.2.map V.str))=((rs.map (·.1)).take j).filter (λz=>Xt (.str z) (r.2.map V.str))++if Xt (.str z) (r.2.map V.str)=true then [z] else []:=by
           rw[List.take_add_one,e,List.filter_append]
           congr 1
           cases ei:Xt (.str z) (r.2.map V.str)
           . simp [ei]
           . simp [ei]
         rw[et]
         show if Xt (.str z) (r.2.map V.str)=true then _ else _
         cases ei:Xt (.str z) (r.2.map V.str) with
         | true=>
           refine Qq ⟨_,rfl,_,qd,?_,_,rfl,?_⟩
           . rw[List.length_map]
             refine qw (Nat.le_trans (List.length_filter_le _ _) ?_)
             rw[List.length_take,List.length_map]
             omega
           . rw[jz,if_pos rfl,List.map_append]
             rfl
         | false=>
           refine jT ⟨_,rfl,?_⟩
           rw[if_neg Bool.false_ne_true,List.append_nil]
     . rintro σ'' H'' ⟨v0,rfl,rfl⟩
       have ed:((rs.map (·.1)).take ((rs.map (·.1)).map V.str).length).filter (λz=>Xt (.str z) (r.2.map V.str))=Jx rs r:=by
         rw[List.length_map,List.take_of_length_le (Nat.le_refl _)]
         rfl
       rw[ed]
       have nD:∀{c:Addr} {o:HO},H' c=some o->c≠D:=λh e=>by rw[e,hD]at h;cases h
       have en:(rs.map (·.1))[i]?=some r.1:=by rw[List.getElem?_map,er];rfl
       have ez:jy kvs (Sum.inr r.1:qP)=none:=ZW (by rw[ek];exact Zl g.good.nd en)
       have lk:kvs.length < sizeLine:=by
         have:=congrArg List.length ek
         rw[List.length_map,List.length_map,List.length_take,List.length_map]at this
         exact qw (by omega)
       refine⟨_,rfl,x,CG,dx,_,_,rfl,qr hx' hD,C.cl,C.nr,KU _ _,_,rfl,p,_,0,_,rfl,rfl,.of (qr a hD),rfl,rd,_,rfl,Zb.k (k:=(Sum.inr r.1:qP)) (qr hrd' hD) lk,?_⟩
       refine⟨_,jE kvs (Sum.inr r.1) (.ref D),rfl,?_,?_,qd,?_,λr' hr2=>?_,?_⟩
       . rw[qf (Ne.symm nrx)];exact qr hx' hD
       . rw[qf (Ne.symm nrl)];exact qr hlo' hD
       . rw[Yi _ ez,ek,List.take_add_one,en,List.map_append]
         rfl
       . rw[List.take_add_one,er]at hr2
         rcases List.mem_append.mp hr2 with h | h
         . obtain⟨q1,a1,b1⟩:=hv r' h
           refine⟨q1,?_,?_⟩
           . rw[YJ,if_neg]
             . exact a1
             . intro z
               rw[z,ez]at a1
               cases a1
           . have n1:q1≠rd:=λe=>by rw[e,hrd']at b1;cases b1
             rw[qf n1]
             exact qr b1 hD
         . have er':r'=r:=by simpa using h
           subst er'
           refine⟨D,?_,?_⟩
           . rw[YJ,if_pos rfl]
           . rw[qf (Ne.symm (nD hrd'))]
             exact qd
       . exact(fr.new hD).own hHr
   . rintro σ' H' ⟨v,kvs,rfl,hx',hlo',hrd',ek,hv,fr⟩
     have e:rs.take (ps.map V.ref).length=rs:=List.take_of_length_le (by rw[List.length_map,g.rows.1];exact Nat.le_refl _)
     rw[e]at hv
     exact q H' ⟨dx,lo,rd,kvs,hx',hlo',hrd',hv⟩ fr
theorem KA:qz ["self"] ["self"] (qi JX):=⟨rfl,rfl,rfl,by decide+kernel,rfl,by decide+kernel,by decide+kernel⟩
theorem zI {f fI CG:Addr} {fd fdI:FuncData} (F:jU K "names" "Ground.names" JX f fd) (C:u9 K mg CG fI fdI) (G:jR mg):qo P w K mg base qZ 1 f fd ["self"] (Z0 CG):=by
 refine F.okJ KA (λvs H Q E h=>?_) (λcdv A outer s H vs Q E hr h=>?_)
 . obtain⟨a,rs,rfl,_⟩:=h
   rfl
 . obtain⟨a,rs,rfl,⟨dx,lo,rd,kvs,h1,h2,h3,h4⟩,q⟩:=h
   refine⟨_,qk (qM (jp jQ (by rfl) G.lst boot_list (qb (zg (jv 0) rfl) qe))),?_⟩
   exact⟨_,rfl,a,CG,dx,_,_,rfl,h1,C.cl,C.no,lkO _ _,lo,_,rfl,.inl (.of h2),q⟩
abbrev KR:List Str:=["self","name"]
theorem KB:qz KR KR (qi Z7):=⟨rfl,rfl,rfl,by decide+kernel,rfl,by decide+kernel,by decide+kernel⟩
theorem U0 {f fI fN CG:Addr} {fd fdI fdN:FuncData} (F:jU K "roads_from" "Ground.roads_from" Z7 f fd) (C:u9 K mg CG fI fdI) (B:Jj mg) (G:jR mg) (T:j2 K mg) (hN:jo K mg "is_name" JV ["thing"] fN fdN):qo P w K mg base qZ 2 f fd KR (Wv CG):=by
 have GN:qo P w K mg base qZ 1 fN fdN ["thing"] ke:=Yl hN.fn B T
 refine F.okJ KB (λvs H Q E h=>?_) (λcdv A outer s H vs Q E hr h=>?_)
 . obtain⟨a,rs,r,rfl,_⟩:=h
   rfl
 . obtain⟨a,rs,r,rfl,gr,hr',hn,q⟩:=h
   have hu:=zP hr
   refine⟨_,qg (qL (Q0 (jP (ju (qX hN GN hr (by rfl) (qb (jv 1) qe)))) (Qm (X3 (VM hu (jv 1) (zg (jv 0) rfl))))).pt qE qC)
     (qk (qM (jp jQ (by rfl) G.lst boot_list (qb (Qr hu (zg (jv 0) rfl) (jv 1) (λ_ _=>rfl)) qe)))),?_⟩
   refine⟨_,rfl,r.1,rfl,hn,λH1 s1=>⟨_,rfl,jT ?_⟩⟩
   obtain⟨dx,lo,rd,kvs,h1,h2,h3,h4⟩:=gr.mono s1
   obtain⟨qq,hv,hq⟩:=h4 r hr'
   have gz:Qy H1 rd (.str r.1) (some (.ref qq)):=by
     have:=Qy.k (k:=(Sum.inr r.1:qP)) h3
     rw[hv]at this
     exact this
   refine⟨_,rfl,_,rfl,a,CG,dx,_,_,rfl,h1,C.cl,C.nr,KU _ _,rd,_,rfl,gz,_,rfl,jT ?_⟩
   exact⟨_,rfl,a,CG,dx,_,_,rfl,h1,C.cl,C.nr,KU _ _,_,rfl,rd,_,rfl,gz,qq,_,rfl,.inl (.of hq),λl hl=>q H1 l s1 hl⟩
end
end Rh
set_option Elab.async false
set_option linter.all false
set_option maxRecDepth 100000
set_option maxHeartbeats 4000000
namespace Rh
open PySem L2 PyProof.Rows
abbrev Q1:=List (Str×List Str)
def uL (rs:Q1) (z:Str):List Str:=match rs.find? (λr=>decide (r.1=z)) with
 | some r=>Jx rs r
 | none=>[]
theorem Xc:∀{rs:Q1} {r:Str×List Str},(rs.map (·.1)).Nodup->r∈rs->rs.find? (λq=>decide (q.1=r.1))=some r
 | a::rs,r,hn,h=>by
   rw[List.map_cons,List.nodup_cons]at hn
   rcases List.mem_cons.mp h with rfl | h
   . simp [List.find?_cons]
   . have:¬a.1=r.1:=λe=>hn.1 (e▸List.mem_map.mpr ⟨r,h,rfl⟩)
     simp only[List.find?_cons,decide_eq_false this]
     exact Xc hn.2 h
theorem Ys {rs:Q1} {r:Str×List Str} (hn:(rs.map (·.1)).Nodup) (h:r∈rs):uL rs r.1=Jx rs r:=by
 unfold uL
 rw[Xc hn h]
theorem Uy {rs:Q1} {r:Str×List Str} {y:Str} (h:y∈Jx rs r):∃r'∈rs,r'.1=y:=by
 obtain⟨r',h1,h2⟩:=List.mem_map.mp (List.mem_filter.mp h).1
 exact⟨r',h1,h2⟩
structure wq (K:PySem.W.Frag) (C:Addr) (m qual:Str) (st:Stmt) (ps:List Str) (f:Addr) (fd:FuncData):Prop where
 fn:jU K m qual st f fd
 me:V6 K C m f
 bi:jx K fd ps []
theorem yN {X:Cx} {C f:Addr} {fd:FuncData} {m qual:Str} {st:Stmt} {ps:List Str} {k:Nat} {sp:Sp} {o:Expr} {ta:TE} {apos pos:Pos} {pl:Sem Bool} (h:wq X.K C m qual st ps f fd) (c:Wh X.K C) (G:qo X.prog X.w X.K X.mg X.base qZ k f fd ps sp) (hr:qS k X.A) (he:JE X o ta)
   (ht:eval (.Call (.Attribute o m apos) [] [] pos) X.env=(do
     let ov <-eval o X.env
     standAt apos.atName
     let (f,first) <-holding [ov] (getMethod ov m pl)
     callWith pos f first (backTo pos (starEach [] X.env)) (backToKw pos (keywordEach [] X.env))):=by rfl):
   JE X (.Call (.Attribute o m apos) [] [] pos) (zC C m sp [] E0 ta QB):=vd he c h.me G hr h.bi .nil Js ht
theorem uD {X:Cx} {C f:Addr} {fd:FuncData} {m qual:Str} {st:Stmt} {ps:List Str} {k:Nat} {sp:Sp} {o e:Expr} {es:List Expr} {ta:TE} {t:TA} {apos pos:Pos} {pl:Sem Bool} (h:wq X.K C m qual st ps f fd) (c:Wh X.K C) (G:qo X.prog X.w X.K X.mg X.base qZ k f fd ps sp) (hr:qS k X.A) (he:JE X o ta) (ha:JA X (e::es) t)
   (hst:starEach (e::es) X.env=(false,eval e X.env)::starEach es X.env:=by rfl) (hpl:(backTo pos (starEach es X.env)).any (·.1)=false:=by rfl)
   (ht:eval (.Call (.Attribute o m apos) (e::es) [] pos) X.env=(do
     let ov <-eval o X.env
     standAt apos.atName
     let (f,first) <-holding [ov] (getMethod ov m pl)
     callWith pos f first (backTo pos (starEach (e::es) X.env)) (backToKw pos (keywordEach [] X.env))):=by rfl):
   JE X (.Call (.Attribute o m apos) (e::es) [] pos) (zC C m sp [] E0 ta t):=kW he c h.me G hr h.bi .nil Js ha hst hpl ht
structure GM (K:PySem.W.Frag) (mg:Str->Option Value) (CG:Addr):Prop where
 cls:∃f fd,u9 K mg CG f fd
 nm:∃f fd,wq K CG "names" "Ground.names" JX ["self"] f fd
 fr:∃f fd,wq K CG "roads_from" "Ground.roads_from" Z7 ["self","name"] f fd
 isn:∃f fd,jo K mg "is_name" JV ["thing"] f fd
theorem jS.ins {CG:Addr} {H:Hp} {a:Addr} {rs:Q1} (h:jS CG H a rs):∃dx fs,H a=some (.ins CG dx fs)/\fs.lookup (Str.ofString "names")=none/\fs.lookup (Str.ofString "roads_from")=none:=by
 obtain⟨dx,lo,rd,kvs,h1,_⟩:=h
 refine⟨dx,_,h1,?_,?_⟩
 . have e1:((Str.ofString "names")==(Str.ofString "order"))=false:=by decide+kernel
   have e2:((Str.ofString "names")==(Str.ofString "roads"))=false:=by decide+kernel
   simp only[List.lookup]
   rw[e1,e2]
 . have e1:((Str.ofString "roads_from")==(Str.ofString "order"))=false:=by decide+kernel
   have e2:((Str.ofString "roads_from")==(Str.ofString "roads"))=false:=by decide+kernel
   simp only[List.lookup]
   rw[e1,e2]
theorem ZJ {zs:List Str} {i:Nat} {y:V} (h:(zs.map V.str)[i]?=some y):∃z,zs[i]?=some z/\z∈zs/\y=.str z:=by
 rw[List.getElem?_map]at h
 cases e:zs[i]? with
 | none=>rw[e]at h;cases h
 | some z=>rw[e]at h;exact⟨z,rfl,List.mem_of_getElem? e,(Option.some.inj h).symm⟩
theorem XM {rs:Q1} (r:Str×List Str):(Jx rs r).length<=rs.length:=by
 have:=List.length_filter_le (λz=>Xt (.str z) (r.2.map V.str)) (rs.map (·.1))
 rwa [List.length_map]at this
theorem qv {c:Bool} {A B:Prop} (hc:c=false) (h:B):if c=true then A else B:=by
 rw[hc]
 exact jT h
theorem qR {c:Bool} {A B:Prop} (hc:c=true) (h:A):if c=true then A else B:=by
 rw[if_pos hc]
 exact h
abbrev j3:Stmt:=QR (top 7) 0
structure zw (K:PySem.W.Frag) (mg:Str->Option Value) (D:Addr) (x qual:Str) (st:Stmt) (fld:Str) (C f:Addr) (fd:FuncData):Prop where
 cls:Zv K C (.ref D::qV)
 mkr:uW K C f (.ref D::qV)
 ns:mg x=some (.ref C)
 na:j1 K C fld
 fn:jU K "__init__" qual st f fd
 bi:jx K fd ["self",fld] []
theorem kB (D:Addr):XQ (.ref D::qV):=rfl
theorem VH (D:Addr):(Value.ref D::qV).contains (.type "BaseException")=true:=rfl
theorem zw.rcls {K:PySem.W.Frag} {mg:Str->Option Value} {D C f:Addr} {x qual fld:Str} {st:Stmt} {fd:FuncData} (h:zw K mg D x qual st fld C f fd):V4 K C:=⟨f,_,h.mkr,VH D⟩
def kh (C:Addr) (fld:Str):Sp:=λvs H Q _=>∃e y,vs=[.ref e,y]/\H e=some (Zt e C)/\∀dx,H dx=none->Q .non (upd (upd H e (Qu e C dx)) dx (.xd [(fld,y)]))
theorem jF {H:Hp} {e dx C:Addr} {fs:List (Str×V)} (h1:H e=none) (h2:upd H e (Zt e C) dx=none):
   Same H (upd (upd (upd H e (Zt e C)) e (Qu e C dx)) dx (.xd fs))/\upd (upd (upd H e (Zt e C)) e (Qu e C dx)) dx (.xd fs) e=some (Qu e C dx)/\upd (upd (upd H e (Zt e C)) e (Qu e C dx)) dx (.xd fs) dx=some (.xd fs):=by
 have ne:e≠dx:=λz=>by rw[<-z,qd]at h2;cases h2
 refine⟨λb o hb=>?_,?_,qd⟩
 . have b1:b≠e:=ql hb h1
   have b2:b≠dx:=λz=>by rw[<-z,qf b1,hb]at h2;cases h2
   rw[qf b2,qf b1,qf b1];exact hb
 . rw[qf ne];exact qd
def jw (H H':Hp):Prop:=∀b o,H b=some o->(∀φ,o≠.ext φ)->H' b=some o
theorem _root_.L2.Same.keep {H H':Hp} (s:Same H H'):jw H H':=λb o h _=>s b o h
theorem jw.trans {H H' H'':Hp} (a:jw H H') (b:jw H' H''):jw H H'':=λc o h n=>b c o (a c o h n) n
theorem jw.refl (H:Hp):jw H H:=λ_ _ h _=>h
theorem _root_.L2.SqT.keep {K:PySem.W.Frag} {H H':Hp} {p:Addr} {xs:List V} (h:SqT K H p xs) (s:jw H H'):SqT K H' p xs:=by
 rcases h with (h | ⟨o,h⟩) | h
 . exact .inl (.inl (s _ _ h (λ_ z=>nomatch z)))
 . exact .inl (.inr ⟨o,s _ _ h (λ_ z=>nomatch z)⟩)
 . exact .inr h
theorem _root_.L2.SqL.keep {K:PySem.W.Frag} {H H':Hp} {p:Addr} {xs:List V} (h:SqL K H p xs) (s:jw H H'):SqL K H' p xs:=by
 rcases h with (h | ⟨o,h⟩) | h
 . exact .inl (.inl (s _ _ h (λ_ z=>nomatch z)))
 . exact .inl (.inr ⟨o,s _ _ h (λ_ z=>nomatch z)⟩)
 . exact .inr h
theorem jS.keep {CG:Addr} {H H':Hp} {a:Addr} {rs:Q1} (h:jS CG H a rs) (s:jw H H'):jS CG H' a rs:=by
 obtain⟨dx,lo,rd,kvs,h1,h2,h3,h4⟩:=h
 exact⟨dx,lo,rd,kvs,s _ _ h1 (λ_ z=>nomatch z),s _ _ h2 (λ_ z=>nomatch z),s _ _ h3 (λ_ z=>nomatch z),λr hr=>let ⟨q,a,b⟩:=h4 r hr;⟨q,a,s _ _ b (λ_ z=>nomatch z)⟩⟩
theorem ji.keep {H H':Hp} {ps:List Addr} {rs:Q1} (h:ji H ps rs) (s:jw H H'):ji H' ps rs:=⟨h.1,λi p r e1 e2=>let ⟨q,a,b⟩:=h.2 i p r e1 e2;⟨q,s _ _ a (λ_ z=>nomatch z),s _ _ b (λ_ z=>nomatch z)⟩⟩
theorem TyOf.keep {K:PySem.W.Frag} {H H':Hp} {v:V} {t:Value} (h:TyOf K H v t) (s:jw H H'):TyOf K H' v t:=by
 cases h with
 | non=>exact .non
 | bl x=>exact .bl x
 | int i=>exact .int i
 | str x=>exact .str x
 | flt x=>exact .flt x
 | lst e=>exact .lst (s _ _ e (λ_ z=>nomatch z))
 | frz e=>exact .frz (s _ _ e (λ_ z=>nomatch z))
 | tup e=>exact .tup (s _ _ e (λ_ z=>nomatch z))
 | dK e=>exact .dK (s _ _ e (λ_ z=>nomatch z))
 | dT e=>exact .dT (s _ _ e (λ_ z=>nomatch z))
 | ins e a b c d f=>exact .ins (s _ _ e (λ_ z=>nomatch z)) a b c d f
mutual
theorem ZV {K:PySem.W.Frag} {H H':Hp} (s:jw H H'):∀{x:V} {d:PyData},DV K H x d->DV K H' x d
 | _,_,.non=>.non
 | _,_,.bl b=>.bl b
 | _,_,.int i=>.int i
 | _,_,.str x=>.str x
 | _,_,.lst h hs=>.lst (h.keep s) (dvs_keep s hs)
 | _,_,.tup h hs=>.tup (h.keep s) (dvs_keep s hs)
theorem dvs_keep {K:PySem.W.Frag} {H H':Hp} (s:jw H H'):∀{x:List V} {d:List PyData},DVs K H x d->DVs K H' x d
 | _,_,.nil=>.nil
 | _,_,.cons h hs=>.cons (ZV s h) (dvs_keep s hs)
end
structure KitE (K:PySem.W.Frag) (mg:Str->Option Value) (D CP CH:Addr):Prop where
 nD:mg "HeapError"=some (.ref D)
 nH:mg "NoHeap"=some (.ref CH)
 k1:PySem.W.kitOne K (.ref CP) (.ref D)=some true
 k2:PySem.W.kitOne K (.ref CP) (.ref CH)=some false
 spc:PySem.W.specialIn K (.builtin "object.__class__") "__get__"=some (some (.builtin "getset_descriptor.__get__"))
 tks:PySem.W.takesIn K (.builtin "object.__class__")=some true
 rep:mg "repr"=none
theorem uF {X:Cx} {x:Str} {st:Stmt} {ps:List Str} {f:Addr} {fd:FuncData} {k:Nat} {sp:Sp} {E:L2.St->XK} {e:Expr} {es:List Expr} {t:TA} {p pos:Pos} (h:jo X.K X.mg x st ps f fd) (G:qo X.prog X.w X.K X.mg X.base (jN X.prog X.w) k f fd ps sp) (hr:qS k X.A) (hx:QX (jN X.prog X.w) X E)
   (hg:Gl X x) (ha:JA X (e::es) t) (hdb:(x==("__debug__":Str))=false:=by decide) (he:starEach (e::es) X.env=(false,eval e X.env)::starEach es X.env:=by rfl) (hpl:(backTo pos (starEach es X.env)).any (·.1)=false:=by rfl):
   JE X (.Call (.Name x p) (e::es) [] pos) (Uf sp [] E t):=.of (UM G hr hg h.ns h.fn.kp h.bi .nil hx ha.to hdb he hpl)
theorem QN {z:Str} (h:qK z=true):(∀c∈z.cps.toList,c<=122)/\z.length<=8/\1<=z.length:=by
 unfold qK at h
 simp only[Bool.and_eq_true,decide_eq_true_eq]at h
 refine⟨λc hc=>?_,h.1.2,h.1.1⟩
 have:=List.all_eq_true.mp h.2 c hc
 unfold jq at this
 simp only[Bool.and_eq_true,decide_eq_true_eq]at this
 exact this.2
theorem Yn {z:Str} (h:qK z=true):PyData.strOk z=true:=by
 unfold PyData.strOk
 rw[Array.all_eq_true_iff_forall_mem]
 intro c hc
 have:=(QN h).1 c (by simpa using hc)
 exact decide_eq_true (by omega)
def dL (zs:List Str):PyData:=.list (zs.map PyData.str)
theorem Xq {K:PySem.W.Frag} {H:Hp}:∀zs:List Str,DVs K H (zs.map V.str) (zs.map PyData.str)
 | []=>.nil
 | z::zs=>.cons (.str z) (Xq zs)
theorem uY {K:PySem.W.Frag} {H:Hp} {p:Addr} {zs:List Str} (h:H p=some (.lst (zs.map V.str))):DV K H (.ref p) (dL zs):=.lst (.of h) (Xq zs)
theorem vD:∀{zs:List Str},(∀z∈zs,qK z=true)->PyData.canLayAll0 (zs.map PyData.str)=true
 | [],_=>rfl
 | z::zs,h=>by
   rw[List.map_cons,PyData.canLayAll0,vD λy hy=>h y (List.mem_cons_of_mem _ hy),Bool.and_true]
   exact Yn (h z List.mem_cons_self)
theorem x6:∀zs:List Str,PyData.depthAll (zs.map PyData.str)=0
 | []=>rfl
 | z::zs=>by
   rw[List.map_cons]
   simp only[PyData.depthAll,PyData.depth,x6 zs]
   rfl
theorem shL {zs:List Str} (h:∀z∈zs,qK z=true):PySem.SeqAt.shaped (dL zs)=true:=by
 unfold PySem.SeqAt.shaped
 rw[Bool.and_eq_true]
 refine⟨vD h,decide_eq_true ?_⟩
 unfold dL
 simp only[PyData.depth,x6 zs]
 decide
end Rh
set_option Elab.async false
set_option linter.all false
set_option maxRecDepth 100000
set_option maxHeartbeats 4000000
namespace Rh
open PySem L2 PyProof.Rows
abbrev Yf:Stmt:=top 11
abbrev jI:Stmt:=top 24
abbrev jY:Stmt:=top 27
abbrev j7:Stmt:=top 28
abbrev Z3:Stmt:=top 29
abbrev ZM:Stmt:=top 30
abbrev yG:Stmt:=top 31
abbrev Zi:Stmt:=top 32
def Kh (rs:Q1) (j:Nat) (z:Str):List (Nat×Str):=(uL rs z).map λe=>(j,e)
def QF (rs:Q1) (hs:List Str) (n:Nat):List (Nat×Str):=(List.range n).flatMap λj=>Kh rs j (zt hs j)
theorem Y3 (rs:Q1) (hs:List Str) (n:Nat):QF rs hs (n+1)=QF rs hs n++Kh rs n (zt hs n):=by
 unfold QF
 rw[List.range_succ,List.flatMap_append]
 simp
def uw (m:Nat×Str):List V:=[.int (m.1:Int),.str m.2]
def Qe (H:Hp) (ps:List Addr) (ms:List (Nat×Str)):Prop:=ps.length=ms.length/\∀(i:Nat) (p:Addr) (m:Nat×Str),ps[i]?=some p->ms[i]?=some m->H p=some (.tup (uw m))
theorem Qe.mono {H H':Hp} {ps:List Addr} {ms:List (Nat×Str)} (h:Qe H ps ms) (s:Same H H'):Qe H' ps ms:=⟨h.1,λi p m e1 e2=>s _ _ (h.2 i p m e1 e2)⟩
theorem Qe.nil (H:Hp):Qe H [] []:=⟨rfl,λi p m e=>by simp at e⟩
theorem Qe.app {H:Hp} {ps qs:List Addr} {ms ns:List (Nat×Str)} (h:Qe H ps ms) (k:Qe H qs ns):Qe H (ps++qs) (ms++ns):=by
 refine⟨by rw[List.length_append,List.length_append,h.1,k.1],λi p m e1 e2=>?_⟩
 by_cases hi:i < ps.length
 . rw[List.getElem?_append_left hi]at e1
   rw[List.getElem?_append_left (by rw[<-h.1];exact hi)]at e2
   exact h.2 i p m e1 e2
 . have hi':ps.length<=i:=Nat.le_of_not_lt hi
   rw[List.getElem?_append_right hi']at e1
   rw[List.getElem?_append_right (by rw[<-h.1];exact hi'),<-h.1]at e2
   exact k.2 _ p m e1 e2
theorem Qe.one {H:Hp} {p:Addr} {m:Nat×Str} (h:H p=some (.tup (uw m))):Qe H [p] [m]:=by
 refine⟨rfl,λi p' m' e1 e2=>?_⟩
 cases i with
 | zero=>cases e1;cases e2;exact h
 | succ i=>simp at e1
structure jn (H:Hp) (h:Addr) (rs:Q1) (hs:List Str):Prop where
 at_:H h=some (.lst (hs.map V.str))
 le:hs.length<=8
 in_:∀z∈hs,∃r∈rs,r.1=z
theorem jn.mono {H H':Hp} {h:Addr} {rs:Q1} {hs:List Str} (x:jn H h rs hs) (s:Same H H'):jn H' h rs hs:=⟨s _ _ x.at_,x.le,x.in_⟩
theorem jn.keep {H H':Hp} {h:Addr} {rs:Q1} {hs:List Str} (x:jn H h rs hs) (s:jw H H'):jn H' h rs hs:=⟨s _ _ x.at_ (λ_ z=>nomatch z),x.le,x.in_⟩
theorem yb {rs:Q1} (g:qH rs) {r:Str×List Str} (hr:r∈rs):(uL rs r.1).length<=rs.length:=by
 rw[Ys g.nd hr]
 exact XM r
theorem WL {rs:Q1} {hs:List Str} (g:qH rs) (le:rs.length<=14) (hi:∀z∈hs,∃r∈rs,r.1=z):∀n,n<=hs.length->(QF rs hs n).length<=n*14
 | 0,_=>Nat.le_refl _
 | n+1,h=>by
   rw[Y3,List.length_append]
   have h1:=WL g le hi n (Nat.le_of_lt h)
   obtain⟨r,hr,e⟩:=hi _ (z9 h)
   have h2:=yb g hr
   rw[e]at h2
   unfold Kh
   rw[List.length_map]
   omega
theorem VP {rs:Q1} (g:qH rs) {z:Str} (h:∃r∈rs,r.1=z):qK z=true:=by
 obtain⟨r,hr,rfl⟩:=h
 exact g.nm r hr
def JL (CG:Addr):Sp:=λvs H Q _=>∃(g:Addr) (rs:Q1) (z:Str),vs=[.ref g,.str z]/\jS CG H g rs/\(∃r∈rs,r.1=z)/\∀H',Same H H'->Q .non H'
def QK (CG:Addr):Sp:=λvs H Q _=>∃(g h:Addr) (rs:Q1) (hs:List Str),vs=[.ref g,.ref h]/\jS CG H g rs/\jn H h rs hs/\∀H',Same H H'->Q .non H'
def ZK (CG:Addr):Sp:=λvs H Q _=>∃(g h:Addr) (rs:Q1) (hs:List Str),vs=[.ref g,.ref h]/\jS CG H g rs/\qH rs/\rs.length<=14/\jn H h rs hs/\
 ∀H' l ps,Same H H'->H l=none->H' l=some (.lst (ps.map V.ref))->Qe H' ps (QF rs hs hs.length)->Q (.ref l) H'
def Jw (CG:Addr):Sp:=λvs H Q _=>∃(g h:Addr) (rs:Q1) (hs:List Str),vs=[.ref g,.ref h]/\jS CG H g rs/\qH rs/\rs.length<=14/\jn H h rs hs/\
 ∀H',Same H H'->Q (.bl (QF rs hs hs.length).isEmpty) H'
section
variable {P:Program} {w:World} {K:PySem.W.Frag} {mg:Str->Option Value} {base:Heap}
abbrev Yo:List Str:=["ground","thing"]
theorem wS:qz Yo Yo (qi jI):=⟨rfl,rfl,rfl,by decide+kernel,rfl,by decide+kernel,by decide+kernel⟩
theorem YZ {f CG:Addr} {fd:FuncData} (F:jU K "need_place" "need_place" jI f fd) (G:jR mg) (M:GM K mg CG):qo P w K mg base qZ 2 f fd Yo (JL CG):=by
 obtain⟨fC,fdC,C⟩:=M.cls
 obtain⟨fN,fdN,hN⟩:=M.nm
 have GN:qo P w K mg base qZ 1 fN fdN ["self"] (Z0 CG):=zI hN.fn C G
 refine F.okJ wS (λvs H Q E h=>?_) (λcdv A outer s H vs Q E hr h=>?_)
 . obtain⟨g,rs,z,rfl,_⟩:=h
   rfl
 . obtain⟨g,rs,z,rfl,gr,hz,q⟩:=h
   refine⟨_,qk (qL (qt J0 (jv 1) (yN hN C.cl GN hr (jv 0)) (by with_unfolding_all rfl)) qE qC),?_⟩
   obtain⟨dx,fs,hg,l1,l2⟩:=gr.ins
   refine⟨_,rfl,_,rfl,g,dx,fs,rfl,hg,l1,g,rs,rfl,gr,λl hl=>⟨l,_,rfl,.inl (.of qd),rfl,Zs _,_,rfl,?_⟩⟩
   have e:Xt (.str z) ((rs.map (·.1)).map V.str)=true:=WT (by obtain⟨r,hr',rfl⟩:=hz;exact List.mem_map.mpr ⟨r,hr',rfl⟩)
   show if (!Xt (.str z) ((rs.map (·.1)).map V.str))=true then _ else _
   rw[e]
   exact jT (q _ (qh hl))
abbrev nNH:List Str:=["ground","heap","thing"]
theorem kj:qz nNH ["ground","heap"] (qi jY):=⟨rfl,rfl,rfl,by decide+kernel,rfl,by decide+kernel,by decide+kernel⟩
theorem Jb {f fP CG:Addr} {fd fdP:FuncData} (F:jU K "need_heap" "need_heap" jY f fd) (B:Jj mg) (G:jR mg) (T:j2 K mg) (M:GM K mg CG) (hP:jo K mg "need_place" jI Yo fP fdP) (mt:∃t,mg "MOST_TOKENS"=some (.int 8 t)):qo P w K mg base qZ 3 f fd ["ground","heap"] (QK CG):=by
 have GP:qo P w K mg base qZ 2 fP fdP Yo (JL CG):=YZ hP.fn G M
 obtain⟨tk,hmt⟩:=mt
 refine F.okJ kj (λvs H Q E h=>?_) (λcdv A outer s H vs Q E hr h=>?_)
 . obtain⟨g,h',rs,hs,rfl,_⟩:=h
   rfl
 . obtain⟨g,h',rs,hs,rfl,gr,hh,q⟩:=h
   refine⟨_,qg (qL (jP (ju (qp ja (by rfl) T.isi boot_isinstance (qb (jv 1) (qb (j6 (v:=.ty "list") (by rfl) G.lst boot_list rfl) qe))))) qE qC)
     (qg (qL (qt zG (qp qB (by rfl) B.len boot_len (qb (jv 1) qe)) (jh (v:=.int 8) (by rfl) hmt ⟨_,rfl⟩) (qy _)) qE qC)
     (qk (jJ PassesOwn.never rfl (jC (jv 1)) (qF (i:=2) kj.nd rfl (Or.inl rfl)) (qk (qJ (qX hP GP hr (by rfl) (qb (jv 0) (qb (jv 2) qe)))))))),?_⟩
   refine⟨_,rfl,_,_,_,_,rfl,rfl,.lst hh.at_,T.kll,_,rfl,jT ?_⟩
   refine⟨_,rfl,h',_,rfl,.inl (.of hh.at_),_,_,rfl,rfl,_,rfl,qv (decide_eq_false ?_) ?_⟩
   . have:=hh.le
     rw[List.length_map]
     omega
   refine⟨_,rfl,h',rfl,⟨_,.of hh.at_⟩,?_⟩
   refine QJ (K:=K) (a:=h') (xs:=hs.map V.str) (λi σ' G=>∃v,σ'=[some (.ref g),some (.ref h'),v]/\Same H G) ⟨_,rfl,Same.refl H⟩ (λi σ' G _ ⟨_,_,s⟩=>.of (s _ _ hh.at_)) ?_ ?_
   . rintro i y σ' G hy ⟨v,rfl,sG⟩
     obtain⟨z,ez,hz,rfl⟩:=ZJ hy
     exact⟨_,rfl,_,rfl,g,rs,z,rfl,gr.mono sG,hh.in_ z hz,λH' s'=>⟨_,rfl,sG.trans s'⟩⟩
   . rintro σ' G ⟨v,rfl,sG⟩
     exact q G sG
abbrev nMo:List Str:=["ground","heap","moves","token","place"]
theorem Uv:qz nMo ["ground","heap"] (qi j7):=⟨rfl,rfl,rfl,by decide+kernel,rfl,by decide+kernel,by decide+kernel⟩
theorem Y0 {f fH fP CG:Addr} {fd fdH fdP:FuncData} (F:jU K "moves_of" "moves_of" j7 f fd) (B:Jj mg) (G:jR mg) (T:j2 K mg) (M:GM K mg CG) (hP:jo K mg "need_place" jI Yo fP fdP) (mt:∃t,mg "MOST_TOKENS"=some (.int 8 t))
   (hH:jo K mg "need_heap" jY ["ground","heap"] fH fdH):qo P w K mg base qZ 4 f fd ["ground","heap"] (ZK CG):=by
 obtain⟨fC,fdC,C⟩:=M.cls
 obtain⟨fR,fdR,hR⟩:=M.fr
 obtain⟨fN,fdN,hN⟩:=M.isn
 have GH:qo P w K mg base qZ 3 fH fdH ["ground","heap"] (QK CG):=Jb hH.fn B G T M hP mt
 have GR:qo P w K mg base qZ 2 fR fdR ["self","name"] (Wv CG):=U0 hR.fn C B G T hN
 refine F.okJ Uv (λvs H Q E h=>?_) (λcdv A outer s H vs Q E hr h=>?_)
 . obtain⟨g,h',rs,hs,rfl,_⟩:=h
   rfl
 . obtain⟨g,h',rs,hs,rfl,gr,gd,le,hh,q⟩:=h
   have r2:qS 2 (A.deeper (envOfC "moves_of" (qi j7) s.heap.objs.size f cdv)):=hr.mono (by decide)
   refine⟨_,qg (qJ (qX hH GH hr (by rfl) (qb (jv 0) (qb (jv 1) qe))))
     (qg (qA (i:=2) Uv.nd rfl (Or.inl rfl) (jk qe))
     (qg (jJ PassesOwn.never rfl (WQ (by rfl) T.enu (qb (jv 1) qe)) (X4 rfl (j9 (qF (i:=3) Uv.nd rfl (Or.inr rfl)) (j9 (qF (i:=4) Uv.nd rfl (Or.inl rfl)) ZP)))
       (qk (qJ (Y8 PySem.F.plainAttrs_list PySem.F.slot_list_extend PySem.F.type_list_extend VF (jv 2) (qb
         (ZA (N':=["end","token"]) (ix:=[none,some 3]) (te:=vU (jc (jt 1) (jc (jt 0) QB))) rfl ⟨rfl,rfl,rfl,rfl,rfl⟩ (jC (uD hR C.cl GR r2 (jv 0) (qb (jv 4) qe))) (λC s2 H2 fp pins=>
           ⟨qF (i:=0) (show (["end","token"]:List Str).Nodup by decide+kernel) rfl (Or.inl rfl),j4,j0 (qb (jv 1) (qb (jv 0) qe))⟩)) qe)))))
     (qk (qM (jv 2))))),?_⟩
   refine⟨_,rfl,_,rfl,g,h',rs,hs,rfl,gr,hh,λH1 s1=>?_⟩
   refine⟨by show 0<=sizeLine;decide,λl hl=>?_⟩
   have hl0:H l=none:=by
     cases z:H l with
     | none=>rfl
     | some u=>rw[s1 _ _ z]at hl;cases hl
   have s2:Same H (upd H1 l (.lst [])):=s1.trans (qh hl)
   have hl2:upd H1 l (.lst []) l=some (.lst []):=qd
   generalize upd H1 l (.lst [])=H2 at s2 hl2
   refine⟨_,rfl,h',rfl,⟨_,.of (s2 _ _ hh.at_)⟩,?_⟩
   refine Xa (K:=K) (a:=h') (xs:=hs.map V.str) (λi σ' G=>∃v3 v4 ps,σ'=[some (.ref g),some (.ref h'),some (.ref l),v3,v4]/\Same H G/\G l=some (.lst (ps.map V.ref))/\Qe G ps (QF rs hs i))
     ⟨_,_,[],rfl,s2,hl2,Qe.nil _⟩ (λi σ' G _ ⟨_,_,_,_,s,_⟩=>.of (s _ _ hh.at_)) ?_ ?_
   . rintro i y σ' G p hy hp ⟨v3,v4,ps,rfl,sG,hlG,mv⟩
     obtain⟨z,ez,hz,rfl⟩:=ZJ hy
     have hi:=(List.getElem?_eq_some_iff.mp ez).1
     have ezz:zt hs i=z:=by
       have:=ZI hi
       rw[ez]at this
       exact(Option.some.inj this).symm
     refine⟨p,_,rfl,.of qd,rfl,_,_,rfl,_,_,rfl,rfl,?_⟩
     have sP:Same G (upd G p (.tup [.int (i:Nat),.str z])):=qh hp
     have sGP:=sG.trans sP
     have hlP:=sP _ _ hlG
     have mvP:=mv.mono sP
     generalize upd G p (.tup [.int (i:Nat),.str z])=G1 at sP sGP hlP mvP
     obtain⟨r,hr',er⟩:=hh.in_ z hz
     obtain⟨dx,fs,hg,l1,l2⟩:=(gr.mono sGP).ins
     refine⟨_,rfl,.inl ⟨rfl,_,.of hlP⟩,_,rfl,g,dx,fs,rfl,hg,l2,_,rfl,g,rs,r,by rw[er];rfl,gr.mono sGP,hr',gd.nm r hr',λG2 e s2' he=>?_⟩
     have sE:Same G1 (upd G2 e (.lst ((Jx rs r).map V.str))):=s2'.trans (qh he)
     have hE:upd G2 e (.lst ((Jx rs r).map V.str)) e=some (.lst ((Jx rs r).map V.str)):=qd
     generalize upd G2 e (.lst ((Jx rs r).map V.str))=G3 at sE hE
     refine⟨e,rfl,⟨_,.of hE⟩,λD hD=>?_⟩
     refine Qp (K:=K) (a:=e) (xs:=(Jx rs r).map V.str) (λj σ'' G4=>∃v0 qs,σ''=[v0,some (.int (i:Nat))]/\Same G3 G4/\G4 D=some (.lst (qs.map V.ref))/\Qe G4 qs (((Jx rs r).take j).map λy=>(i,y)))
       ⟨none,[],rfl,qh hD,qd,Qe.nil _⟩ (λj σ'' G4 _ ⟨_,_,_,s,_⟩=>.of (s _ _ hE)) ?_ ?_
     . rintro j y σ'' G4 hy ⟨v0,qs,rfl,s4,hD4,mq⟩
       obtain⟨x,ex,hx,rfl⟩:=ZJ hy
       have hj:=(List.getElem?_eq_some_iff.mp ex).1
       refine⟨_,rfl,_,rfl,by show 2<=sizeLine;decide,λt ht=>⟨_,qr hD4 ht,?_,_,qs++[t],rfl,?_,?_,?_⟩⟩
       . rw[List.length_map,mq.1,List.length_map,List.length_take]
         have:=XM (rs:=rs) r
         exact qw (by omega)
       . exact Same.upd (s4.trans (qh ht)) hD
       . rw[qd,List.map_append]
         rfl
       . have nt:t≠D:=λz=>by rw[z,hD4]at ht;cases ht
         have e1:Qe (upd (upd G4 t (.tup [.int (i:Nat),.str x])) D (.lst (qs.map V.ref++[.ref t]))) qs (((Jx rs r).take j).map λy=>(i,y)):=⟨mq.1,λk p' m a b=>by
           have z:=mq.2 k p' m a b
           have n1:p'≠D:=λe=>by rw[e,hD4]at z;cases z
           rw[qf n1]
           exact qr z ht⟩
         rw[List.take_add_one,ex,List.map_append]
         exact e1.app (Qe.one (by rw[qf nt];exact qd))
     . rintro σ'' G4 ⟨v0,qs,rfl,s4,hD4,mq⟩
       rw[List.length_map,List.take_of_length_le (Nat.le_refl _)]at mq
       have sHG:Same H G4:=(sGP.trans sE).trans s4
       have hl4:=s4 _ _ (sE _ _ hlP)
       have mv4:=(mvP.mono sE).mono s4
       have ml:=WL gd le hh.in_ i (Nat.le_of_lt hi)
       have l8:=hh.le
       have rl:=XM (rs:=rs) r
       refine⟨l,D,_,_,rfl,rfl,hl4,hD4,?_,?_⟩
       . rw[List.length_map,List.length_map,mv4.1,mq.1,List.length_map]
         exact Nat.le_of_lt (qw (by omega))
       . refine⟨_,_,ps++qs,rfl,Same.upd sHG hl0,by rw[qd,List.map_append],?_⟩
         rw[Y3,ezz,Kh,<-er,Ys gd.nd hr']
         have ne:∀{p':Addr} {m:Nat×Str},G4 p'=some (.tup (uw m))->p'≠l:=λh e=>by rw[e,hl4]at h;cases h
         have up:∀{ps:List Addr} {ms:List (Nat×Str)},Qe G4 ps ms->Qe (upd G4 l (.lst (List.map V.ref ps++List.map V.ref qs))) ps ms:=λh=>⟨h.1,λk p' m a b=>by
           have z:=h.2 k p' m a b
           rw[qf (ne z)]
           exact z⟩
         refine Qe.app ?_ ?_
         . exact⟨mv4.1,λk p' m a b=>by
             have z:=mv4.2 k p' m a b
             rw[qf (ne z)]
             exact z⟩
         . exact⟨mq.1,λk p' m a b=>by
             have z:=mq.2 k p' m a b
             rw[qf (ne z)]
             exact z⟩
   . rintro σ' G ⟨v3,v4,ps,rfl,sG,hlG,mv⟩
     rw[List.length_map]at mv
     exact⟨_,rfl,q G l ps sG hl0 hlG mv⟩
end
end Rh
set_option Elab.async false
set_option linter.all false
set_option maxRecDepth 100000
set_option maxHeartbeats 4000000
namespace Rh
open PySem L2 PyProof.Rows
theorem K2 (K:PySem.W.Frag):PySem.W.kitOne K (.type "int") (.type "int")=some true:=by kernel_rfl
theorem K3 (K:PySem.W.Frag):PySem.W.kitOne K (.type "int") (.type "bool")=some false:=by kernel_rfl
theorem uz (K:PySem.W.Frag):PySem.W.kitOne K (.type "NoneType") (.type "tuple")=some false:=by kernel_rfl
def mD (m:Nat×Str):PyData:=.tuple [.int (m.1:Int),.str m.2]
theorem Qe.tail {H:Hp} {p:Addr} {ps:List Addr} {m:Nat×Str} {ms:List (Nat×Str)} (h:Qe H (p::ps) (m::ms)):Qe H ps ms:=⟨Nat.succ.inj h.1,λi a b e1 e2=>h.2 (i+1) a b (by simpa using e1) (by simpa using e2)⟩
theorem uX {K:PySem.W.Frag} {H:Hp} {p:Addr} {m:Nat×Str} (h:H p=some (.tup (uw m))):DV K H (.ref p) (mD m):=.tup (.of h) (.cons (.int _) (.cons (.str _) .nil))
theorem vL {K:PySem.W.Frag} {H:Hp}:∀{ps:List Addr} {ms:List (Nat×Str)},Qe H ps ms->DVs K H (ps.map V.ref) (ms.map mD)
 | [],[],_=>.nil
 | [],_::_,h=>by cases h.1
 | _::_,[],h=>by cases h.1
 | p::ps,m::ms,h=>.cons (uX (h.2 0 p m rfl rfl)) (vL h.tail)
theorem vC:∀{ms:List (Nat×Str)},(∀m∈ms,qK m.2=true)->PyData.canLayAll0 (ms.map mD)=true
 | [],_=>rfl
 | m::ms,h=>by
   rw[List.map_cons,PyData.canLayAll0,vC λy hy=>h y (List.mem_cons_of_mem _ hy),Bool.and_true]
   show (true&&(PyData.strOk m.2&&true))=true
   rw[Yn (h m List.mem_cons_self)]
   rfl
theorem kP {rs:Q1} {hs:List Str} {n:Nat} {m:Nat×Str} (h:m∈QF rs hs n):m.1 < n/\m.2∈uL rs (zt hs m.1):=by
 unfold QF at h
 obtain⟨j,hj,h2⟩:=List.mem_flatMap.mp h
 obtain⟨e,he,rfl⟩:=List.mem_map.mp h2
 exact⟨List.mem_range.mp hj,he⟩
theorem Y4 {rs:Q1} {hs:List Str} (g:qH rs) (hi:∀z∈hs,∃r∈rs,r.1=z):∀m∈QF rs hs hs.length,qK m.2=true:=λm hm=>by
 obtain⟨h1,h2⟩:=kP hm
 obtain⟨r,hr,e⟩:=hi _ (z9 h1)
 rw[<-e,Ys g.nd hr]at h2
 exact VP g (Uy h2)
theorem WX {z:Str} {d:PyData} (h:PyData.eqv (.str z) d=true):d=.str z:=by
 cases d with
 | str y=>
   have e:(z==y)=true:=h
   rw[beq_iff_eq]at e
   rw[e]
 | _=>cases h
theorem x4 {m:Nat×Str} {i:Int} {d:PyData} (h:PyData.eqv (mD m) (.tuple [.int i,d])=true):(m.1:Int)=i/\d=.str m.2:=by
 have h1:(((m.1:Int)==i)&&(PyData.eqv (.str m.2) d&&true))=true:=h
 rw[Bool.and_true,Bool.and_eq_true,beq_iff_eq]at h1
 exact⟨h1.1,WX h1.2⟩
theorem vw (m:Nat×Str):PyData.eqv (mD m) (mD m)=true:=by
 show (((m.1:Int)==(m.1:Int))&&((m.2==m.2)&&true))=true
 simp
inductive YE (K:PySem.W.Frag) (H:Hp) (ms:List (Nat×Str)):V->Prop
 | ty {v:V} {t:Value}:TyOf K H v t->PySem.W.kitOne K t (.type "tuple")=some false->YE K H ms v
 | len {p:Addr} {xs:List V}:H p=some (.tup xs)->xs.length≠2->YE K H ms (.ref p)
 | who {p:Addr} {x y:V} {t:Value}:H p=some (.tup [x,y])->TyOf K H x t->(PySem.W.kitOne K t (.type "int")=some false\/(PySem.W.kitOne K t (.type "int")=some true/\PySem.W.kitOne K t (.type "bool")=some true))->YE K H ms (.ref p)
 | out {p:Addr} {i:Int} {y:V} {d:PyData}:H p=some (.tup [.int i,y])->DV K H y d->d.canLay0=true->d.depth<=30->(∀m∈ms,¬((m.1:Int)=i/\d=.str m.2))->YE K H ms (.ref p)
theorem YE.keep {K:PySem.W.Frag} {H H':Hp} {ms:List (Nat×Str)} {v:V} (h:YE K H ms v) (s:jw H H'):YE K H' ms v:=by
 cases h with
 | ty a b=>exact .ty (Rh.TyOf.keep a s) b
 | len a b=>exact .len (s _ _ a (λ_ z=>nomatch z)) b
 | who a b c=>exact .who (s _ _ a (λ_ z=>nomatch z)) (Rh.TyOf.keep b s) c
 | out a b c d e=>exact .out (s _ _ a (λ_ z=>nomatch z)) (ZV s b) c d e
def Gj (K:PySem.W.Frag) (H:Hp) (ms:List (Nat×Str)) (v:V) (b:Bool):Prop:=(b=true/\∃p m,v=.ref p/\H p=some (.tup (uw m))/\m∈ms)\/(b=false/\YE K H ms v)
def Wq (K:PySem.W.Frag):Sp:=λvs H Q _=>∃x t,vs=[x]/\TyOf K H x t/\((PySem.W.kitOne K t (.type "int")=some false/\Q (.bl false) H)\/(PySem.W.kitOne K t (.type "int")=some true/\∃b,PySem.W.kitOne K t (.type "bool")=some b/\Q (.bl (!b)) H))
def YQ (K:PySem.W.Frag) (CG:Addr):Sp:=λvs H Q _=>∃(g h:Addr) (rs:Q1) (hs:List Str) (v:V) (b:Bool),vs=[.ref g,.ref h,v]/\jS CG H g rs/\qH rs/\rs.length<=14/\jn H h rs hs/\Gj K H (QF rs hs hs.length) v b/\∀H',Same H H'->Q (.bl b) H'
def JM (K:PySem.W.Frag) (CG CM:Addr):Sp:=λvs H Q E=>∃(g h:Addr) (rs:Q1) (hs:List Str) (v:V),vs=[.ref g,.ref h,v]/\jS CG H g rs/\qH rs/\rs.length<=14/\jn H h rs hs/\YE K H (QF rs hs hs.length) v/\
 ∀H1 dx,Same H H1->H1 dx=some (.xd [(Str.ofString "found",v)])->E (.ref CM) (some dx) H1
structure HM (K:PySem.W.Frag) (mg:Str->Option Value):Prop where
 mt:∃t,mg "MOST_TOKENS"=some (.int 8 t)
 pl:∃f fd,jo K mg "need_place" jI Yo f fd
 nh:∃f fd,jo K mg "need_heap" jY ["ground","heap"] f fd
 mo:∃f fd,jo K mg "moves_of" j7 ["ground","heap"] f fd
 wh:∃f fd,jo K mg "is_whole" Yf ["thing"] f fd
 im:∃f fd,jo K mg "is_move" ZM ["ground","heap","thing"] f fd
 lb:∃f fd,jo K mg "left_by" yG ["heap","move"] f fd
 bool:mg "bool"=none
section
variable {P:Program} {w:World} {K:PySem.W.Frag} {mg:Str->Option Value} {base:Heap}
abbrev xC:List Str:=["ground","heap"]
theorem wT:qz xC xC (qi Z3):=⟨rfl,rfl,rfl,by decide+kernel,rfl,by decide+kernel,by decide+kernel⟩
theorem HM.moves {CG:Addr} (Z:HM K mg) (B:Jj mg) (G:jR mg) (T:j2 K mg) (M:GM K mg CG):∃f fd,jo K mg "moves_of" j7 ["ground","heap"] f fd/\qo P w K mg base qZ 4 f fd ["ground","heap"] (ZK CG):=by
 obtain⟨fP,fdP,hP⟩:=Z.pl
 obtain⟨fH,fdH,hH⟩:=Z.nh
 obtain⟨f,fd,h⟩:=Z.mo
 exact⟨f,fd,h,Y0 h.fn B G T M hP Z.mt hH⟩
theorem Yk {f CG:Addr} {fd:FuncData} (F:jU K "is_over" "is_over" Z3 f fd) (B:Jj mg) (G:jR mg) (T:j2 K mg) (M:GM K mg CG) (Z:HM K mg):qo P w K mg base qZ 5 f fd xC (Jw CG):=by
 obtain⟨fM,fdM,hM,GMv⟩:=Z.moves (P:=P) (w:=w) (base:=base) B G T M
 refine F.okJ wT (λvs H Q E h=>?_) (λcdv A outer s H vs Q E hr h=>?_)
 . obtain⟨g,h',rs,hs,rfl,_⟩:=h
   rfl
 . obtain⟨g,h',rs,hs,rfl,gr,gd,le,hh,q⟩:=h
   refine⟨_,qk (qM (QQ jD (qp qB (by rfl) B.len boot_len (qb (qX hM GMv hr (by rfl) (qb (jv 0) (qb (jv 1) qe))) qe)) qj (qy _))),?_⟩
   refine⟨_,rfl,_,rfl,g,h',rs,hs,rfl,gr,gd,le,hh,λH1 l ps s1 hl hl1 mv=>⟨l,_,rfl,.inl (.of hl1),rfl,?_⟩⟩
   have e:decide (V.int ((ps.map V.ref).length:Nat)=V.int 0)=(QF rs hs hs.length).isEmpty:=by
     rw[List.length_map,mv.1]
     cases QF rs hs hs.length with
     | nil=>rfl
     | cons a l=>
       refine decide_eq_false λz=>?_
       have:=V.int.inj z
       rw[List.length_cons]at this
       omega
   rw[e]
   exact q H1 s1
theorem Kx:qz ["thing"] ["thing"] (qi Yf):=⟨rfl,rfl,rfl,by decide+kernel,rfl,by decide+kernel,by decide+kernel⟩
theorem UR {f:Addr} {fd:FuncData} (F:jU K "is_whole" "is_whole" Yf f fd) (B:Jj mg) (T:j2 K mg) (hb:mg "bool"=none):qo P w K mg base qZ 1 f fd ["thing"] (Wq K):=by
 refine F.okJ Kx (λvs H Q E h=>?_) (λcdv A outer s H vs Q E hr h=>?_)
 . obtain⟨x,t,rfl,_⟩:=h
   rfl
 . obtain⟨x,t,rfl,ty,h⟩:=h
   refine⟨_,qk (qM (Zr (qp ja (by rfl) T.isi boot_isinstance (qb (jv 0) (qb (j6 (v:=.ty "int") (by rfl) B.int boot_int rfl) qe)))
     (Zq (Yq (qp ja (by rfl) T.isi boot_isinstance (qb (jv 0) (qb (j6 (v:=.ty "bool") (by rfl) hb boot_bool rfl) qe))))))),?_⟩
   rcases h with ⟨k,q⟩ | ⟨k,b,k2,q⟩
   . exact⟨_,rfl,_,_,_,_,rfl,rfl,ty,k,_,rfl,jT q⟩
   . exact⟨_,rfl,_,_,_,_,rfl,rfl,ty,k,_,rfl,Qq ⟨_,rfl,_,_,_,_,rfl,rfl,ty,k2,_,rfl,q⟩⟩
abbrev Kg:List Str:=["ground","heap","thing"]
theorem Kz:qz Kg Kg (qi ZM):=⟨rfl,rfl,rfl,by decide+kernel,rfl,by decide+kernel,by decide+kernel⟩
theorem Vy {f CG:Addr} {fd:FuncData} (F:jU K "is_move" "is_move" ZM f fd) (B:Jj mg) (G:jR mg) (T:j2 K mg) (M:GM K mg CG) (Z:HM K mg):qo P w K mg base qZ 5 f fd Kg (YQ K CG):=by
 obtain⟨fM,fdM,hM,GMv⟩:=Z.moves (P:=P) (w:=w) (base:=base) B G T M
 obtain⟨fW,fdW,hW⟩:=Z.wh
 have GW:qo P w K mg base qZ 1 fW fdW ["thing"] (Wq K):=UR hW.fn B T Z.bool
 refine F.okJ Kz (λvs H Q E h=>?_) (λcdv A outer s H vs Q E hr h=>?_)
 . obtain⟨g,h',rs,hs,v,b,rfl,_⟩:=h
   rfl
 . obtain⟨g,h',rs,hs,v,b,rfl,gr,gd,le,hh,im,q⟩:=h
   refine⟨_,qg (qL (Q0 (jP (ju (qp ja (by rfl) T.isi boot_isinstance (qb (jv 2) (qb (j6 (v:=.ty "tuple") (by rfl) G.tup boot_tuple rfl) qe)))))
       (Q0 (qt WI (qp qB (by rfl) B.len boot_len (qb (jv 2) qe)) qj (qy _))
       (Qm (jP (ju (qX hW GW (hr.mono (by decide)) (by rfl) (qb (jg Qn (jv 2) qj (λ_ _=>rfl)) qe))))))).pt (qk (qM jW)) qC)
     (qk (qM (QQ (xr hr.units) (jv 2) (qX hM GMv hr (by rfl) (qb (jv 0) (qb (jv 1) qe))) (by with_unfolding_all rfl)))),?_⟩
   have key:(b=false/\((∃t,TyOf K H v t/\PySem.W.kitOne K t (.type "tuple")=some false)\/(∃p xs,v=.ref p/\H p=some (.tup xs)/\xs.length≠2)\/(∃p x y t,v=.ref p/\H p=some (.tup [x,y])/\TyOf K H x t/\(PySem.W.kitOne K t (.type "int")=some false\/(PySem.W.kitOne K t (.type "int")=some true/\PySem.W.kitOne K t (.type "bool")=some true)))))\/
       (∃p i y d,v=.ref p/\H p=some (.tup [.int i,y])/\DV K H y d/\d.canLay0=true/\d.depth<=30/\((QF rs hs hs.length).map mD).any (λz=>PyData.eqv z (.tuple [.int i,d]))=b):=by
     rcases im with ⟨rfl,p,m,rfl,hp,hm⟩ | ⟨rfl,nm⟩
     . refine .inr ⟨p,_,_,.str m.2,rfl,hp,.str _,Yn (Y4 gd hh.in_ m hm),Nat.zero_le _,?_⟩
       exact List.any_eq_true.mpr ⟨mD m,List.mem_map.mpr ⟨m,hm,rfl⟩,vw m⟩
     . cases nm with
       | ty a c=>exact .inl ⟨rfl,.inl ⟨_,a,c⟩⟩
       | len a c=>exact .inl ⟨rfl,.inr (.inl ⟨_,_,rfl,a,c⟩)⟩
       | who a c e=>exact .inl ⟨rfl,.inr (.inr ⟨_,_,_,_,rfl,a,c,e⟩)⟩
       | out a c e f k=>
         refine .inr ⟨_,_,_,_,rfl,a,c,e,f,?_⟩
         rw[List.any_eq_false]
         intro z hz h
         obtain⟨m,hm,rfl⟩:=List.mem_map.mp hz
         exact k m hm (x4 h)
   rcases key with ⟨rfl,⟨t,ty,k⟩ | ⟨p,xs,rfl,hp,hx⟩ | ⟨p,x,y,t,rfl,hp,ty,k⟩⟩ | ⟨p,i,y,d,rfl,hp,dv,cl,dp,an⟩
   . refine⟨_,rfl,_,_,_,_,rfl,rfl,ty,k,_,rfl,Qq (Qq ?_)⟩
     exact q H (Same.refl H)
   . refine⟨_,rfl,_,_,_,_,rfl,rfl,.tup hp,T.ktt,_,rfl,jT ⟨_,rfl,p,_,rfl,.inr (.of hp),rfl,_,rfl,qR ?_ (Qq (q H (Same.refl H)))⟩⟩
     show (!decide (V.int (xs.length:Nat)=V.int 2))=true
     rw[decide_eq_false λz=>hx (by have:=V.int.inj z;omega)]
     rfl
   . refine⟨_,rfl,_,_,_,_,rfl,rfl,.tup hp,T.ktt,_,rfl,jT ⟨_,rfl,p,_,rfl,.inr (.of hp),rfl,_,rfl,qv rfl ?_⟩⟩
     refine⟨_,rfl,p,_,0,_,rfl,rfl,.of hp,rfl,x,t,rfl,ty,?_⟩
     rcases k with k | ⟨k1,k2⟩
     . exact .inl ⟨k,_,rfl,Qq (q H (Same.refl H))⟩
     . exact .inr ⟨k1,_,k2,_,rfl,Qq (q H (Same.refl H))⟩
   . refine⟨_,rfl,_,_,_,_,rfl,rfl,.tup hp,T.ktt,_,rfl,jT ⟨_,rfl,p,_,rfl,.inr (.of hp),rfl,_,rfl,qv rfl ?_⟩⟩
     refine⟨_,rfl,p,_,0,_,rfl,rfl,.of hp,rfl,.int i,_,rfl,.int i,.inr ⟨K2 K,_,K3 K,_,rfl,jT ?_⟩⟩
     refine⟨_,rfl,_,rfl,_,rfl,g,h',rs,hs,rfl,gr,gd,le,hh,λH1 l ps s1 hl hl1 mv=>?_⟩
     refine⟨.tuple [.int i,d],(QF rs hs hs.length).map mD,.tup (.of (s1 _ _ hp)) (.cons (.int i) (.cons (ZV s1.keep dv) .nil)),.lst (.of hl1) (vL mv),?_,vC (Y4 gd hh.in_),?_,?_⟩
     . show (true&&(d.canLay0&&true))=true
       rw[cl]
       rfl
     . simp only[PyData.depth,PyData.depthAll]
       omega
     . show Q (.bl (((QF rs hs hs.length).map mD).any λz=>PyData.eqv z (.tuple [.int i,d]))) H1
       rw[an]
       exact q H1 s1
abbrev yK:List Str:=["ground","heap","move"]
theorem wV:qz yK yK (qi Zi):=⟨rfl,rfl,rfl,by decide+kernel,rfl,by decide+kernel,by decide+kernel⟩
theorem Ut:qz ["self","found"] ["self","found"] (qi j3):=⟨rfl,rfl,rfl,by decide+kernel,rfl,by decide+kernel,by decide+kernel⟩
theorem Y1 {D C f:Addr} {fd:FuncData} (x:zw K mg D "NoMove" "NoMove.__init__" j3 "found" C f fd):qo P w K mg base qZ 1 f fd ["self","found"] (kh C "found"):=by
 refine x.fn.okJ Ut (λvs H Q E h=>?_) (λcdv A outer s H vs Q E hr h=>?_)
 . obtain⟨e,y,rfl,_⟩:=h
   rfl
 . obtain⟨e,y,rfl,hH,k⟩:=h
   exact⟨_,qk (Yp (bm:=.ref D::qV) (jv 0) (jv 1) rfl),_,rfl,_,rfl,e,C,rfl,hH,x.cls,kB D,x.na,λdx hdx=>k dx hdx⟩
theorem zJ {f CG D CM fX:Addr} {fd fdX:FuncData} (F:jU K "after" "after" Zi f fd) (B:Jj mg) (G:jR mg) (T:j2 K mg) (M:GM K mg CG) (Z:HM K mg) (xM:zw K mg D "NoMove" "NoMove.__init__" j3 "found" CM fX fdX):qo P w K mg base (jN P w) 6 f fd yK (JM K CG CM):=by
 obtain⟨fP,fdP,hP⟩:=Z.pl
 obtain⟨fH,fdH,hH⟩:=Z.nh
 obtain⟨fI,fdI,hI⟩:=Z.im
 have GH:qo P w K mg base qZ 3 fH fdH ["ground","heap"] (QK CG):=Jb hH.fn B G T M hP Z.mt
 have GI:qo P w K mg base qZ 5 fI fdI Kg (YQ K CG):=Vy hI.fn B G T M Z
 have GX:qo P w K mg base qZ 1 fX fdX ["self","found"] (kh CM "found"):=Y1 xM
 refine F.okX wV (λvs H Q E h=>?_) (λcdv A outer s H vs Q E hr h=>?_)
 . obtain⟨g,h',rs,hs,v,rfl,_⟩:=h
   rfl
 . obtain⟨g,h',rs,hs,v,rfl,gr,gd,le,hh,nm,q⟩:=h
   refine⟨_,qg (qJ (qX hH GH (hr.mono (by decide)) (by rfl) (qb (jv 0) (qb (jv 1) qe))))
     (qg (qL (jP (ju (qX hI GI hr (by rfl) (qb (jv 0) (qb (jv 1) (qb (jv 2) qe))))))
       (qk (Jf rfl Qg (Jg xM.mkr GX (hr.mono (by decide)) (by rfl) xM.ns xM.bi Js (qb (jv 2) qe)))) qC)
     qE),?_⟩
   refine⟨_,rfl,_,rfl,g,h',rs,hs,rfl,gr,hh,λH1 s1=>?_⟩
   refine⟨_,rfl,_,rfl,_,rfl,g,h',rs,hs,_,false,rfl,gr.mono s1,gd,le,hh.mono s1,.inr ⟨rfl,nm.keep s1.keep⟩,λH2 s2=>⟨_,rfl,Qq ?_⟩⟩
   have s12:=s1.trans s2
   refine⟨_,rfl,by show 1<=sizeLine;decide,λe he=>⟨e,v,rfl,qd,λdx hdx=>⟨rfl,e,CM,dx,rfl,?_,xM.rcls,?_⟩⟩⟩
   . exact(jF he hdx).2.1
   . obtain⟨m1,m2,m3⟩:=jF (fs:=[(Str.ofString "found",v)]) he hdx
     exact q _ dx (s12.trans m1) m3
end
end Rh
set_option Elab.async false
set_option linter.all false
set_option maxRecDepth 100000
set_option maxHeartbeats 4000000
namespace L2
theorem qo.or {P:PySem.Program} {w:PySem.World} {K:PySem.W.Frag} {mg:PySem.Str->Option PySem.Value} {base:PySem.Heap} {CX:Zd} {k:Nat} {f:PySem.Addr} {fd:PySem.FuncData} {ps:List PySem.Str} {sp sp':Sp} (a:qo P w K mg base CX k f fd ps sp) (b:qo P w K mg base CX k f fd ps sp'):qo P w K mg base CX k f fd ps (λvs H Q E=>sp vs H Q E\/sp' vs H Q E):=
 ⟨λvs H Q E h=>h.elim (a.len vs H Q E) (b.len vs H Q E),λA outer s H args us vs Q E hr he hb hv hs=>hs.elim (a.run A outer s H args us vs Q E hr he hb hv) (b.run A outer s H args us vs Q E hr he hb hv)⟩
theorem qo.up {P:PySem.Program} {w:PySem.World} {K:PySem.W.Frag} {mg:PySem.Str->Option PySem.Value} {base:PySem.Heap} {CX:Zd} {k j:Nat} {f:PySem.Addr} {fd:PySem.FuncData} {ps:List PySem.Str} {sp:Sp} (a:qo P w K mg base CX k f fd ps sp) (h:k<=j):qo P w K mg base CX j f fd ps sp:=
 ⟨a.len,λA outer s H args us vs Q E hr he hb hv hs=>a.run A outer s H args us vs Q E (hr.mono h) he hb hv hs⟩
end L2
namespace Rh
open PySem L2 PyProof.Rows
abbrev Yh:Stmt:=top 44
abbrev QC:Stmt:=QR (top 3) 0
abbrev Q9:Stmt:=QR (top 5) 0
abbrev JU:Stmt:=QR (top 6) 0
theorem atI_get {xs:List V} {r:Int} (h0:0<=r) (h1:r < (xs.length:Int)):∃v,Xl xs r=some v/\xs[r.toNat]?=some v:=by
 have:r.toNat < xs.length:=by omega
 refine⟨xs[r.toNat],?_,List.getElem?_eq_getElem this⟩
 unfold Xl yO
 rw[if_pos h0,if_pos h1]
 exact List.getElem?_eq_getElem this
def Wu:Sp:=λvs H Q _=>∃(d l:Addr) (mo:Nat) (n s t:Int) (ps:List Addr) (rs:Q1),vs=[.ref d,.ref l,.int (mo:Int)]/\H d=some (.dK (jf n s t))/\jK H l ps rs/\mo<=8/\
 ∀(D:Addr) (hs:List Str) (n' t':Int) (H':Hp),H D=none->H' D=some (.lst (hs.map V.str))->hs.length<=mo->(∀z∈hs,∃r∈rs,r.1=z)->H' d=some (.dK (jf n' s t'))->Fr H d H'->Q (.ref D) H'
theorem jK.fr' {H H':Hp} {l d:Addr} {ps:List Addr} {rs:Q1} {kv:List (qP×V)} (h:jK H l ps rs) (hd:H d=some (.dK kv)) (s:Fr H d H'):jK H' l ps rs:=by
 refine⟨s _ _ h.at_ (λe=>?_),⟨h.rows.1,λi p r e1 e2=>?_⟩,h.good,h.pos,h.le⟩
 . have:=h.at_
   rw[e,hd]at this
   cases this
 . obtain⟨q,a,b⟩:=h.rows.2 i p r e1 e2
   exact⟨q,s _ _ a (λe=>by rw[e,hd]at a;cases a),s _ _ b (λe=>by rw[e,hd]at b;cases b)⟩
section
variable {P:Program} {w:World} {K:PySem.W.Frag} {mg:Str->Option Value} {base:Heap}
abbrev ur:List Str:=["_law_source_here","_law_rows_here","_law_most"]
theorem Ky:qz ur ur (qi Yh):=⟨rfl,rfl,rfl,by decide+kernel,rfl,by decide+kernel,by decide+kernel⟩
theorem UW {f fT:Addr} {fd fdT:FuncData} (F:jU K "_law_heap" "_law_heap" Yh f fd) (B:Jj mg) (hT:jo K mg "_law_take" JP ["_law_source_here","_law_many"] fT fdT):qo P w K mg base qZ 2 f fd ur Wu:=by
 have GT:qo P w K mg base qZ 1 fT fdT ["_law_source_here","_law_many"] Q7:=Jk hT.fn
 refine F.okJ Ky (λvs H Q E h=>?_) (λcdv A outer s H vs Q E hr h=>?_)
 . obtain⟨d,l,mo,n,sd,t,ps,rs,rfl,_⟩:=h
   rfl
 . obtain⟨d,l,mo,n,sd,t,ps,rs,rfl,hd,g,mo8,q⟩:=h
   refine⟨_,qk (qM (ZA (N':=["_law_k","_law_rows_here","_law_source_here"]) (ix:=[none,some 1,some 0])
     (te:=Xs (XN K) (Xs (xi K) (jt 1) (ZX Q7 [] E0 (jc (jt 2) (jc (yw (λxs H Q=>∃p ys,xs=[.ref p]/\(SqL K H p ys\/SqT K H p ys)/\Q (.int ys.length) H) (jc (jt 1) QB)) QB)))) (tC (.int 0))) rfl ⟨rfl,rfl,rfl,rfl,rfl⟩
     (jB (by rfl) B.rng (qb (qX hT GT hr (by rfl) (qb (jv 0) (qb (qI Qd (jv 2) qj) qe))) qe))
     (λC s2 H2 fp pins=>⟨qF (i:=0) (show (["_law_k","_law_rows_here","_law_source_here"]:List Str).Nodup by decide+kernel) rfl (Or.inl rfl),j4,
       jg Qn (jg jl (jv 1) (qX hT GT hr (by rfl) (qb (jv 2) (qb (qp qB (by rfl) B.len boot_len (qb (jv 1) qe)) qe))) (λ_ _=>rfl)) qj (λ_ _=>rfl)⟩))),?_⟩
   refine⟨_,rfl,_,rfl,_,_,rfl,rfl,d,(mo:Int)+1,n,sd,t,rfl,hd,by omega,by omega,λr n1 t1 r0 r1=>⟨r,rfl,by omega,by omega,λD hD=>?_⟩⟩
   have nDd:D≠d:=λe=>by rw[e,qd]at hD;cases hD
   have hD0:H D=none:=by rw[qf nDd]at hD;exact hD
   refine Zu (λi σ' H'=>∃(v:Option V) (n' t':Int) (hs:List Str),σ'=[v,some (.ref l),some (.ref d)]/\H' d=some (.dK (jf n' sd t'))/\H' D=some (.lst (hs.map V.str))/\hs.length=i/\(∀z∈hs,∃r∈rs,r.1=z)/\Fr H d H')
     ⟨none,n1,t1,[],rfl,?_,qd,rfl,λ_ h=>(nomatch h),(Fr.refl.at_d).new hD⟩ ?_ ?_
   . rw[qf (Ne.symm nDd)]
     exact qd
   . rintro i σ' H' hi ⟨v,n',t',hs,rfl,hd',hD',hl,ha,fr⟩
     have g':=g.fr' hd fr
     have pl:(ps.map V.ref).length=rs.length:=by rw[List.length_map,g.rows.1]
     have le:=g.le
     have ps0:=g.pos
     refine⟨_,rfl,_,rfl,_,rfl,l,_,rfl,.inl (.of g'.at_),d,((ps.map V.ref).length:Nat),n',sd,t',rfl,hd',by rw[pl];omega,?_,λr n3 t3 r0 r1=>?_⟩
     . rw[pl]
       have:rs.length < 2^200:=Nat.lt_of_le_of_lt le (by decide)
       omega
     obtain⟨x,ex,gx⟩:=atI_get r0 r1
     obtain⟨p,qq,r',rfl,er,hr',ea,eb⟩:=g'.rows.item gx
     have ndl:l≠d:=λe=>by
       have:=g'.at_
       rw[e,hd']at this
       cases this
     have ndp:p≠d:=λe=>by rw[e,hd']at ea;cases ea
     refine⟨l,_,r,_,rfl,rfl,.of (by rw[qf ndl];exact g'.at_),ex,p,_,0,_,rfl,rfl,.of (by rw[qf ndp];exact ea),rfl,_,by rw[qf nDd];exact hD',?_,_,n3,t3,hs++[r'.1],rfl,?_,?_,?_,?_,?_⟩
     . rw[List.length_map,hl]
       exact qw (by omega)
     . rw[qf (Ne.symm nDd)];exact qd
     . rw[qd,List.map_append];rfl
     . rw[List.length_append,hl];rfl
     . intro z hz
       rcases List.mem_append.mp hz with h | h
       . exact ha z h
       . obtain rfl:=List.mem_singleton.mp h
         exact⟨r',hr',rfl⟩
     . exact(fr.at_d).own hD0
   . rintro σ' H' ⟨v,n',t',hs,rfl,hd',hD',hl,ha,fr⟩
     exact q D hs n' t' H' hD0 hD' (by omega) ha hd' fr
theorem Vj:qz ["self","found"] ["self","found"] (qi QC):=⟨rfl,rfl,rfl,by decide+kernel,rfl,by decide+kernel,by decide+kernel⟩
theorem VB {D C f:Addr} {fd:FuncData} (x:zw K mg D "NoPlace" "NoPlace.__init__" QC "found" C f fd):qo P w K mg base qZ 1 f fd ["self","found"] (kh C "found"):=by
 refine x.fn.okJ Vj (λvs H Q E h=>?_) (λcdv A outer s H vs Q E hr h=>?_)
 . obtain⟨e,y,rfl,_⟩:=h
   rfl
 . obtain⟨e,y,rfl,hH,k⟩:=h
   exact⟨_,qk (Yp (bm:=.ref D::qV) (jv 0) (jv 1) rfl),_,rfl,_,rfl,e,C,rfl,hH,x.cls,kB D,x.na,λdx hdx=>k dx hdx⟩
def V5 (K:PySem.W.Frag) (H:Hp) (N:List Str) (v:V):Prop:=(∃d,DV K H v d/\d.canLay0=true/\d.depth<=40/\∀z∈N,PyData.eqv (.str z) d=false)\/∃a kvs,v=.ref a/\H a=some (.dK kvs)
theorem V5.keep {H H':Hp} {N:List Str} {v:V} (h:V5 K H N v) (s:jw H H'):V5 K H' N v:=by
 rcases h with ⟨d,a,b⟩ | ⟨a,kvs,e,h⟩
 . exact .inl ⟨d,ZV s a,b⟩
 . exact .inr ⟨a,kvs,e,s _ _ h λ_ z=>nomatch z⟩
theorem QH {X:Cx} {x:Str} {st:Stmt} {ps:List Str} {f:Addr} {fd:FuncData} {k:Nat} {sp:Sp} {E:XK} {e:Expr} {es:List Expr} {t:TA} {p pos:Pos} (h:jo X.K X.mg x st ps f fd) (G:qo X.prog X.w X.K X.mg X.base (jN X.prog X.w) k f fd ps sp) (hr:qS k X.A) (hx:jm (jN X.prog X.w) X E)
   (hg:Gl X x) (ha:JA X (e::es) t) (hdb:(x==("__debug__":Str))=false:=by decide) (he:starEach (e::es) X.env=(false,eval e X.env)::starEach es X.env:=by rfl) (hpl:(backTo pos (starEach es X.env)).any (·.1)=false:=by rfl):
   JE X (.Call (.Name x p) (e::es) [] pos) (ZX sp [] E t):=.of (WH G hr hg h.ns h.fn.kp h.bi .nil hx ha.to hdb he hpl)
def Ya (K:PySem.W.Frag) (CG CP:Addr):Sp:=λvs H Q E=>∃(a:Addr) (rs:Q1) (v:V),vs=[.ref a,v]/\jS CG H a rs/\qH rs/\V5 K H (rs.map (·.1)) v/\∀H1 dx,Same H H1->H1 dx=some (.xd [(Str.ofString "found",v)])->E (.ref CP) (some dx) H1
theorem Vx {f CG D CP fP:Addr} {fd fdP:FuncData} (F:jU K "need_place" "need_place" jI f fd) (G:jR mg) (M:GM K mg CG) (xP:zw K mg D "NoPlace" "NoPlace.__init__" QC "found" CP fP fdP):qo P w K mg base (jN P w) 3 f fd Yo (Ya K CG CP):=by
 obtain⟨fC,fdC,C⟩:=M.cls
 obtain⟨fN,fdN,hN⟩:=M.nm
 have GN:qo P w K mg base qZ 1 fN fdN ["self"] (Z0 CG):=zI hN.fn C G
 have GP:qo P w K mg base qZ 1 fP fdP ["self","found"] (kh CP "found"):=VB xP
 refine F.okX wS (λvs H Q E h=>?_) (λcdv A outer s H vs Q E hr h=>?_)
 . obtain⟨g,rs,v,rfl,_⟩:=h
   rfl
 . obtain⟨g,rs,v,rfl,gr,good,hn,q⟩:=h
   refine⟨_,qk (qL (qt (Vt hr.units) (jv 1) (yN hN C.cl GN (hr.mono (by decide)) (jv 0)) (by with_unfolding_all rfl))
     (qk (Jf rfl Qg (Jg xP.mkr GP hr (by rfl) xP.ns xP.bi Js (qb (jv 1) qe)))) qC),?_⟩
   obtain⟨dx,fs,hg,l1,l2⟩:=gr.ins
   refine⟨_,rfl,_,rfl,g,dx,fs,rfl,hg,l1,g,rs,rfl,gr,λl hl=>?_⟩
   have s1:Same H (upd H l (.lst ((rs.map (·.1)).map V.str))):=qh hl
   have hl1:upd H l (.lst ((rs.map (·.1)).map V.str)) l=some (.lst ((rs.map (·.1)).map V.str)):=qd
   generalize upd H l (.lst ((rs.map (·.1)).map V.str))=H1 at s1 hl1
   rcases hn.keep s1.keep with ⟨d,dv,cl,dp,no⟩ | ⟨a,kvs,rfl,ha⟩
   . have e0:((rs.map (·.1)).map PyData.str).any (λz=>PyData.eqv z d)=false:=by
       rw[List.any_eq_false]
       intro x hx
       obtain⟨z,hz,rfl⟩:=List.mem_map.mp hx
       rw[no z hz]
       exact Bool.false_ne_true
     refine .inl ⟨d,_,dv,uY hl1,cl,vD (λz hz=>by obtain⟨r,hr',rfl⟩:=List.mem_map.mp hz;exact good.nm r hr'),dp,?_⟩
     show ∃k,V.bl (!_)=V.bl k/\_
     rw[e0]
     refine⟨_,rfl,Qq ⟨_,rfl,by show 1<=sizeLine;decide,λe he=>⟨e,v,rfl,qd,λdx hdx=>⟨rfl,e,CP,dx,rfl,?_,xP.rcls,?_⟩⟩⟩⟩
     . exact(jF he hdx).2.1
     . obtain⟨m1,m2,m3⟩:=jF (fs:=[(Str.ofString "found",v)]) he hdx
       exact q _ dx (s1.trans m1) m3
   . refine .inr ⟨a,l,kvs,rs.map (·.1),rfl,rfl,ha,.of hl1,_,rfl,Qq ⟨_,rfl,by show 1<=sizeLine;decide,λe he=>⟨e,.ref a,rfl,qd,λdx hdx=>⟨rfl,e,CP,dx,rfl,?_,xP.rcls,?_⟩⟩⟩⟩
     . exact(jF he hdx).2.1
     . obtain⟨m1,m2,m3⟩:=jF (fs:=[(Str.ofString "found",V.ref a)]) he hdx
       exact q _ dx (s1.trans m1) m3
end
def zx (K:PySem.W.Frag) (CH CT CP:Addr) (H:Hp) (N:List Str) (v:V) (C:Addr) (fv:V):Prop:=
 (C=CH/\fv=v/\∃t,TyOf K H v t/\PySem.W.kitOne K t (.type "list")=some false)\/
 (C=CT/\∃l xs,v=.ref l/\H l=some (.lst xs)/\8 < xs.length/\xs.length<=1000/\fv=.int (xs.length:Nat))\/
 (C=CP/\∃(l:Addr) (hs:List Str) (rest:List V),v=.ref l/\H l=some (.lst (hs.map V.str++fv::rest))/\(hs.map V.str++fv::rest).length<=8/\(∀z∈hs,z∈N)/\V5 K H N fv)
theorem zx.keep {K:PySem.W.Frag} {CH CT CP:Addr} {H H':Hp} {N:List Str} {v:V} {C:Addr} {fv:V} (h:zx K CH CT CP H N v C fv) (s:jw H H'):zx K CH CT CP H' N v C fv:=by
 rcases h with ⟨a,b,t,c,d⟩ | ⟨a,l,xs,b,c,d⟩ | ⟨a,l,hs,rest,b,c,d,e,g⟩
 . exact .inl ⟨a,b,t,Rh.TyOf.keep c s,d⟩
 . exact .inr (.inl ⟨a,l,xs,b,s _ _ c (λ_ z=>nomatch z),d⟩)
 . exact .inr (.inr ⟨a,l,hs,rest,b,s _ _ c (λ_ z=>nomatch z),d,e,g.keep s⟩)
def Q8 (K:PySem.W.Frag) (CG CH CT CP:Addr):Sp:=λvs H Q E=>∃(g:Addr) (rs:Q1) (v fv:V) (C:Addr),vs=[.ref g,v]/\jS CG H g rs/\qH rs/\rs.length<=14/\zx K CH CT CP H (rs.map (·.1)) v C fv/\∀H1 dx,Same H H1->H1 dx=some (.xd [(Str.ofString "found",fv)])->E (.ref C) (some dx) H1
structure vP (K:PySem.W.Frag) (mg:Str->Option Value) (D CH CT CP:Addr):Prop where
 h:∃f fd,zw K mg D "NoHeap" "NoHeap.__init__" JU "found" CH f fd
 t:∃f fd,zw K mg D "TooMany" "TooMany.__init__" Q9 "found" CT f fd
 p:∃f fd,zw K mg D "NoPlace" "NoPlace.__init__" QC "found" CP f fd
section
variable {P:Program} {w:World} {K:PySem.W.Frag} {mg:Str->Option Value} {base:Heap}
theorem Uu:qz ["self","found"] ["self","found"] (qi JU):=⟨rfl,rfl,rfl,by decide+kernel,rfl,by decide+kernel,by decide+kernel⟩
theorem Vi:qz ["self","found"] ["self","found"] (qi Q9):=⟨rfl,rfl,rfl,by decide+kernel,rfl,by decide+kernel,by decide+kernel⟩
theorem U2 {D C f:Addr} {fd:FuncData} (x:zw K mg D "NoHeap" "NoHeap.__init__" JU "found" C f fd):qo P w K mg base qZ 1 f fd ["self","found"] (kh C "found"):=by
 refine x.fn.okJ Uu (λvs H Q E h=>?_) (λcdv A outer s H vs Q E hr h=>?_)
 . obtain⟨e,y,rfl,_⟩:=h
   rfl
 . obtain⟨e,y,rfl,hH,k⟩:=h
   exact⟨_,qk (Yp (bm:=.ref D::qV) (jv 0) (jv 1) rfl),_,rfl,_,rfl,e,C,rfl,hH,x.cls,kB D,x.na,λdx hdx=>k dx hdx⟩
theorem VA {D C f:Addr} {fd:FuncData} (x:zw K mg D "TooMany" "TooMany.__init__" Q9 "found" C f fd):qo P w K mg base qZ 1 f fd ["self","found"] (kh C "found"):=by
 refine x.fn.okJ Vi (λvs H Q E h=>?_) (λcdv A outer s H vs Q E hr h=>?_)
 . obtain⟨e,y,rfl,_⟩:=h
   rfl
 . obtain⟨e,y,rfl,hH,k⟩:=h
   exact⟨_,qk (Yp (bm:=.ref D::qV) (jv 0) (jv 1) rfl),_,rfl,_,rfl,e,C,rfl,hH,x.cls,kB D,x.na,λdx hdx=>k dx hdx⟩
theorem QE {f fQ CG D CH CT CP:Addr} {fd fdQ:FuncData} (F:jU K "need_heap" "need_heap" jY f fd) (B:Jj mg) (G:jR mg) (T:j2 K mg) (M:GM K mg CG) (hQ:jo K mg "need_place" jI Yo fQ fdQ) (mt:∃t,mg "MOST_TOKENS"=some (.int 8 t)) (XS:vP K mg D CH CT CP):qo P w K mg base (jN P w) 4 f fd ["ground","heap"] (Q8 K CG CH CT CP):=by
 obtain⟨fH,fdH,xH⟩:=XS.h
 obtain⟨fT,fdT,xT⟩:=XS.t
 obtain⟨fP,fdP,xP⟩:=XS.p
 obtain⟨tk,hmt⟩:=mt
 have GQ1:qo P w K mg base (jN P w) 3 fQ fdQ Yo (Ya K CG CP):=Vx hQ.fn G M xP
 have GQ2:qo P w K mg base qZ 2 fQ fdQ Yo (JL CG):=YZ hQ.fn G M
 have GQ:qo P w K mg base (jN P w) 3 fQ fdQ Yo (λvs H Q E=>JL CG vs H Q E\/Ya K CG CP vs H Q E):=qo.or (GQ2.up (by decide)).cx GQ1
 have GH:qo P w K mg base qZ 1 fH fdH ["self","found"] (kh CH "found"):=U2 xH
 have GT:qo P w K mg base qZ 1 fT fdT ["self","found"] (kh CT "found"):=VA xT
 refine F.okX kj (λvs H Q E h=>?_) (λcdv A outer s H vs Q E hr h=>?_)
 . obtain⟨g,rs,v,fv,C,rfl,_⟩:=h
   rfl
 . obtain⟨g,rs,v,fv,C,rfl,gr,good,le14,bad,q⟩:=h
   have r2:qS 2 _:=hr.mono (by decide)
   refine⟨_,qg (qL (jP (ju (qp ja (by rfl) T.isi boot_isinstance (qb (jv 1) (qb (j6 (v:=.ty "list") (by rfl) G.lst boot_list rfl) qe))))) (qk (Jf rfl Qg (Jg xH.mkr GH r2 (by rfl) xH.ns xH.bi Js (qb (jv 1) qe)))) qC)
     (qg (qL (qt zG (qp qB (by rfl) B.len boot_len (qb (jv 1) qe)) (jh (v:=.int 8) (by rfl) hmt ⟨_,rfl⟩) (qy _)) (qk (Jf rfl Qg (Jg xT.mkr GT r2 (by rfl) xT.ns xT.bi Js (qb (qp qB (by rfl) B.len boot_len (qb (jv 1) qe)) qe)))) qC)
     (qk (WO (t:=wG (yQ K (jt 1)) (QI 2) (yu (ZX (λvs H Q E=>JL CG vs H Q E\/Ya K CG CP vs H Q E) [] E (jc (jt 0) (jc (jt 2) QB))))) λpn W hO hP hR=>jJ hO rfl (jC (jv 1)) (qF (i:=2) kj.nd rfl (Or.inl rfl)) (qk (qJ (QH hQ GQ hr hP (by rfl) (qb (jv 0) (qb (jv 2) qe)))))))),?_⟩
   rcases bad with ⟨rfl,rfl,t,ty,kl⟩ | ⟨rfl,l,xs,rfl,hl,h8,hk,rfl⟩ | ⟨rfl,l,hs,rest,rfl,hl,h8,hN,nop⟩
   . refine⟨_,rfl,_,_,_,_,rfl,rfl,ty,kl,_,rfl,Qq ⟨_,rfl,by show 1<=sizeLine;decide,λe he=>⟨e,fv,rfl,qd,λdx hdx=>⟨rfl,e,C,dx,rfl,(jF he hdx).2.1,xH.rcls,?_⟩⟩⟩⟩
     obtain⟨m1,m2,m3⟩:=jF (fs:=[(Str.ofString "found",fv)]) he hdx
     exact q _ dx m1 m3
   . refine⟨_,rfl,_,_,_,_,rfl,rfl,.lst hl,T.kll,_,rfl,jT ?_⟩
     refine⟨_,rfl,l,_,rfl,.inl (.of hl),_,_,rfl,rfl,_,rfl,qR (decide_eq_true (by omega)) ?_⟩
     refine⟨_,rfl,l,_,rfl,.inl (.of hl),by show 1<=sizeLine;decide,λe he=>⟨e,_,rfl,qd,λdx hdx=>⟨rfl,e,C,dx,rfl,(jF he hdx).2.1,xT.rcls,?_⟩⟩⟩
     obtain⟨m1,m2,m3⟩:=jF (fs:=[(Str.ofString "found",V.int (xs.length:Nat))]) he hdx
     exact q _ dx m1 m3
   . refine⟨_,rfl,_,_,_,_,rfl,rfl,.lst hl,T.kll,_,rfl,jT ?_⟩
     refine⟨_,rfl,l,_,rfl,.inl (.of hl),_,_,rfl,rfl,_,rfl,qv (decide_eq_false (by omega)) ?_⟩
     refine⟨_,rfl,l,rfl,⟨_,.of hl⟩,?_⟩
     refine QJ (K:=K) (a:=l) (xs:=hs.map V.str++fv::rest) (λi σ' X=>(∃v,σ'=[some (.ref g),some (.ref l),v])/\Same H X/\i<=hs.length) ⟨⟨_,rfl⟩,Same.refl H,Nat.zero_le _⟩ (λi σ' X _ ⟨_,sx,_⟩=>.of (sx _ _ hl)) ?_ ?_
     . rintro i y σ' X hy ⟨⟨v,rfl⟩,sx,hi⟩
       rcases Nat.lt_or_ge i hs.length with c | c
       . rw[List.getElem?_append_left (by rw[List.length_map];exact c)]at hy
         obtain⟨z,ez,hz,rfl⟩:=ZJ hy
         exact⟨_,rfl,_,rfl,.inl ⟨g,rs,z,rfl,gr.mono sx,List.mem_map.mp (hN z hz),λX' s'=>⟨⟨_,rfl⟩,sx.trans s',c⟩⟩⟩
       . have e:i=hs.length:=by omega
         subst e
         rw[List.getElem?_append_right (by rw[List.length_map];exact Nat.le_refl _),List.length_map,Nat.sub_self]at hy
         obtain rfl:fv=y:=by simpa using hy
         exact⟨_,rfl,_,rfl,.inr ⟨g,rs,fv,rfl,gr.mono sx,good,nop.keep sx.keep,λH1 dx s1 hd=>q H1 dx (sx.trans s1) hd⟩⟩
     . rintro σ' X ⟨_,_,hi⟩
       rw[List.length_append,List.length_map,List.length_cons]at hi
       omega
end
end Rh
set_option Elab.async false
set_option linter.all false
set_option maxRecDepth 100000
set_option maxHeartbeats 4000000
namespace Rh
open PySem L2 PyProof.Rows
abbrev Uw:Stmt:=top 34
abbrev JR:Stmt:=top 35
abbrev YR:Stmt:=top 36
abbrev Qk:Stmt:=top 45
abbrev JQ:Stmt:=(je Qk).getD 0 (.Pass ⟨0,0,0,0⟩)
def Vd (K:PySem.W.Frag) (CG CH CT CP:Addr) (n:Nat):Sp:=λvs H Q E=>∃(g:Addr) (rs:Q1) (v fv:V) (C:Addr) (ws:List V),vs=.ref g::v::ws/\ws.length=n/\jS CG H g rs/\qH rs/\rs.length<=14/\zx K CH CT CP H (rs.map (·.1)) v C fv/\∀H1 dx,Same H H1->H1 dx=some (.xd [(Str.ofString "found",fv)])->E (.ref C) (some dx) H1
def Zj:Str:=(Str.ofString "_law_asked"++Str.ofString ".<locals>.")++Str.ofString "_law_player"
def yA (ws:List (Str×V)):Sp:=λvs H Q _=>∃(la:Addr) (v:V) (ys:List V),ws=[(Str.ofString "_law_asked_here",.ref la)]/\vs=[v]/\H la=some (.lst ys)/\ys.length<=5/\Q .non (upd H la (.lst (ys++[v])))
abbrev wM (PT f:Addr) (fd:FuncData):Sp:=λvs H Q E=>∃ws,wf H PT f "_law_player" Zj JQ fd ws/\yA ws vs H Q E
def Wr (CG CM:Addr):Sp:=λvs H Q E=>∃(g h:Addr) (rs:Q1) (hs:List Str),vs=[.ref g,.ref h,.non]/\jS CG H g rs/\jn H h rs hs/\∀H1 dx,Same H H1->H1 dx=some (.xd [(Str.ofString "found",.non)])->E (.ref CM) (some dx) H1
def yB (CG CM PT:Addr):Sp:=λvs H Q E=>∃(g h f la:Addr) (fd:FuncData) (rs:Q1) (hs:List Str) (H0:Hp),vs=[.ref g,.ref h,.ref f,.ref f,.int 5]/\Same H0 H/\H0 la=none/\jS CG H0 g rs/\qH rs/\rs.length<=14/\jn H0 h rs hs/\H la=some (.lst [])/\wf H PT f "_law_player" Zj JQ fd [(Str.ofString "_law_asked_here",.ref la)]/\
 ((QF rs hs hs.length=[]/\∀v H',Same H H'->Q v H')\/(QF rs hs hs.length≠[]/\∀H1 dx v,Same H0 H1->H1 la=some (.lst [v])->H1 dx=some (.xd [(Str.ofString "found",.non)])->E (.ref CM) (some dx) H1))
section
variable {P:Program} {w:World} {K:PySem.W.Frag} {mg:Str->Option Value} {base:Heap}
theorem zH {f fH fQ CG D CH CT CP:Addr} {fd fdH fdQ:FuncData} (F:jU K "moves_of" "moves_of" j7 f fd) (B:Jj mg) (G:jR mg) (T:j2 K mg) (M:GM K mg CG) (hQ:jo K mg "need_place" jI Yo fQ fdQ) (mt:∃t,mg "MOST_TOKENS"=some (.int 8 t)) (hH:jo K mg "need_heap" jY ["ground","heap"] fH fdH) (XS:vP K mg D CH CT CP):qo P w K mg base (jN P w) 5 f fd ["ground","heap"] (Q8 K CG CH CT CP):=by
 have GH:qo P w K mg base (jN P w) 4 fH fdH ["ground","heap"] (Q8 K CG CH CT CP):=QE hH.fn B G T M hQ mt XS
 refine F.okX Uv (λvs H Q E h=>?_) (λcdv A outer s H vs Q E hr h=>?_)
 . obtain⟨g,rs,v,fv,C,rfl,_⟩:=h
   rfl
 . obtain⟨g,rs,v,fv,C,rfl,r⟩:=h
   exact⟨_,qg (qJ (QH hH GH hr Qh (by rfl) (qb (jv 0) (qb (jv 1) qe)))) qE,_,rfl,_,rfl,g,rs,v,fv,C,rfl,r⟩
theorem UU {f fM fH fQ CG D CH CT CP:Addr} {fd fdM fdH fdQ:FuncData} (F:jU K "is_over" "is_over" Z3 f fd) (B:Jj mg) (G:jR mg) (T:j2 K mg) (M:GM K mg CG) (hQ:jo K mg "need_place" jI Yo fQ fdQ) (mt:∃t,mg "MOST_TOKENS"=some (.int 8 t)) (hH:jo K mg "need_heap" jY ["ground","heap"] fH fdH) (hM:jo K mg "moves_of" j7 ["ground","heap"] fM fdM) (XS:vP K mg D CH CT CP):qo P w K mg base (jN P w) 6 f fd ["ground","heap"] (Q8 K CG CH CT CP):=by
 have GMo:qo P w K mg base (jN P w) 5 fM fdM ["ground","heap"] (Q8 K CG CH CT CP):=zH hM.fn B G T M hQ mt hH XS
 refine F.okX wT (λvs H Q E h=>?_) (λcdv A outer s H vs Q E hr h=>?_)
 . obtain⟨g,rs,v,fv,C,rfl,_⟩:=h
   rfl
 . obtain⟨g,rs,v,fv,C,rfl,r⟩:=h
   exact⟨_,qk (qM (QQ jD (qp qB (by rfl) B.len boot_len (qb (QH hM GMo hr Qh (by rfl) (qb (jv 0) (qb (jv 1) qe))) qe)) qj (qy _))),_,rfl,_,rfl,g,rs,v,fv,C,rfl,r⟩
theorem Vz {f fH fQ CG D CH CT CP:Addr} {fd fdH fdQ:FuncData} (F:jU K "after" "after" Zi f fd) (B:Jj mg) (G:jR mg) (T:j2 K mg) (M:GM K mg CG) (hQ:jo K mg "need_place" jI Yo fQ fdQ) (mt:∃t,mg "MOST_TOKENS"=some (.int 8 t)) (hH:jo K mg "need_heap" jY ["ground","heap"] fH fdH) (XS:vP K mg D CH CT CP):qo P w K mg base (jN P w) 5 f fd yK (Vd K CG CH CT CP 1):=by
 have GH:qo P w K mg base (jN P w) 4 fH fdH ["ground","heap"] (Q8 K CG CH CT CP):=QE hH.fn B G T M hQ mt XS
 refine F.okX wV (λvs H Q E h=>?_) (λcdv A outer s H vs Q E hr h=>?_)
 . obtain⟨g,rs,v,fv,C,ws,rfl,lw,_⟩:=h
   show ws.length+2=3
   omega
 . obtain⟨g,rs,v,fv,C,ws,rfl,lw,r⟩:=h
   exact⟨_,qg (qJ (QH hH GH hr Qh (by rfl) (qb (jv 0) (qb (jv 1) qe)))) qE,_,rfl,_,rfl,g,rs,v,fv,C,rfl,r⟩
abbrev nWk:List Str:=["ground","heap","moves","heaps","move"]
abbrev uf:List Str:=["ground","heap","moves"]
theorem wP:qz nWk uf (qi YR):=⟨rfl,rfl,rfl,by decide+kernel,rfl,by decide+kernel,by decide+kernel⟩
theorem UT {f fH fQ CG D CH CT CP:Addr} {fd fdH fdQ:FuncData} (F:jU K "walk" "walk" YR f fd) (B:Jj mg) (G:jR mg) (T:j2 K mg) (M:GM K mg CG) (hQ:jo K mg "need_place" jI Yo fQ fdQ) (mt:∃t,mg "MOST_TOKENS"=some (.int 8 t)) (hH:jo K mg "need_heap" jY ["ground","heap"] fH fdH) (XS:vP K mg D CH CT CP):qo P w K mg base (jN P w) 5 f fd uf (Vd K CG CH CT CP 1):=by
 have GH:qo P w K mg base (jN P w) 4 fH fdH ["ground","heap"] (Q8 K CG CH CT CP):=QE hH.fn B G T M hQ mt XS
 refine F.okX wP (λvs H Q E h=>?_) (λcdv A outer s H vs Q E hr h=>?_)
 . obtain⟨g,rs,v,fv,C,ws,rfl,lw,_⟩:=h
   show ws.length+2=3
   omega
 . obtain⟨g,rs,v,fv,C,ws,rfl,lw,r⟩:=h
   exact⟨_,qg (qJ (QH hH GH hr Qh (by rfl) (qb (jv 0) (qb (jv 1) qe)))) qE,_,rfl,_,rfl,g,rs,v,fv,C,rfl,r⟩
theorem US {f fH fQ fX CG D CM:Addr} {fd fdH fdQ fdX:FuncData} (F:jU K "walk" "walk" YR f fd) (B:Jj mg) (G:jR mg) (T:j2 K mg) (M:GM K mg CG) (hQ:jo K mg "need_place" jI Yo fQ fdQ) (mt:∃t,mg "MOST_TOKENS"=some (.int 8 t)) (hH:jo K mg "need_heap" jY ["ground","heap"] fH fdH) (xM:zw K mg D "NoMove" "NoMove.__init__" j3 "found" CM fX fdX) (kn:PySem.W.kitOne K (.type "NoneType") (.type "list")=some false):qo P w K mg base (jN P w) 4 f fd uf (Wr CG CM):=by
 have GH:qo P w K mg base qZ 3 fH fdH ["ground","heap"] (QK CG):=Jb hH.fn B G T M hQ mt
 have GX:qo P w K mg base qZ 1 fX fdX ["self","found"] (kh CM "found"):=Y1 xM
 refine F.okX wP (λvs H Q E h=>?_) (λcdv A outer s H vs Q E hr h=>?_)
 . obtain⟨g,h',rs,hs,rfl,_⟩:=h
   rfl
 . obtain⟨g,h',rs,hs,rfl,gr,hh,q⟩:=h
   refine⟨_,qg (qJ (qX hH GH hr (by rfl) (qb (jv 0) (qb (jv 1) qe))))
     (qg (qL (jP (ju (qp ja (by rfl) T.isi boot_isinstance (qb (jv 2) (qb (j6 (v:=.ty "list") (by rfl) G.lst boot_list rfl) qe))))) (qk (Jf rfl Qg (Jg xM.mkr GX (hr.mono (by decide)) (by rfl) xM.ns xM.bi Js (qb (jv 2) qe)))) qC) qE),?_⟩
   refine⟨_,rfl,_,rfl,g,h',rs,hs,rfl,gr,hh,λH1 s1=>?_⟩
   refine⟨_,rfl,_,_,_,_,rfl,rfl,.non,kn,_,rfl,Qq ⟨_,rfl,by show 1<=sizeLine;decide,λe he=>⟨e,.non,rfl,qd,λdx hdx=>⟨rfl,e,CM,dx,rfl,(jF he hdx).2.1,xM.rcls,?_⟩⟩⟩⟩
   obtain⟨m1,m2,m3⟩:=jF (fs:=[(Str.ofString "found",V.non)]) he hdx
   exact q _ dx (s1.trans m1) m3
theorem wR:Xr ["_law_here","_law_asked_here"] ["_law_here"] ["_law_asked_here"] (qi JQ):=⟨rfl,rfl,rfl,by decide+kernel,rfl,by decide+kernel,by decide+kernel,by decide+kernel,by decide+kernel⟩
theorem xx {PT f:Addr} {fd:FuncData}:qo P w K mg base qZ 1 f fd ["_law_here"] (wM PT f fd):=by
 refine x8 (PT:=PT) (name:="_law_player") (qual:=Zj) (st:=JQ) (fr:=["_law_asked_here"]) (sp:=yA) wR (λws vs H Q E h=>?_) (λc' cl A outer s H ws vs Q E hr h=>?_)
 . obtain⟨la,v,ys,rfl,rfl,_⟩:=h
   exact⟨rfl,rfl⟩
 . obtain⟨la,v,ys,rfl,rfl,hla,l5,q⟩:=h
   refine⟨_,qg (qJ (Y8 PySem.F.plainAttrs_list PySem.F.slot_list_append PySem.F.type_list_append Jl (jv 1) (qb (jv 0) qe))) (qk (qM JB)),?_⟩
   exact⟨_,rfl,(.inl ⟨rfl,_,.of hla⟩),_,rfl,la,ys,v,rfl,rfl,hla,Nat.lt_of_le_of_lt l5 (by decide),q⟩
def yy:Sp:=λvs H Q _=>∃n:Nat,vs=[.int (n:Nat)]/\∀z,Q (.str z) H
theorem wQ:qz ["made"] ["made"] (qi Uw):=⟨rfl,rfl,rfl,by decide+kernel,rfl,by decide+kernel,by decide+kernel⟩
theorem xw {f:Addr} {fd:FuncData} (F:jU K "who_won" "who_won" Uw f fd):qo P w K mg base qZ 1 f fd ["made"] yy:=by
 refine F.okJ wQ (λvs H Q E h=>?_) (λcdv A outer s H vs Q E hr h=>?_)
 . obtain⟨n,rfl,_⟩:=h
   rfl
 . obtain⟨n,rfl,q⟩:=h
   refine⟨_,qg (qL (qt jD (qI Ql (jv 0) qj) qj (qy _)) (qk (qM qQ)) qC) (qk (qM qQ)),?_⟩
   exact⟨_,rfl,_,_,rfl,rfl,(by show (0:Int) < 2;decide),rfl,_,rfl,zh (λ_=>q _) (λ_=>q _)⟩
abbrev wD (K:PySem.W.Frag) (i:Nat):TE:=yw (λxs H Q=>∃p ys,xs=[V.ref p]/\(SqL K H p ys\/SqT K H p ys)/\Q (V.int ys.length) H) (jc (jt i) QB)
abbrev Ks (K:PySem.W.Frag) (i:Nat):TE:=yw (λxs H Q=>∃p ys,xs=[V.ref p]/\(SqL K H p ys\/SqT K H p ys)/\∀l,H l=none->Q (.ref l) (upd H l (.lst ys))) (jc (jt i) QB)
def CPl (PT:Addr) (f:Addr) (fd:FuncData) (sp:Sp):Prop:=(∃(doc pm ctv:Value) (c':Addr) (cl:List (Str×Addr)),fd=PySem.W.fnX "_law_player" Zj (jH JQ) (je JQ) (qi JQ) cl .none .none doc pm none (.ref c') ctv)/\sp=wM PT f fd
theorem vB {PT:Addr}:∀f fd sp,CPl PT f fd sp->qo P w K mg base qZ 1 f fd ["_law_here"] sp/\jx K fd ["_law_here"] []:=by
 rintro f fd sp ⟨⟨doc,pm,ctv,c',cl,rfl⟩,rfl⟩
 exact⟨xx,.all λus hl=>by obtain⟨_,rfl⟩:=Zn hl;rfl⟩
abbrev nPd:List Str:=["ground","heap","first","second","most","now","moves","player","move"]
abbrev ug:List Str:=["ground","heap","first","second","most"]
theorem XF:qz nPd ug (qi JR):=⟨rfl,rfl,rfl,by decide+kernel,rfl,by decide+kernel,by decide+kernel⟩
theorem XT {f fH fQ CG D CH CT CP:Addr} {fd fdH fdQ:FuncData} (F:jU K "played" "played" JR f fd) (B:Jj mg) (G:jR mg) (T:j2 K mg) (M:GM K mg CG) (hQ:jo K mg "need_place" jI Yo fQ fdQ) (mt:∃t,mg "MOST_TOKENS"=some (.int 8 t)) (hH:jo K mg "need_heap" jY ["ground","heap"] fH fdH) (XS:vP K mg D CH CT CP):qo P w K mg base (jN P w) 5 f fd ug (Vd K CG CH CT CP 3):=by
 have GH:qo P w K mg base (jN P w) 4 fH fdH ["ground","heap"] (Q8 K CG CH CT CP):=QE hH.fn B G T M hQ mt XS
 refine F.okX XF (λvs H Q E h=>?_) (λcdv A outer s H vs Q E hr h=>?_)
 . obtain⟨g,rs,v,fv,C,ws,rfl,lw,_⟩:=h
   show ws.length+2=5
   omega
 . obtain⟨g,rs,v,fv,C,ws,rfl,lw,r⟩:=h
   exact⟨_,qg (qJ (QH hH GH hr Qh (by rfl) (qb (jv 0) (qb (jv 1) qe)))) qE,_,rfl,_,rfl,g,rs,v,fv,C,rfl,r⟩
theorem XU {f fH fQ fO fA fW fX CG D CM PT:Addr} {fd fdH fdQ fdO fdA fdW fdX:FuncData} (F:jU K "played" "played" JR f fd) (B:Jj mg) (G:jR mg) (T:j2 K mg) (M:GM K mg CG) (Z:HM K mg) (hQ:jo K mg "need_place" jI Yo fQ fdQ) (hH:jo K mg "need_heap" jY ["ground","heap"] fH fdH)
   (hO:jo K mg "is_over" Z3 ["ground","heap"] fO fdO) (hA:jo K mg "after" Zi yK fA fdA) (hW:jo K mg "who_won" Uw ["made"] fW fdW) (xM:zw K mg D "NoMove" "NoMove.__init__" j3 "found" CM fX fdX):qo P w K mg base (jN P w) 7 f fd ug (yB CG CM PT):=by
 have GH:qo P w K mg base qZ 3 fH fdH ["ground","heap"] (QK CG):=Jb hH.fn B G T M hQ Z.mt
 have GO:qo P w K mg base qZ 5 fO fdO xC (Jw CG):=Yk hO.fn B G T M Z
 have GA:qo P w K mg base (jN P w) 6 fA fdA yK (JM K CG CM):=zJ hA.fn B G T M Z xM
 have GW:qo P w K mg base qZ 1 fW fdW ["made"] yy:=xw hW.fn
 refine F.okX XF (λvs H Q E h=>?_) (λcdv A outer s H vs Q E hr h=>?_)
 . obtain⟨g,h',f',la,fd',rs,hs,H0,rfl,_⟩:=h
   rfl
 . obtain⟨g,h',f',la,fd',rs,hs,H0,rfl,s0,n0,gr,good,le14,hh,hla,cl,q⟩:=h
   have r1:qS 1 _:=hr.mono (by decide)
   have r3:qS 3 _:=hr.mono (by decide)
   have r5:qS 5 _:=hr.mono (by decide)
   refine⟨_,qg (qJ (qX hH GH r3 (by rfl) (qb (jv 0) (qb (jv 1) qe))))
     (qg (qA (i:=5) XF.nd rfl (Or.inl rfl) (jp jQ (by rfl) G.lst boot_list (qb (jv 1) qe)))
     (qg (qA (i:=6) XF.nd rfl (Or.inl rfl) (jk qe))
     (qg (WO (t:=Ub (yW (Wl (Xs (yJ λi j=>.bl (decide (i < j))) (wD K 6) (jt 4))) (wB (tB (ZX (Jw CG) [] E0 (jc (jt 0) (jc (jt 5) QB))))))
         (Vc (YM (tIf (Wl (Xs rEq (Xs (rI (λ_ j=>0 < j) λi j=>.int (i % j)) (wD K 6) (tC (.int 2))) (tC (.int 0)))) (jt 2) (jt 3)) (QI 7)) (Vc (YM (Ug 7 (CPl PT) (λ_=>E0) (jc (Ks K 5) QB)) (QI 8)) (Vc (YM (ZX (JM K CG CM) [] E (jc (jt 0) (jc (jt 5) (jc (jt 8) QB)))) (QI 5)) Uc)))) λpn W hO' hP' hR'=>
       U8 hO' (JW.pt (jO (qt j8 (qp qB (by rfl) B.len boot_len (qb (jv 6) qe)) (jv 4) (qy _)) (jA (jP (ju (qX hO GO r5 (by rfl) (qb (jv 0) (qb (jv 5) qe))))))))
         (qg (qA (i:=7) XF.nd rfl (Or.inl rfl) (ve (qt jD (qI Ql (qp qB (by rfl) B.len boot_len (qb (jv 6) qe)) qj) qj (qy _)) (jv 2) (jv 3)))
         (qg (qA (i:=8) XF.nd rfl (Or.inl rfl) (vg (x:="player") (i:=7) rfl (Or.inl rfl) (λf fd sp c=>⟨1,_,(vB f fd sp c).1,r1,(vB (P:=P) (w:=w) (mg:=mg) (base:=base) f fd sp c).2⟩) (jm.s Js) (qb (jp jQ (by rfl) G.lst boot_list (qb (jv 5) qe)) qe)))
         (qg (qA (i:=5) XF.nd rfl (Or.inl rfl) (QH hA GA hr hP' (by rfl) (qb (jv 0) (qb (jv 5) (qb (jv 8) qe))))) qE))))
     (qg (qL (ju (qX hO GO r5 (by rfl) (qb (jv 0) (qb (jv 5) qe)))) (qk (qM (j0 (qb (jv 6) (qb (qX hW GW r1 (by rfl) (qb (qp qB (by rfl) B.len boot_len (qb (jv 6) qe)) qe)) qe))))) qE) qE)))),?_⟩
   refine⟨_,rfl,_,rfl,g,h',rs,hs,rfl,gr.mono s0,hh.mono s0,λH1 s1=>?_⟩
   have s01:=s0.trans s1
   refine⟨_,rfl,h',_,rfl,.inl (.of (hh.mono s01).at_),λno hno=>⟨by show 0<=sizeLine;decide,λmo hmo=>?_⟩⟩
   have u2:=qh (o:=HO.lst (hs.map V.str)) hno
   have v2:upd H1 no (.lst (hs.map V.str)) no=some (.lst (hs.map V.str)):=qd
   have nla:no≠la:=λz=>by rw[z,s1 _ _ hla]at hno;cases hno
   generalize upd H1 no (.lst (hs.map V.str))=H2 at u2 v2 hmo
   have u3:=qh (o:=HO.lst []) hmo
   have v3:upd H2 mo (.lst []) mo=some (.lst []):=qd
   generalize upd H2 mo (.lst [])=H3 at u3 v3
   have s03:=(s01.trans u2).trans u3
   have s13:=(s1.trans u2).trans u3
   have hh3:jn H3 no rs hs:=⟨u3 _ _ v2,hh.le,hh.in_⟩
   refine⟨λm σ' X=>m=0/\σ'=[some (.ref g),some (.ref h'),some (.ref f'),some (.ref f'),some (.int 5),some (.ref no),some (.ref mo),none,none]/\X=H3,⟨0,rfl,rfl,rfl⟩,?_⟩
   rintro m σ' X ⟨rfl,rfl,rfl⟩
   refine⟨_,rfl,mo,_,rfl,.inl (.of v3),_,rfl,_,_,rfl,rfl,_,rfl,qR (decide_eq_true (by show (0:Int) < 5;decide)) ?_⟩
   refine⟨_,rfl,_,rfl,g,no,rs,hs,rfl,gr.mono s03,good,le14,hh3,λH4 s4=>⟨_,rfl,?_⟩⟩
   have s04:=s03.trans s4
   rcases q with ⟨em,q⟩ | ⟨nem,q⟩
   . rw[em]
     refine qv rfl ?_
     refine⟨_,rfl,_,rfl,g,no,rs,hs,rfl,gr.mono s04,good,le14,hh3.mono s4,λH5 s5=>⟨_,rfl,qR (by rw[em];rfl) ?_⟩⟩
     refine⟨_,rfl,_,rfl,mo,_,rfl,.inl (.of ((s4.trans s5) _ _ v3)),0,rfl,λz=>⟨by show 2<=sizeLine;decide,λp hp=>?_⟩⟩
     exact q _ _ (((s13.trans s4).trans s5).trans (qh hp))
   . have e:(QF rs hs hs.length).isEmpty=false:=by
       cases z:QF rs hs hs.length with
       | nil=>exact absurd z nem
       | cons a l=>rfl
     rw[e]
     refine qR rfl ⟨λ_ _=>False,λ_ _ z=>z.elim,?_⟩
     refine⟨_,rfl,mo,_,rfl,.inl (.of (s4 _ _ v3)),_,_,rfl,rfl,(by show (0:Int) < 2;decide),rfl,_,rfl,qR (decide_eq_true rfl) ⟨_,rfl,?_⟩⟩
     have s14:=s13.trans s4
     have frz:∀{X:Hp},Same H X->∀b o u,H b=some (.frz o u)->X b=some (.frz o u):=λsX b o u z=>sX _ _ z
     obtain⟨doc,pm,ctv,c',cl2,oc,efd,hf,hcd,rest⟩:=cl.ex
     refine⟨f',fd',_,rfl,⟨⟨doc,pm,ctv,c',cl2,efd⟩,rfl⟩,s14 _ _ hf,_,rfl,no,_,rfl,.inl (.of (s4 _ _ hh3.at_)),λl2 hl2=>?_⟩
     have u5:=qh (o:=HO.lst (hs.map V.str)) hl2
     generalize upd H4 l2 (.lst (hs.map V.str))=H5 at u5
     have s15:=s14.trans u5
     refine⟨s15 _ _ hf,_,cl.mono (frz s15),la,.ref l2,[],rfl,rfl,s15 _ _ hla,by decide,?_⟩
     have s06:Same H0 (upd H5 la (.lst ([]++[V.ref l2]))):=λb o hb=>by
       rw[qf (ql hb n0)]
       exact u5 _ _ (s04 _ _ hb)
     have hn6:upd H5 la (.lst ([]++[V.ref l2])) no=some (.lst (hs.map V.str)):=by
       rw[qf nla]
       exact u5 _ _ (s4 _ _ hh3.at_)
     have hl6:upd H5 la (.lst ([]++[V.ref l2])) la=some (.lst [V.ref l2]):=qd
     generalize upd H5 la (.lst ([]++[V.ref l2]))=H6 at s06 hn6 hl6
     refine⟨_,rfl,_,rfl,_,rfl,g,no,rs,hs,.non,rfl,gr.mono s06,good,le14,⟨hn6,hh.le,hh.in_⟩,.ty .non (uz K),λH7 dx s7 hdx=>?_⟩
     exact q H7 dx _ (s06.trans s7) (s7 _ _ hl6) hdx
end
end Rh
set_option Elab.async false
set_option linter.all false
set_option maxRecDepth 100000
set_option maxHeartbeats 4000000
namespace Rh
open PySem L2 PyProof.Rows
def jV (way:Int) (ms:List (Nat×Str)):Prop:=way=3\/way=5\/(way=4/\ms≠[])
def yD (K:PySem.W.Frag) (CG CH CT CP CM PT:Addr):Sp:=λvs H Q E=>∃(way:Int) (g la:Addr) (v:V) (rs:Q1) (H0:Hp),vs=[.int way,.ref g,v,.ref la]/\0<=way/\way < 6/\Same H0 H/\H0 la=none/\H la=some (.lst [])/\H0 PT=some (.tbl #[.str Zj 0])/\jS CG H0 g rs/\qH rs/\rs.length<=14/\
 ((∃(fv:V) (C:Addr),zx K CH CT CP H0 (rs.map (·.1)) v C fv/\∀H1 dx,Same H H1->H1 dx=some (.xd [(Str.ofString "found",fv)])->E (.ref C) (some dx) H1)\/
  ∃(h:Addr) (hs:List Str),v=.ref h/\jn H0 h rs hs/\((jV way (QF rs hs hs.length)/\∀H1 dx ys,Same H0 H1->H1 la=some (.lst ys)->ys.length<=1->H1 dx=some (.xd [(Str.ofString "found",.non)])->E (.ref CM) (some dx) H1)\/
   (¬jV way (QF rs hs hs.length)/\∀H',Same H H'->Q .non H')))
structure HD (K:PySem.W.Frag) (mg:Str->Option Value):Prop where
 ov:∃f fd,jo K mg "is_over" Z3 ["ground","heap"] f fd
 af:∃f fd,jo K mg "after" Zi yK f fd
 ww:∃f fd,jo K mg "who_won" Uw ["made"] f fd
 pd:∃f fd,jo K mg "played" JR ug f fd
 wk:∃f fd,jo K mg "walk" YR uf f fd
theorem vE {K:PySem.W.Frag} {CH CT CP:Addr} {H H':Hp} {N:List Str} {v:V} {C:Addr} {fv:V} (h:zx K CH CT CP H N v C fv) (s:Same H H'):zx K CH CT CP H' N v C fv:=h.keep s.keep
section
variable {P:Program} {w:World} {K:PySem.W.Frag} {mg:Str->Option Value} {base:Heap}
abbrev uv:List Str:=["_law_way","_law_ground","_law_heap_here","_law_asked_here","_law_player"]
abbrev XO:List Str:=["_law_way","_law_ground","_law_heap_here","_law_asked_here"]
theorem yF:qz uv XO (qi Qk):=⟨rfl,rfl,rfl,by decide+kernel,rfl,by decide+kernel,by decide+kernel⟩
theorem xB {f c PT CG D CH CT CP CM fX:Addr} {fd fdX:FuncData} (F:jU K "_law_asked" "_law_asked" Qk f fd) (hc:fd.code=.ref c) (TM:YB mg base c PT) (B:Jj mg) (G:jR mg) (T:j2 K mg) (M:GM K mg CG) (Z:HM K mg) (W:HD K mg) (XS:vP K mg D CH CT CP) (xM:zw K mg D "NoMove" "NoMove.__init__" j3 "found" CM fX fdX) (kn:PySem.W.kitOne K (.type "NoneType") (.type "list")=some false):
   qo P w K mg base (jN P w) 8 f fd XO (yD K CG CH CT CP CM PT):=by
 obtain⟨fQ,fdQ,hQ⟩:=Z.pl
 obtain⟨fH,fdH,hH⟩:=Z.nh
 obtain⟨fMo,fdMo,hMo⟩:=Z.mo
 obtain⟨fO,fdO,hO⟩:=W.ov
 obtain⟨fA,fdA,hA⟩:=W.af
 obtain⟨fW,fdW,hW⟩:=W.ww
 obtain⟨fPd,fdPd,hPd⟩:=W.pd
 obtain⟨fWk,fdWk,hWk⟩:=W.wk
 have GH1:qo P w K mg base qZ 3 fH fdH ["ground","heap"] (QK CG):=Jb hH.fn B G T M hQ Z.mt
 have GH:qo P w K mg base (jN P w) 7 fH fdH ["ground","heap"] (λvs H Q E=>QK CG vs H Q E\/Q8 K CG CH CT CP vs H Q E):=qo.or (GH1.up (by decide)).cx ((QE hH.fn B G T M hQ Z.mt XS).up (by decide))
 have GM1:qo P w K mg base qZ 4 fMo fdMo ["ground","heap"] (ZK CG):=Y0 hMo.fn B G T M hQ Z.mt hH
 have GMo:qo P w K mg base (jN P w) 7 fMo fdMo ["ground","heap"] (λvs H Q E=>ZK CG vs H Q E\/Q8 K CG CH CT CP vs H Q E):=qo.or (GM1.up (by decide)).cx ((zH hMo.fn B G T M hQ Z.mt hH XS).up (by decide))
 have GO1:qo P w K mg base qZ 5 fO fdO xC (Jw CG):=Yk hO.fn B G T M Z
 have GO:qo P w K mg base (jN P w) 7 fO fdO ["ground","heap"] (λvs H Q E=>Jw CG vs H Q E\/Q8 K CG CH CT CP vs H Q E):=qo.or (GO1.up (by decide)).cx ((UU hO.fn B G T M hQ Z.mt hH hMo XS).up (by decide))
 have GA:qo P w K mg base (jN P w) 7 fA fdA yK (λvs H Q E=>JM K CG CM vs H Q E\/Vd K CG CH CT CP 1 vs H Q E):=qo.or ((zJ hA.fn B G T M Z xM).up (by decide)) ((Vz hA.fn B G T M hQ Z.mt hH XS).up (by decide))
 have GP:qo P w K mg base (jN P w) 7 fPd fdPd ug (λvs H Q E=>yB CG CM PT vs H Q E\/Vd K CG CH CT CP 3 vs H Q E):=qo.or (XU hPd.fn B G T M Z hQ hH hO hA hW xM) ((XT hPd.fn B G T M hQ Z.mt hH XS).up (by decide))
 have GK:qo P w K mg base (jN P w) 7 fWk fdWk uf (λvs H Q E=>Wr CG CM vs H Q E\/Vd K CG CH CT CP 1 vs H Q E):=qo.or ((US hWk.fn B G T M hQ Z.mt hH xM kn).up (by decide)) ((UT hWk.fn B G T M hQ Z.mt hH XS).up (by decide))
 refine F.okB hc yF (λvs H Q E h=>?_) (λA outer s H vs Q E hr h=>?_)
 . obtain⟨way,g,la,v,rs,H0,rfl,_⟩:=h
   rfl
 . obtain⟨way,g,la,v,rs,H0,rfl,w0,w6,s0,n0,hla,htb,gr,good,le14,h⟩:=h
   refine⟨_,xl (i:=4) (c:=c) (P:=PT) (qual:=Zj) TM yF.nd rfl rfl rfl rfl rfl (λ_=>rfl) rfl rfl rfl (ue (qk
     (qL (qt jD (jv 0) qj (qy _)) (qk (qJ (QH hH GH hr jZ (by rfl) (qb (jv 1) (qb (jv 2) qe)))))
     (qk (qL (qt jD (jv 0) qj (qy _)) (qk (qJ (QH hMo GMo hr jZ (by rfl) (qb (jv 1) (qb (jv 2) qe)))))
     (qk (qL (qt jD (jv 0) qj (qy _)) (qk (qJ (QH hO GO hr jZ (by rfl) (qb (jv 1) (qb (jv 2) qe)))))
     (qk (qL (qt jD (jv 0) qj (qy _)) (qk (qJ (QH hA GA hr jZ (by rfl) (qb (jv 1) (qb (jv 2) (qb JB qe))))))
     (qk (qL (qt jD (jv 0) qj (qy _)) (qk (qJ (QH hPd GP hr jZ (by rfl) (qb (jv 1) (qb (jv 2) (qb (jv 4) (qb (jv 4) (qb qj qe))))))))
     (qk (qJ (QH hWk GK hr jZ (by rfl) (qb (jv 1) (qb (jv 2) (qb JB qe))))))))))))))))),?_⟩
   refine⟨⟨0,s0 _ _ htb⟩,λf' c' doc pm ctv oc H1 mk=>?_⟩
   have s1:=mk.same
   have s01:=s0.trans s1
   have cl:wf H1 PT f' "_law_player" Zj JQ (PySem.W.fnX "_law_player" Zj (jH JQ) (je JQ) (qi JQ) (qO (js (jN P w) P w K mg base uv "_law_asked" (qi Qk) f (.ref c) A outer s H E).env (qi JQ).names []) .none .none doc pm none (.ref c') ctv) [(Str.ofString "_law_asked_here",.ref la)]:=by
     refine⟨doc,pm,ctv,c',_,oc,rfl,mk.fn,mk.cd,mk.cq,mk.inj,λx cc e=>?_,λx v' hx=>?_⟩
     . rcases Qa e with z | ⟨z,_⟩
       . simp at z
       . have:∀y∈(qi JQ).names,y.2=.free->y.1∈[Str.ofString "_law_asked_here"]:=by decide+kernel
         exact this _ z rfl
     . obtain⟨rfl,rfl⟩:x=Str.ofString "_law_asked_here"/\v'=.ref la:=by simpa using hx
       have hm:(Str.ofString "_law_asked_here",NameKind.free)∈(qi JQ).names:=by decide+kernel
       obtain⟨ca,co,u0,e1,e2,e3,e4⟩:=mk.cells _ hm
       obtain⟨u,rfl,ru⟩:=e4 3 (.ref la) rfl rfl
       exact⟨ca,co,u,e1,e2,e3,ru⟩
   have no:∀{a b:Int},a≠b->decide (V.int a=V.int b)=false:=λh=>decide_eq_false λz=>h (V.int.inj z)
   have yes:∀{a:Int},decide (V.int a=V.int a)=true:=decide_eq_true rfl
   have gr1:=gr.mono s01
   have ew:way=0\/way=1\/way=2\/way=3\/way=4\/way=5:=by omega
   rcases h with ⟨fv,C,bad,hb⟩ | ⟨h,hs,rfl,hh,q⟩
   . have bad1:=vE bad s01
     have e2:∀H2 dx,Same H1 H2->H2 dx=some (.xd [(Str.ofString "found",fv)])->E (.ref C) (some dx) H2:=λH2 dx s2 hd=>hb H2 dx (s1.trans s2) hd
     rcases ew with rfl | rfl | rfl | rfl | rfl | rfl
     . exact⟨_,rfl,rfl,_,rfl,qR yes ⟨_,rfl,_,rfl,.inr ⟨g,rs,v,fv,C,rfl,gr1,good,le14,bad1,e2⟩⟩⟩
     . exact⟨_,rfl,rfl,_,rfl,qv (no (by decide)) ⟨_,rfl,rfl,_,rfl,qR yes ⟨_,rfl,_,rfl,.inr ⟨g,rs,v,fv,C,rfl,gr1,good,le14,bad1,e2⟩⟩⟩⟩
     . exact⟨_,rfl,rfl,_,rfl,qv (no (by decide)) ⟨_,rfl,rfl,_,rfl,qv (no (by decide)) ⟨_,rfl,rfl,_,rfl,qR yes ⟨_,rfl,_,rfl,.inr ⟨g,rs,v,fv,C,rfl,gr1,good,le14,bad1,e2⟩⟩⟩⟩⟩
     . exact⟨_,rfl,rfl,_,rfl,qv (no (by decide)) ⟨_,rfl,rfl,_,rfl,qv (no (by decide)) ⟨_,rfl,rfl,_,rfl,qv (no (by decide)) ⟨_,rfl,rfl,_,rfl,qR yes ⟨_,rfl,_,rfl,.inr ⟨g,rs,v,fv,C,[.non],rfl,rfl,gr1,good,le14,bad1,e2⟩⟩⟩⟩⟩⟩
     . exact⟨_,rfl,rfl,_,rfl,qv (no (by decide)) ⟨_,rfl,rfl,_,rfl,qv (no (by decide)) ⟨_,rfl,rfl,_,rfl,qv (no (by decide)) ⟨_,rfl,rfl,_,rfl,qv (no (by decide)) ⟨_,rfl,rfl,_,rfl,qR yes ⟨_,rfl,_,rfl,_,rfl,_,rfl,.inr ⟨g,rs,v,fv,C,[.ref f',.ref f',.int 5],rfl,rfl,gr1,good,le14,bad1,e2⟩⟩⟩⟩⟩⟩⟩
     . exact⟨_,rfl,rfl,_,rfl,qv (no (by decide)) ⟨_,rfl,rfl,_,rfl,qv (no (by decide)) ⟨_,rfl,rfl,_,rfl,qv (no (by decide)) ⟨_,rfl,rfl,_,rfl,qv (no (by decide)) ⟨_,rfl,rfl,_,rfl,qv (no (by decide)) ⟨_,rfl,_,rfl,.inr ⟨g,rs,v,fv,C,[.non],rfl,rfl,gr1,good,le14,bad1,e2⟩⟩⟩⟩⟩⟩⟩
   . have hh1:=hh.mono s01
     have qn:∀{way:Int},¬jV way (QF rs hs hs.length)->((jV way (QF rs hs hs.length)/\∀H1 dx ys,Same H0 H1->H1 la=some (.lst ys)->ys.length<=1->H1 dx=some (.xd [(Str.ofString "found",.non)])->E (.ref CM) (some dx) H1)\/(¬jV way (QF rs hs hs.length)/\∀H',Same H H'->Q .non H'))->∀H',Same H1 H'->Q .non H':=λn q H' s'=>by
       rcases q with ⟨z,_⟩ | ⟨_,q⟩
       . exact absurd z n
       . exact q H' (s1.trans s')
     have qm:∀{way:Int},jV way (QF rs hs hs.length)->((jV way (QF rs hs hs.length)/\∀H1 dx ys,Same H0 H1->H1 la=some (.lst ys)->ys.length<=1->H1 dx=some (.xd [(Str.ofString "found",.non)])->E (.ref CM) (some dx) H1)\/(¬jV way (QF rs hs hs.length)/\∀H',Same H H'->Q .non H'))->∀H2 dx ys,Same H0 H2->H2 la=some (.lst ys)->ys.length<=1->H2 dx=some (.xd [(Str.ofString "found",.non)])->E (.ref CM) (some dx) H2:=λn q=>by
       rcases q with ⟨_,q⟩ | ⟨z,_⟩
       . exact q
       . exact absurd n z
     have nw:∀{way:Int},way=0\/way=1\/way=2->¬jV way (QF rs hs hs.length):=λe z=>by
       rcases z with z | z | ⟨z,_⟩<;>omega
     rcases ew with rfl | rfl | rfl | rfl | rfl | rfl
     . exact⟨_,rfl,rfl,_,rfl,qR yes ⟨_,rfl,_,rfl,.inl ⟨g,h,rs,hs,rfl,gr1,hh1,λH2 s2=>qn (nw (.inl rfl)) q H2 s2⟩⟩⟩
     . exact⟨_,rfl,rfl,_,rfl,qv (no (by decide)) ⟨_,rfl,rfl,_,rfl,qR yes ⟨_,rfl,_,rfl,.inl ⟨g,h,rs,hs,rfl,gr1,good,le14,hh1,λH2 l ps s2 _ _ _=>qn (nw (.inr (.inl rfl))) q H2 s2⟩⟩⟩⟩
     . exact⟨_,rfl,rfl,_,rfl,qv (no (by decide)) ⟨_,rfl,rfl,_,rfl,qv (no (by decide)) ⟨_,rfl,rfl,_,rfl,qR yes ⟨_,rfl,_,rfl,.inl ⟨g,h,rs,hs,rfl,gr1,good,le14,hh1,λH2 s2=>qn (nw (.inr (.inr rfl))) q H2 s2⟩⟩⟩⟩⟩
     . exact⟨_,rfl,rfl,_,rfl,qv (no (by decide)) ⟨_,rfl,rfl,_,rfl,qv (no (by decide)) ⟨_,rfl,rfl,_,rfl,qv (no (by decide)) ⟨_,rfl,rfl,_,rfl,qR yes ⟨_,rfl,_,rfl,.inl ⟨g,h,rs,hs,.non,rfl,gr1,good,le14,hh1,.ty .non (uz K),λH2 dx s2 hd=>qm (.inl rfl) q H2 dx [] (s01.trans s2) ((s1.trans s2) _ _ hla) (by decide) hd⟩⟩⟩⟩⟩⟩
     . refine⟨_,rfl,rfl,_,rfl,qv (no (by decide)) ⟨_,rfl,rfl,_,rfl,qv (no (by decide)) ⟨_,rfl,rfl,_,rfl,qv (no (by decide)) ⟨_,rfl,rfl,_,rfl,qv (no (by decide)) ⟨_,rfl,rfl,_,rfl,qR yes ⟨_,rfl,_,rfl,_,rfl,_,rfl,.inl ⟨g,h,f',la,_,rs,hs,H0,rfl,s01,n0,gr,good,le14,hh,s1 _ _ hla,cl,?_⟩⟩⟩⟩⟩⟩⟩
       rcases Classical.em (QF rs hs hs.length=[]) with em | nem
       . refine .inl ⟨em,λv H' s'=>qn (λz=>?_) q H' s'⟩
         rcases z with z | z | ⟨_,z⟩
         . exact absurd z (by decide)
         . exact absurd z (by decide)
         . exact z em
       . exact .inr ⟨nem,λH2 dx v s2 h2 hd=>qm (.inr (.inr ⟨rfl,nem⟩)) q H2 dx [v] s2 h2 (by show 1<=1;decide) hd⟩
     . exact⟨_,rfl,rfl,_,rfl,qv (no (by decide)) ⟨_,rfl,rfl,_,rfl,qv (no (by decide)) ⟨_,rfl,rfl,_,rfl,qv (no (by decide)) ⟨_,rfl,rfl,_,rfl,qv (no (by decide)) ⟨_,rfl,rfl,_,rfl,qv (no (by decide)) ⟨_,rfl,_,rfl,.inl ⟨g,h,rs,hs,rfl,gr1,hh1,λH2 dx s2 hd=>qm (.inr (.inl rfl)) q H2 dx [] (s01.trans s2) ((s1.trans s2) _ _ hla) (by decide) hd⟩⟩⟩⟩⟩⟩⟩
end
end Rh
set_option Elab.async false
set_option linter.all false
set_option maxRecDepth 100000
set_option maxHeartbeats 4000000
namespace Rh
open PySem L2 PyProof.Rows
abbrev YS:Stmt:=top 46
def K9 (CH CT CP C:Addr) (wd:Str):Prop:=(C=CH/\wd=Str.ofString "heap")\/(C=CT/\wd=Str.ofString "many")\/(C=CP/\wd=Str.ofString "place")
structure wb (K:PySem.W.Frag) (mg:Str->Option Value) (D CH CT CP CM:Addr):Prop where
 nD:mg "HeapError"=some (.ref D)
 h1:PySem.W.kitOne K (.ref CH) (.ref D)=some true
 t1:PySem.W.kitOne K (.ref CT) (.ref D)=some true
 p1:PySem.W.kitOne K (.ref CP) (.ref D)=some true
 m1:PySem.W.kitOne K (.ref CM) (.ref D)=some true
 h2:PySem.W.kitAny K (.ref CH) [.ref CP,.ref CT,.ref CM]=some false
 t2:PySem.W.kitAny K (.ref CT) [.ref CP,.ref CM]=some false
 p2:PySem.W.kitOne K (.ref CP) (.ref CM)=some false
 th:CT≠CH
 ph:CP≠CH
 pt:CP≠CT
 mh:CM≠CH
 mt:CM≠CT
 mp:CM≠CP
 dh:D≠CH
 dt:D≠CT
 dp:D≠CP
 spc:PySem.W.specialIn K (.builtin "object.__class__") "__get__"=some (some (.builtin "getset_descriptor.__get__"))
 tks:PySem.W.takesIn K (.builtin "object.__class__")=some true
theorem zT {C D Cl:Addr} (h1:C≠Cl) (h2:D≠Cl):(Value.ref C::.ref D::qV).contains (.ref Cl)=false:=by
 rw[List.contains_cons,List.contains_cons]
 have e1:(Value.ref Cl==Value.ref C)=false:=by
   rw[beq_eq_false_iff_ne]
   intro z
   exact h1 (Value.ref.inj z).symm
 have e2:(Value.ref Cl==Value.ref D)=false:=by
   rw[beq_eq_false_iff_ne]
   intro z
   exact h2 (Value.ref.inj z).symm
 rw[e1,e2]
 rfl
def y6 (K:PySem.W.Frag) (CG CH CT CP PT:Addr):Sp:=λvs H Q _=>∃(way:Int) (g:Addr) (v:V) (rs:Q1),vs=[.int way,.ref g,v]/\0<=way/\way < 6/\H PT=some (.tbl #[.str Zj 0])/\jS CG H g rs/\qH rs/\rs.length<=14/\
 ((∃(fv:V) (C:Addr) (wd:Str),zx K CH CT CP H (rs.map (·.1)) v C fv/\K9 CH CT CP C wd/\∀H' R Lf,jw H H'->R≠sysModules->Lf≠sysModules->H' R=some (.lst [.ref Lf,.int 0])->H' Lf=some (.lst [.str wd,fv,.bl true])->Q (.ref R) H')\/
  ∃(h:Addr) (hs:List Str),v=.ref h/\jn H h rs hs/\∀H' R Lf n,jw H H'->H' R=some (.lst [.ref Lf,.int n])->((jV way (QF rs hs hs.length)/\H' Lf=some (.lst [.str (Str.ofString "move"),.non,.bl true]))\/(¬jV way (QF rs hs hs.length)/\H' Lf=some (.lst [.str (Str.ofString "good")])))->Q (.ref R) H')
section
variable {P:Program} {w:World} {K:PySem.W.Frag} {mg:Str->Option Value} {base:Heap}
abbrev nTd:List Str:=["_law_way","_law_ground","_law_heap_here","_law_asked_here","_law_found","e"]
abbrev wl:List Str:=["_law_way","_law_ground","_law_heap_here"]
theorem Z2:qz nTd wl (qi YS):=⟨rfl,rfl,rfl,by decide+kernel,rfl,by decide+kernel,by decide+kernel⟩
abbrev wF (K:PySem.W.Frag) (D:Addr) (v:V):TE:=yw (UE K (.ref D::qV)) (jc (jt 5) (jc (tC v) QB))
abbrev wE (K:PySem.W.Frag) (D:Addr) (t:TA):TE:=yw (WF K (.ref D::qV)) (jc (jt 5) (jc (vU t) QB))
abbrev Kd (K:PySem.W.Frag) (D:Addr) (tag:Str) (t:TE):TS:=YM (yr (jc (tC (.str tag)) (jc (yt K (.ref D::qV) (jt 5) (Str.ofString "found")) (jc t QB)))) (QI 4)
theorem uj {f fA c PT CG D CH CT CP CM fX:Addr} {fd fdA fdX:FuncData} (F:jU K "_law_told" "_law_told" YS f fd) (hA:jo K mg "_law_asked" Qk XO fA fdA) (hc:fdA.code=.ref c) (TM:YB mg base c PT) (B:Jj mg) (G:jR mg) (T:j2 K mg) (M:GM K mg CG) (Z:HM K mg) (W:HD K mg) (XS:vP K mg D CH CT CP) (xm:zw K mg D "NoMove" "NoMove.__init__" j3 "found" CM fX fdX) (kn:PySem.W.kitOne K (.type "NoneType") (.type "list")=some false) (ZT:wb K mg D CH CT CP CM):
   qo P w K mg base qZ 9 f fd wl (y6 K CG CH CT CP PT):=by
 obtain⟨fh,fdh,xh⟩:=XS.h
 obtain⟨ft,fdt,xt⟩:=XS.t
 obtain⟨fp,fdp,xp⟩:=XS.p
 have GA:qo P w K mg base (jN P w) 8 fA fdA XO (yD K CG CH CT CP CM PT):=xB hA.fn hc TM B G T M Z W XS xm kn
 refine F.okJ Z2 (λvs H Q E h=>?_) (λcdv A outer s H vs Q E hr h=>?_)
 . obtain⟨way,g,v,rs,rfl,_⟩:=h
   rfl
 . obtain⟨way,g,v,rs,rfl,w0,w6,htb,gr,good,le14,h⟩:=h
   refine⟨_,qg (qA (i:=3) Z2.nd rfl (Or.inl rfl) (jk qe))
     (qg (qA (i:=4) Z2.nd rfl (Or.inl rfl) (jG (qb qQ qe)))
     (qg (xN rfl rfl (λpn W E hE=>qk (qJ (uF hA GA hr hE (by rfl) (qb (jv 0) (qb (jv 1) (qb (jv 2) (qb (jv 3) qe)))))))
       (ZO (j:=5) (ts:=Kd K D (Str.ofString "heap") (Wp (wF K D (.ref D)) (Wm (wE K D (jc (tC (.ref CP)) (jc (tC (.ref CT)) (jc (tC (.ref CM)) QB))))))) (by rfl) xh.ns xh.rcls Z2.nd rfl rfl
         (λv E=>qk (qA (i:=4) Z2.nd rfl (Or.inl rfl) (jG (qb qQ (qb (ZQ (bm:=.ref D::qV) (jv 5) rfl) (qb (Zr (qp (Qb (bm:=.ref D::qV) ZT.spc ZT.tks) (by rfl) T.isi boot_isinstance (qb (jv 5) (qb (jh (v:=.ref D) (by rfl) ZT.nD rfl) qe))) (Zq (Yq (qp (ZF (bm:=.ref D::qV) ZT.spc ZT.tks) (by rfl) T.isi boot_isinstance (qb (jv 5) (qb (j0 (qb (jh (v:=.ref CP) (by rfl) xp.ns rfl) (qb (jh (v:=.ref CT) (by rfl) xt.ns rfl) (qb (jh (v:=.ref CM) (by rfl) xm.ns rfl) qe)))) qe)))))) qe))))))
       (ZO (j:=5) (ts:=Kd K D (Str.ofString "many") (Wp (wF K D (.ref D)) (Wm (wE K D (jc (tC (.ref CP)) (jc (tC (.ref CM)) QB)))))) (by rfl) xt.ns xt.rcls Z2.nd rfl rfl
         (λv E=>qk (qA (i:=4) Z2.nd rfl (Or.inl rfl) (jG (qb qQ (qb (ZQ (bm:=.ref D::qV) (jv 5) rfl) (qb (Zr (qp (Qb (bm:=.ref D::qV) ZT.spc ZT.tks) (by rfl) T.isi boot_isinstance (qb (jv 5) (qb (jh (v:=.ref D) (by rfl) ZT.nD rfl) qe))) (Zq (Yq (qp (ZF (bm:=.ref D::qV) ZT.spc ZT.tks) (by rfl) T.isi boot_isinstance (qb (jv 5) (qb (j0 (qb (jh (v:=.ref CP) (by rfl) xp.ns rfl) (qb (jh (v:=.ref CM) (by rfl) xm.ns rfl) qe))) qe)))))) qe))))))
       (ZO (j:=5) (ts:=Kd K D (Str.ofString "place") (Wp (wF K D (.ref D)) (Wm (wF K D (.ref CM))))) (by rfl) xp.ns xp.rcls Z2.nd rfl rfl
         (λv E=>qk (qA (i:=4) Z2.nd rfl (Or.inl rfl) (jG (qb qQ (qb (ZQ (bm:=.ref D::qV) (jv 5) rfl) (qb (Zr (qp (Qb (bm:=.ref D::qV) ZT.spc ZT.tks) (by rfl) T.isi boot_isinstance (qb (jv 5) (qb (jh (v:=.ref D) (by rfl) ZT.nD rfl) qe))) (Zq (Yq (qp (Qb (bm:=.ref D::qV) ZT.spc ZT.tks) (by rfl) T.isi boot_isinstance (qb (jv 5) (qb (jh (v:=.ref CM) (by rfl) xm.ns rfl) qe)))))) qe))))))
       (ZO (j:=5) (ts:=Kd K D (Str.ofString "move") (wF K D (.ref D))) (by rfl) xm.ns xm.rcls Z2.nd rfl rfl
         (λv E=>qk (qA (i:=4) Z2.nd rfl (Or.inl rfl) (jG (qb qQ (qb (ZQ (bm:=.ref D::qV) (jv 5) rfl) (qb (qp (Qb (bm:=.ref D::qV) ZT.spc ZT.tks) (by rfl) T.isi boot_isinstance (qb (jv 5) (qb (jh (v:=.ref D) (by rfl) ZT.nD rfl) qe))) qe))))))
       vc)))))
     (qk (qM (jG (qb (jv 4) (qb (qp qB (by rfl) B.len boot_len (qb (jv 3) qe)) qe))))))),?_⟩
   refine⟨by show 0<=sizeLine;decide,λla hla=>⟨by show 1<=sizeLine;decide,λl4 hl4 nl4=>?_⟩⟩
   have u1:=qh (o:=HO.lst []) hla
   have v1:upd H la (.lst []) la=some (.lst []):=qd
   generalize upd H la (.lst [])=H1 at u1 v1 hl4
   have u2:=qh (o:=HO.lst [V.str (Str.ofString "good")]) hl4
   have v2:upd H1 l4 (.lst [V.str (Str.ofString "good")]) l4=some (.lst [V.str (Str.ofString "good")]):=qd
   generalize upd H1 l4 (.lst [V.str (Str.ofString "good")])=H2 at u2 v2
   have s02:=u1.trans u2
   have hla2:=u2 _ _ v1
   have caught:∀{a C0 dx:Addr} {Hx H':Hp} {ys:List V} {fv:V},Same H Hx->Hx la=some (.lst ys)->Hx dx=some (.xd [(Str.ofString "found",fv)])->Hx a=some (Qu a C0 dx)->(∀b o,b≠a->Hx b=some o->H' b=some o)->jw H H'/\H' la=some (.lst ys)/\H' dx=some (.xd [(Str.ofString "found",fv)]):=λ{a C0 dx Hx H' ys fv} sx hl hd ha kp=>by
     refine⟨λb o hb nx=>kp b o (λz=>?_) (sx _ _ hb),kp la _ (λz=>?_) hl,kp dx _ (λz=>?_) hd⟩
     . rw[z]at hb
       have:=sx _ _ hb
       rw[ha]at this
       exact nx _ (Option.some.inj this).symm
     . rw[z,ha]at hl;cases hl
     . rw[z,ha]at hd;cases hd
   have lk:∀{fv:V},([(Str.ofString "found",fv)]:List (Str×V)).lookup (Str.ofString "found")=some fv:=by intro fv;simp [List.lookup]
   have two:∀{H':Hp} {tp L R:Addr} {o o' o'':HO},jw H H'->H' tp=none->upd H' tp o L=none->upd (upd H' tp o) L o' R=none->jw H (upd (upd (upd H' tp o) L o') R o''):=λk1 h1 h2 h3=>k1.trans (((qh h1).trans (qh h2)).trans (qh h3)).keep
   have one:∀{H':Hp} {L R:Addr} {o' o'':HO},jw H H'->H' L=none->upd H' L o' R=none->jw H (upd (upd H' L o') R o''):=λk1 h2 h3=>k1.trans ((qh h2).trans (qh h3)).keep
   rcases h with ⟨fv,C,wd,bad,wc,q⟩ | ⟨h,hs,rfl,hh,q⟩
   . refine⟨λC' dx Hx=>C'=C/\Same H2 Hx/\Hx dx=some (.xd [(Str.ofString "found",fv)]),⟨_,rfl,_,rfl,_,rfl,_,rfl,way,g,la,v,rs,H,rfl,w0,w6,s02,hla,hla2,htb,gr,good,le14,.inl ⟨fv,C,bad,λHx dx sx hd=>⟨rfl,C,dx,rfl,rfl,rfl,sx,hd⟩⟩⟩,?_⟩
     rintro a C0 dx T' Hx H' ⟨rfl,sx,hdx⟩ ha kp ha'
     obtain⟨k1,hl',hdx'⟩:=caught (s02.trans sx) (sx _ _ hla2) hdx ha kp
     rcases wc with ⟨rfl,rfl⟩ | ⟨rfl,rfl⟩ | ⟨rfl,rfl⟩
     . refine⟨fh,_,xh.mkr,?_⟩
       rw[if_pos (by simp [List.contains_cons])]
       refine⟨_,rfl,a,_,dx,_,_,_,rfl,ha',hdx',xh.cls,xh.na,lk,_,rfl,a,_,dx,_,_,.ref D,true,rfl,rfl,ha',hdx',xh.cls,ZT.h1,_,rfl,Qq ?_⟩
       refine⟨_,rfl,by show 3<=sizeLine;decide,λtp htp=>?_⟩
       have st:=qh (o:=HO.tup [V.ref CP,.ref CT,.ref CM]) htp
       refine⟨a,tp,_,dx,_,_,[CP,CT,CM],false,rfl,st _ _ ha',st _ _ hdx',xh.cls,qd,ZT.h2,_,rfl,by show 3<=sizeLine;decide,λLf hLf nLf=>?_⟩
       refine⟨_,rfl,_,rfl,la,_,rfl,.inl (.of ((st.trans (qh hLf)) _ _ hl')),by show 2<=sizeLine;decide,λR hR nR=>?_⟩
       exact q _ R Lf (two k1 htp hLf hR) nR nLf qd (qh hR _ _ qd)
     . refine⟨ft,_,xt.mkr,?_⟩
       rw[if_neg (by rw[zT ZT.th ZT.dh];exact Bool.false_ne_true)]
       refine⟨ft,_,xt.mkr,?_⟩
       rw[if_pos (by simp [List.contains_cons])]
       refine⟨_,rfl,a,_,dx,_,_,_,rfl,ha',hdx',xt.cls,xt.na,lk,_,rfl,a,_,dx,_,_,.ref D,true,rfl,rfl,ha',hdx',xt.cls,ZT.t1,_,rfl,Qq ?_⟩
       refine⟨_,rfl,by show 2<=sizeLine;decide,λtp htp=>?_⟩
       have st:=qh (o:=HO.tup [V.ref CP,.ref CM]) htp
       refine⟨a,tp,_,dx,_,_,[CP,CM],false,rfl,st _ _ ha',st _ _ hdx',xt.cls,qd,ZT.t2,_,rfl,by show 3<=sizeLine;decide,λLf hLf nLf=>?_⟩
       refine⟨_,rfl,_,rfl,la,_,rfl,.inl (.of ((st.trans (qh hLf)) _ _ hl')),by show 2<=sizeLine;decide,λR hR nR=>?_⟩
       exact q _ R Lf (two k1 htp hLf hR) nR nLf qd (qh hR _ _ qd)
     . refine⟨fp,_,xp.mkr,?_⟩
       rw[if_neg (by rw[zT ZT.ph ZT.dh];exact Bool.false_ne_true)]
       refine⟨fp,_,xp.mkr,?_⟩
       rw[if_neg (by rw[zT ZT.pt ZT.dt];exact Bool.false_ne_true)]
       refine⟨fp,_,xp.mkr,?_⟩
       rw[if_pos (by simp [List.contains_cons])]
       refine⟨_,rfl,a,_,dx,_,_,_,rfl,ha',hdx',xp.cls,xp.na,lk,_,rfl,a,_,dx,_,_,.ref D,true,rfl,rfl,ha',hdx',xp.cls,ZT.p1,_,rfl,Qq ?_⟩
       refine⟨_,rfl,a,_,dx,_,_,.ref CM,false,rfl,rfl,ha',hdx',xp.cls,ZT.p2,_,rfl,by show 3<=sizeLine;decide,λLf hLf nLf=>?_⟩
       refine⟨_,rfl,_,rfl,la,_,rfl,.inl (.of ((qh hLf) _ _ hl')),by show 2<=sizeLine;decide,λR hR nR=>?_⟩
       exact q _ R Lf (one k1 hLf hR) nR nLf qd (qh hR _ _ qd)
   . rcases Classical.em (jV way (QF rs hs hs.length)) with mw | nw
     . refine⟨λC' dx Hx=>C'=CM/\∃ys,Same H Hx/\Hx la=some (.lst ys)/\ys.length<=1/\Hx dx=some (.xd [(Str.ofString "found",.non)]),⟨_,rfl,_,rfl,_,rfl,_,rfl,way,g,la,.ref h,rs,H,rfl,w0,w6,s02,hla,hla2,htb,gr,good,le14,.inr ⟨h,hs,rfl,hh,.inl ⟨mw,λHx dx ys sx hl l1 hd=>⟨rfl,CM,dx,rfl,rfl,rfl,ys,sx,hl,l1,hd⟩⟩⟩⟩,?_⟩
       rintro a C0 dx T' Hx H' ⟨rfl,ys,sx,hlx,l1,hdx⟩ ha kp ha'
       obtain⟨k1,hl',hdx'⟩:=caught sx hlx hdx ha kp
       refine⟨fX,_,xm.mkr,?_⟩
       rw[if_neg (by rw[zT ZT.mh ZT.dh];exact Bool.false_ne_true)]
       refine⟨fX,_,xm.mkr,?_⟩
       rw[if_neg (by rw[zT ZT.mt ZT.dt];exact Bool.false_ne_true)]
       refine⟨fX,_,xm.mkr,?_⟩
       rw[if_neg (by rw[zT ZT.mp ZT.dp];exact Bool.false_ne_true)]
       refine⟨fX,_,xm.mkr,?_⟩
       rw[if_pos (by simp [List.contains_cons])]
       refine⟨_,rfl,a,_,dx,_,_,_,rfl,ha',hdx',xm.cls,xm.na,lk,_,rfl,a,_,dx,_,_,.ref D,true,rfl,rfl,ha',hdx',xm.cls,ZT.m1,by show 3<=sizeLine;decide,λLf hLf nLf=>?_⟩
       refine⟨_,rfl,_,rfl,la,_,rfl,.inl (.of ((qh hLf) _ _ hl')),by show 2<=sizeLine;decide,λR hR nR=>?_⟩
       exact q _ R Lf _ (one k1 hLf hR) qd (.inl ⟨mw,qh hR _ _ qd⟩)
     . refine⟨λ_ _ _=>False,⟨_,rfl,_,rfl,_,rfl,_,rfl,way,g,la,.ref h,rs,H,rfl,w0,w6,s02,hla,hla2,htb,gr,good,le14,.inr ⟨h,hs,rfl,hh,.inr ⟨nw,λH3 s3=>?_⟩⟩⟩,λ_ _ _ _ _ _ z=>z.elim⟩
       refine⟨_,rfl,_,rfl,la,_,rfl,.inl (.of (s3 _ _ hla2)),by show 2<=sizeLine;decide,λR hR nR=>?_⟩
       exact q _ R l4 _ ((s02.trans s3).trans (qh hR)).keep qd (.inr ⟨nw,qh hR _ _ (s3 _ _ v2)⟩)
end
end Rh
set_option Elab.async false
set_option linter.all false
set_option maxRecDepth 100000
set_option maxHeartbeats 4000000
namespace Rh
open PySem L2 PyProof.Rows
abbrev Wx:Stmt:=top 48
def wN (CG PT:Addr):Sp:=λvs H Q _=>∃(g h:Addr) (rs:Q1) (hs:List Str),vs=[.ref g,.ref h]/\H PT=some (.tbl #[.str Zj 0])/\jS CG H g rs/\qH rs/\rs.length<=14/\jn H h rs hs/\∀H',jw H H'->Q (.bl true) H'
section
variable {P:Program} {w:World} {K:PySem.W.Frag} {mg:Str->Option Value} {base:Heap}
abbrev nGd:List Str:=["_law_ground","_law_heap_here","_law_way","_law_due"]
abbrev Ke:List Str:=["_law_ground","_law_heap_here"]
theorem ko:qz nGd Ke (qi Wx):=⟨rfl,rfl,rfl,by decide+kernel,rfl,by decide+kernel,by decide+kernel⟩
theorem uk {f fT fO CG CH CT CP PT:Addr} {fd fdT fdO:FuncData} (F:jU K "_law_good" "_law_good" Wx f fd) (B:Jj mg) (hT:jo K mg "_law_told" YS wl fT fdT) (GT:qo P w K mg base qZ 9 fT fdT wl (y6 K CG CH CT CP PT)) (hO:jo K mg "is_over" Z3 ["ground","heap"] fO fdO) (GO:qo P w K mg base qZ 5 fO fdO xC (Jw CG)):qo P w K mg base qZ 10 f fd Ke (wN CG PT):=by
 refine F.okJ ko (λvs H Q E h=>?_) (λcdv A outer s H vs Q E hr h=>?_)
 . obtain⟨g,h',rs,hs,rfl,_⟩:=h
   rfl
 . obtain⟨g,h',rs,hs,rfl,htb,gr,good,le14,hh,q⟩:=h
   have r5:qS 5 _:=hr.mono (by decide)
   refine⟨_,qg (jJ PassesOwn.never rfl (jB (by rfl) B.rng (qb qj qe)) (qF (i:=2) ko.nd rfl (Or.inl rfl))
       (qg (qA (i:=3) ko.nd rfl (Or.inl rfl) (jk (qb qQ qe)))
       (WN (qL (JW.pt (Q0 (qt zF (jv 2) (j0 (qb qj (qb qj qe))) (by with_unfolding_all rfl)) (Qm (JW.pt (jO (qt jD (jv 2) qj (qy _)) (jA (jP (ju (qX hO GO r5 (by rfl) (qb (jv 0) (qb (jv 1) qe)))))))))))
         (qk (qA (i:=3) ko.nd rfl (Or.inl rfl) (jk (qb qQ (qb JB (qb jW qe)))))) qC)
       (qk (qL (qt (xq hr.units) (jg jl (qX hT GT hr (by rfl) (qb (jv 2) (qb (jv 0) (qb (jv 1) qe)))) qj (λ_ _=>rfl)) (jv 3) (qy _)) qE qC)))))
     (qk (qM jW)),?_⟩
   refine⟨6,rfl,by decide,by decide,?_⟩
   refine Qi (λi σ' X=>∃v2 v3:Option V,σ'=[some (.ref g),some (.ref h'),v2,v3]/\jw H X) ⟨_,_,rfl,jw.refl H⟩ ?_ ?_
   . rintro i σ' X hi ⟨v2,v3,rfl,kX⟩
     rw[Int.zero_add]
     have hi:i < 6:=by simpa using hi
     have nx:∀{o:HO},(∀φ,o≠.ext φ)->∀{b:Addr},H b=some o->X b=some o:=λn _ h=>kX _ _ h n
     refine⟨by show 1<=sizeLine;decide,λld hld=>?_⟩
     have u1:=qh (o:=HO.lst [V.str (Str.ofString "good")]) hld
     have v1:upd X ld (.lst [V.str (Str.ofString "good")]) ld=some (.lst [V.str (Str.ofString "good")]):=qd
     generalize upd X ld (.lst [V.str (Str.ofString "good")])=X1 at u1 v1
     have k1:jw H X1:=kX.trans u1.keep
     refine⟨λσ'' Y=>∃lf,σ''=[some (.ref g),some (.ref h'),some (.int (i:Nat)),some (.ref lf)]/\jw H Y/\((jV (i:Nat) (QF rs hs hs.length)/\Y lf=some (.lst [.str (Str.ofString "move"),.non,.bl true]))\/(¬jV (i:Nat) (QF rs hs hs.length)/\Y lf=some (.lst [.str (Str.ofString "good")]))),?_,?_⟩
     . refine⟨_,rfl,by show 2<=sizeLine;decide,λtp htp=>⟨tp,_,rfl,.inr (.of qd),rfl,rfl,_,rfl,?_⟩⟩
       have u2:=qh (o:=HO.tup [V.int 3,.int 5]) htp
       generalize upd X1 tp (.tup [V.int 3,.int 5])=X2 at u2
       have k2:jw H X2:=k1.trans u2.keep
       have mv:∀{Y:Hp},jw H Y->jV (i:Nat) (QF rs hs hs.length)->3<=sizeLine/\∀p,Y p=none->∃lf,[some (V.ref g),some (.ref h'),some (.int (i:Nat)),some (.ref p)]=[some (.ref g),some (.ref h'),some (.int (i:Nat)),some (.ref lf)]/\jw H (upd Y p (.lst [.str (Str.ofString "move"),.non,.bl true]))/\((jV (i:Nat) (QF rs hs hs.length)/\upd Y p (.lst [.str (Str.ofString "move"),.non,.bl true]) lf=some (.lst [.str (Str.ofString "move"),.non,.bl true]))\/(¬jV (i:Nat) (QF rs hs hs.length)/\upd Y p (.lst [.str (Str.ofString "move"),.non,.bl true]) lf=some (.lst [.str (Str.ofString "good")]))):=λkY m=>⟨by decide,λp hp=>⟨p,rfl,kY.trans (qh hp).keep,.inl ⟨m,qd⟩⟩⟩
       have ei:i=0\/i=1\/i=2\/i=3\/i=4\/i=5:=by omega
       have no:∀{a b:Int},a≠b->decide (V.int a=V.int b)=false:=λh=>decide_eq_false λz=>h (V.int.inj z)
       have nw:∀{j:Nat},j=0\/j=1\/j=2->¬jV (j:Nat) (QF rs hs hs.length):=λe z=>by
         rcases z with z | z | ⟨z,_⟩<;>omega
       rcases ei with rfl | rfl | rfl | rfl | rfl | rfl
       . exact qv rfl ⟨_,rfl,rfl,_,rfl,qv (no (by decide)) (qv rfl ⟨ld,rfl,k2,.inr ⟨nw (.inl rfl),u2 _ _ v1⟩⟩)⟩
       . exact qv rfl ⟨_,rfl,rfl,_,rfl,qv (no (by decide)) (qv rfl ⟨ld,rfl,k2,.inr ⟨nw (.inr (.inl rfl)),u2 _ _ v1⟩⟩)⟩
       . exact qv rfl ⟨_,rfl,rfl,_,rfl,qv (no (by decide)) (qv rfl ⟨ld,rfl,k2,.inr ⟨nw (.inr (.inr rfl)),u2 _ _ v1⟩⟩)⟩
       . exact qR rfl (qR rfl (mv k2 (.inl rfl)))
       . refine qv rfl ⟨_,rfl,rfl,_,rfl,qR (decide_eq_true rfl) ⟨_,rfl,_,rfl,g,h',rs,hs,rfl,gr.keep k2,good,le14,hh.keep k2,λX3 s3=>⟨_,rfl,?_⟩⟩⟩
         cases e:(QF rs hs hs.length).isEmpty with
         | true=>
           refine qv rfl ⟨ld,rfl,k2.trans s3.keep,.inr ⟨λz=>?_,s3 _ _ (u2 _ _ v1)⟩⟩
           rcases z with z | z | ⟨_,z⟩
           . exact absurd z (by decide)
           . exact absurd z (by decide)
           . exact z (List.isEmpty_iff.mp e)
         | false=>
           refine qR rfl (mv (k2.trans s3.keep) (.inr (.inr ⟨rfl,λz=>?_⟩)))
           rw[z]at e
           cases e
       . exact qR rfl (qR rfl (mv k2 (.inr (.inl rfl))))
     . rintro σ'' Y ⟨lf,rfl,kY,hY⟩
       refine⟨_,rfl,_,rfl,_,rfl,(i:Nat),g,.ref h',rs,rfl,by omega,by omega,kY _ _ htb (λ_ z=>nomatch z),gr.keep kY,good,le14,.inr ⟨h',hs,rfl,hh.keep kY,λX6 R Lf n k6 hR hL=>⟨R,_,0,_,rfl,rfl,.of hR,rfl,_,rfl,?_⟩⟩⟩
       have k7:=kY.trans k6
       rcases hL with ⟨mw,hL⟩ | ⟨nw,hL⟩
       . rcases hY with ⟨_,hY⟩ | ⟨n2,_⟩
         . exact⟨_,.lst (.of hL) (.cons (.str _) (.cons .non (.cons (.bl true) .nil))),.lst (.of (k6 _ _ hY (λ_ z=>nomatch z))) (.cons (.str _) (.cons .non (.cons (.bl true) .nil))),by decide+kernel,_,rfl,qv rfl ⟨_,_,rfl,k7⟩⟩
         . exact absurd mw n2
       . rcases hY with ⟨m2,_⟩ | ⟨_,hY⟩
         . exact absurd m2 nw
         . exact⟨_,.lst (.of hL) (.cons (.str _) .nil),.lst (.of (k6 _ _ hY (λ_ z=>nomatch z))) (.cons (.str _) .nil),by decide+kernel,_,rfl,qv rfl ⟨_,_,rfl,k7⟩⟩
   . rintro σ' X ⟨v2,v3,rfl,kX⟩
     exact q X kX
end
end Rh
set_option Elab.async false
set_option linter.all false
set_option maxRecDepth 100000
set_option maxHeartbeats 4000000
namespace Rh
open PySem L2 PyProof.Rows
theorem J1 {z:Str} (h:qK z=true):z.length<=8:=by
 unfold qK at h
 simp only[Bool.and_eq_true,decide_eq_true_eq]at h
 exact h.1.2
structure Sz (n:Nat) (d:PyData):Prop where
 sh:d.showable=true
 dp:d.depth<=5
 ln:d.shown.length<=n
theorem Uh {n:Nat}:∀{ds:List PyData},(∀d∈ds,Sz n d)->PyData.showableAll ds=true/\PyData.depthAll ds<=5/\((PyData.shownAll ds).map (·.length)).sum<=n*ds.length/\(PyData.shownAll ds).length=ds.length
 | [],_=>⟨rfl,by rw[PyData.depthAll];decide,Nat.le_refl _,rfl⟩
 | d::ds,h=>by
   have h0:=h d List.mem_cons_self
   obtain⟨h1,h2,h3,h4⟩:=Uh λy hy=>h y (List.mem_cons_of_mem _ hy)
   refine⟨by rw[PyData.showableAll,h0.sh,h1];rfl,?_,?_,by rw[PyData.shownAll,List.length_cons,List.length_cons,h4]⟩
   . rw[PyData.depthAll]
     have:=h0.dp
     omega
   . rw[PyData.shownAll,List.map_cons,List.sum_cons,List.length_cons,Nat.mul_succ]
     have:=h0.ln
     omega
theorem zS (ws:List V) (j:Nat):L2.cutV ws none (some (j:Int))=ws.take j:=by
 unfold L2.cutV
 rw[HT.sIx_none,HT.sIx_nat]
 show (ws.drop 0).take (min j ws.length - 0)=_
 rw[List.drop_zero,Nat.sub_zero]
 rcases Nat.le_total j ws.length with h | h
 . rw[Nat.min_eq_left h]
 . rw[Nat.min_eq_right h,List.take_of_length_le (Nat.le_refl _),List.take_of_length_le h]
theorem JY {z:Str} (h:qK z=true):(reprText z).length<=82:=by
 have h1:=QN h
 have h2:=StrLaws.reprText_len z λc hc=>Nat.lt_of_le_of_lt (h1.1 c hc) (by decide)
 have:=J1 h
 omega
theorem yX {z:Str} (h:qK z=true):Sz 82 (.str z):=⟨rfl,Nat.zero_le _,JY h⟩
def kK (z:Str):Prop:=z.length<=20/\∀c∈z.cps.toList,c<=122
theorem U1 {z:Str} (h:qK z=true):kK z:=⟨Nat.le_trans (J1 h) (by decide),(QN h).1⟩
theorem vF {xs:List V} {i:Int} (h0:0<=i) (h1:i < xs.length):∃v,v∈xs/\Xl xs i=some v:=by
 have hi:i.toNat < xs.length:=by omega
 have:=J8 (xs:=xs) (j:=i.toNat) (v:=xs[i.toNat]) (List.getElem?_eq_getElem hi)
 rw[show ((i.toNat:Nat):Int)=i by omega]at this
 exact⟨_,List.getElem_mem hi,this⟩
theorem qW {H H':Hp} {d b:Addr} {o:HO} {kv:List (qP×V)} (fr:Fr H d H') (hd:H d=some (.dK kv)) (hb:H b=some o) (no:∀kv,o≠.dK kv):H' b=some o:=fr _ _ hb λe=>by
 rw[e,hd]at hb
 exact no _ (Option.some.inj hb).symm
abbrev WB:Stmt:=top 47
instance (z:Str):Decidable (kK z):=by unfold kK;exact inferInstance
theorem XB {n:Nat} {z:Str} (h:kK z) (l:202<=n):Sz n (.str z):=by
 have:=StrLaws.reprText_len z λc hc=>Nat.lt_of_le_of_lt (h.2 c hc) (by decide)
 have:=h.1
 exact⟨rfl,Nat.zero_le _,by show (reprText z).length<=n;omega⟩
theorem Sz.up {n m:Nat} {d:PyData} (h:Sz n d) (l:n<=m):Sz m d:=⟨h.sh,h.dp,Nat.le_trans h.ln l⟩
def yT (K:PySem.W.Frag) (CH CT CP:Addr) (H:Hp) (N:List Str) (v:V) (Ld:Addr):Prop:=∃(fv:V) (C:Addr) (wd:Str) (d df:PyData),H Ld=some (.lst [.str wd,fv,.bl true])/\Ld≠sysModules/\zx K CH CT CP H N v C fv/\K9 CH CT CP C wd/\DG H v d/\Sz 90000 d/\DG H fv df/\Sz 50000 df
def Um (K:PySem.W.Frag) (CH CT CP:Addr):Sp:=λvs H Q _=>∃(l h d:Addr) (ps:List Addr) (rs:Q1) (hs:List Str) (n s t:Int),vs=[.ref l,.ref h,.ref d]/\jK H l ps rs/\jn H h rs hs/\H d=some (.dK (jf n s t))/\
 ∀(R Ld:Addr) (v:V) (n' t':Int) (H':Hp),Fr H d H'->H' d=some (.dK (jf n' s t'))->H' R=some (.lst [v,.ref Ld])->yT K CH CT CP H' (rs.map (·.1)) v Ld->Q (.ref R) H'
structure It (d:PyData):Prop where
 sh:d.showable=true
 dp:d.depth<=2
 ln:d.shown.length<=1000
theorem Yr:∀{ds:List PyData},(∀d∈ds,It d)->PyData.showableAll ds=true/\PyData.depthAll ds<=2/\((PyData.shownAll ds).map (·.length)).sum<=1000*ds.length/\(PyData.shownAll ds).length=ds.length
 | [],_=>⟨rfl,by rw[PyData.depthAll];decide,Nat.le_refl _,rfl⟩
 | d::ds,h=>by
   have h0:=h d List.mem_cons_self
   obtain⟨h1,h2,h3,h4⟩:=Yr λy hy=>h y (List.mem_cons_of_mem _ hy)
   refine⟨by rw[PyData.showableAll,h0.sh,h1];rfl,?_,?_,by rw[PyData.shownAll,List.length_cons,List.length_cons,h4]⟩
   . rw[PyData.depthAll]
     have:=h0.dp
     omega
   . rw[PyData.shownAll,List.map_cons,List.sum_cons,List.length_cons,Nat.mul_succ]
     have:=h0.ln
     omega
theorem WS {ds:List PyData} (h:∀d∈ds,It d) (l:ds.length<=20):Sz 90000 (.list ds):=by
 obtain⟨h1,h2,h3,h4⟩:=Yr h
 refine⟨h1,by simp only[PyData.depth];omega,?_⟩
 show (listText (PyData.shownAll ds)).length<=90000
 have h5:=listText_len_le (PyData.shownAll ds)
 have:1000*ds.length<=1000*20:=Nat.mul_le_mul_left _ l
 omega
theorem xV {z:Str} (h:kK z):It (.str z):=⟨rfl,Nat.zero_le _,(XB (n:=1000) h (by decide)).ln⟩
theorem ZB {z:Str} (h:qK z=true):It (.str z):=xV (U1 h)
theorem It.sz {d:PyData} (h:It d):Sz 50000 d:=⟨h.sh,Nat.le_trans h.dp (by decide),Nat.le_trans h.ln (by decide)⟩
theorem DGs.takeG {H:Hp}:∀{xs:List V} {ds:List PyData} (m:Nat),DGs H xs ds->DGs H (xs.take m) (ds.take m)
 | _,_,0,_=>by simp only[List.take_zero];exact .nil
 | _,_,_+1,.nil=>.nil
 | _,_,m+1,.cons h hs=>.cons h (DGs.takeG m hs)
theorem DGs.rep {H:Hp} {v:V} {d:PyData} (h:DG H v d):∀n:Nat,DGs H (List.replicate n v) (List.replicate n d)
 | 0=>.nil
 | n+1=>.cons h (DGs.rep h n)
theorem DGs.len {H:Hp}:∀{xs:List V} {ds:List PyData},DGs H xs ds->xs.length=ds.length
 | _,_,.nil=>rfl
 | _,_,.cons _ hs=>congrArg Nat.succ (DGs.len hs)
structure Kl (d:PyData):Prop where
 sh:d.showable=true
 dp:d.depth<=1
 ln:d.shown.length<=400
theorem Kl.it {d:PyData} (h:Kl d):It d:=⟨h.sh,Nat.le_trans h.dp (by decide),Nat.le_trans h.ln (by decide)⟩
def wa (K:PySem.W.Frag) (X:Hp) (N:List Str) (v:V):Prop:=∃df,DG X v df/\Kl df/\V5 K X N v
theorem xZ {y z:Str} (h:y≠z):PyData.eqv (.str y) (.str z)=false:=by
 cases e:PyData.eqv (.str y) (.str z) with
 | false=>rfl
 | true=>exact absurd (PyData.str.inj (WX e)).symm h
theorem Ym {K:PySem.W.Frag} {X:Hp} {N:List Str} {z:Str} (nm:∀y∈N,qK y=true) (h:kK z) (n:qK z=false) (cl:(PyData.str z).canLay0=true):wa K X N (.str z):=⟨.str z,.str z,⟨rfl,Nat.zero_le _,(XB (n:=400) h (by decide)).ln⟩,.inl ⟨.str z,.str z,cl,Nat.zero_le _,λy hy=>xZ λe=>by have:=nm y hy;rw[e,n]at this;cases this⟩⟩
theorem Zk {K:PySem.W.Frag} {X:Hp} {N:List Str} {v:V} {d:PyData} (dg:DG X v d) (dv:DV K X v d) (it:Kl d) (cl:d.canLay0=true) (no:∀y:Str,PyData.eqv (.str y) d=false):wa K X N v:=⟨d,dg,it,.inl ⟨d,dv,cl,Nat.le_trans it.dp (by decide),λy _=>no y⟩⟩
theorem uA (K:PySem.W.Frag):PySem.W.kitOne K (.type "NoneType") (.type "list")=some false:=by kernel_rfl
theorem K1 (K:PySem.W.Frag):PySem.W.kitOne K (.type "int") (.type "list")=some false:=by kernel_rfl
theorem K4 (K:PySem.W.Frag):PySem.W.kitOne K (.type "bool") (.type "list")=some false:=by kernel_rfl
theorem K0 (K:PySem.W.Frag):PySem.W.kitOne K (.type "str") (.type "list")=some false:=by kernel_rfl
theorem uy (K:PySem.W.Frag):PySem.W.kitOne K (.type "tuple") (.type "list")=some false:=by kernel_rfl
theorem uB (K:PySem.W.Frag):PySem.W.kitOne K (.type "dict") (.type "list")=some false:=by kernel_rfl
theorem kR {z:Str} (h:qK z=true):qK (z++Str.ofString "zzzzzzzz")=false/\kK (z++Str.ofString "zzzzzzzz")/\(PyData.str (z++Str.ofString "zzzzzzzz")).canLay0=true:=by
 obtain⟨h1,h2,h3⟩:=QN h
 have hc:(z++Str.ofString "zzzzzzzz").cps.toList=z.cps.toList++[122,122,122,122,122,122,122,122]:=by
   rw[Str.cps_append,Array.toList_append]
   rfl
 have hl:(z++Str.ofString "zzzzzzzz").length=z.length+8:=by
   show (z++Str.ofString "zzzzzzzz").cps.size=z.cps.size+8
   rw[<-Array.length_toList,hc,List.length_append,Array.length_toList]
   rfl
 have hm:∀c∈(z++Str.ofString "zzzzzzzz").cps.toList,c<=122:=λc hc'=>by
   rw[hc]at hc'
   rcases List.mem_append.mp hc' with m | m
   . exact h1 c m
   . simp only[List.mem_cons,List.mem_nil_iff,or_false,or_self]at m
     omega
 refine⟨?_,⟨by omega,hm⟩,?_⟩
 . cases e:qK (z++Str.ofString "zzzzzzzz") with
   | false=>rfl
   | true=>
     have:=J1 e
     omega
 . show PyData.strOk _=true
   unfold PyData.strOk
   rw[Array.all_eq_true_iff_forall_mem]
   intro c hc'
   have:=hm c (Array.mem_toList_iff.mpr hc')
   simp
   omega
section
variable {P:Program} {w:World} {K:PySem.W.Frag} {mg:Str->Option Value} {base:Heap}
abbrev nBd:List Str:=["_law_rows_here","_law_heap_here","_law_source_here","_law_names_here","_law_way","_law_odd","_law_thing","_law_at","_law_many","_law_long","_law_found"]
abbrev Kf:List Str:=["_law_rows_here","_law_heap_here","_law_source_here"]
theorem zu:qz nBd Kf (qi WB):=⟨rfl,rfl,rfl,by decide+kernel,rfl,by decide+kernel,by decide+kernel⟩
theorem ul {f fT CH CT CP:Addr} {fd fdT:FuncData} (F:jU K "_law_bad" "_law_bad" WB f fd) (B:Jj mg) (G:jR mg) (hT:jo K mg "_law_take" JP ["_law_source_here","_law_many"] fT fdT):qo P w K mg base qZ 2 f fd Kf (Um K CH CT CP):=by
 have GT:qo P w K mg base qZ 1 fT fdT ["_law_source_here","_law_many"] Q7:=Jk hT.fn
 refine F.okJ zu (λvs H Q E h=>?_) (λcdv A outer s H vs Q E hr h=>?_)
 . obtain⟨l,h',d,ps,rs,hs,n,sd,t,rfl,_⟩:=h
   rfl
 . obtain⟨l,h',d,ps,rs,hs,n,sd,t,rfl,g,hh,hd,q⟩:=h
   have r1:qS 1 _:=hr.mono (by decide)
   refine⟨_,qg (J3 (i:=3) (N':=["_law_row"]) (ix:=[none]) (te:=Xs (XN K) (jt 0) (tC (.int 0))) zu.nd rfl (Or.inl rfl) rfl ⟨rfl,rfl,rfl,rfl,rfl⟩ (jC (jv 0)) (λC s2 H2 fp pins=>
       ⟨qF (i:=0) (wm _) rfl (Or.inl rfl),j4,jg Qn (jv 0) qj (λ_ _=>rfl)⟩))
     (qg (qA (i:=4) zu.nd rfl (Or.inl rfl) (qX hT GT r1 (by rfl) (qb (jv 2) (qb qj qe))))
     (qg (qA (i:=5) zu.nd rfl (Or.inl rfl) (jg jl (jk (qb JB (qb qj (qb jW (qb qQ (qb qQ (qb (jG (qb (jg jl (jv 3) qj (λ_ _=>rfl)) qe)) (qb (j0 (qb (jg jl (jv 3) qj (λ_ _=>rfl)) qe)) (qb Jh (qb (qI Jz (jg jl (jv 3) qj (λ_ _=>rfl)) qQ) (qb qj qe))))))))))) (qX hT GT r1 (by rfl) (qb (jv 2) (qb qj qe))) (λ_ _=>rfl)))
     (qg (qL (qt jD (jv 4) qj (qy _))
       (qg (qA (i:=6) zu.nd rfl (Or.inl rfl) (jg jl (jk (qb JB (qb qj (qb jW (qb (jg jl (jv 3) qj (λ_ _=>rfl)) (qb (jp Jv (by rfl) G.tup boot_tuple (qb (jv 1) qe)) (qb Jh (qb (WR (J4 (jg jl (jv 3) qj (λ_ _=>rfl)) qj WP) rfl rfl (by simp) (by decide)) (qb (j0 qe) qe))))))))) (qX hT GT r1 (by rfl) (qb (jv 2) (qb qj qe))) (λ_ _=>rfl)))
       (qk (qM (jk (qb (jv 6) (qb (jG (qb qQ (qb (jv 6) (qb jW qe)))) qe)))))) qC)
     (qg (qA (i:=7) zu.nd rfl (Or.inl rfl) (qX hT GT r1 (by rfl) (qb (jv 2) (qb (qI Qd (qp qB (by rfl) B.len boot_len (qb (jv 1) qe)) qj) qe))))
     (qg (qL (qt jD (jv 4) qj (qy _))
       (qg (qA (i:=8) zu.nd rfl (Or.inl rfl) (qI Qd qj (qX hT GT r1 (by rfl) (qb (jv 2) (qb qj qe)))))
       (qg (qA (i:=9) zu.nd rfl (Or.inl rfl) (qI Yj (qI Yj (jv 1) (qI WJ (jk (qb (jv 5) qe)) (jp zW (by rfl) B.int boot_int (qb (QQ (xu hr.units) (jv 1) (jk qe) (qy _)) qe)))) (qI WJ (jk (qb (jg jl (jv 3) (uC yV qj) (λ_ _=>rfl)) qe)) (jv 8))))
       (qk (qM (jk (qb (QG Up (jv 9) J5 (QP (jv 8))) (qb (jG (qb qQ (qb (jv 8) (qb jW qe)))) qe))))))) qC)
     (qg (qA (i:=10) zu.nd rfl (Or.inl rfl) (qI YY (qI Yj (QG Yd (jv 1) J5 (QP (qp (zU rfl) (by rfl) B.min boot_min (qb (jv 7) (qb qj qe))))) (jk (qb (jv 5) qe))) (QG Yd (jv 1) (QP (jv 7)) (QP qj))))
     (WN (qL (JW.pt (jO (qt jD (jv 4) qj (qy _)) (jA (qt j8 (qp qB (by rfl) B.len boot_len (qb (jv 10) qe)) qj (qy _)))))
       (qk (qA (i:=10) zu.nd rfl (Or.inl rfl) (qI YY (jv 10) (jk (qb (jG (qb JB (qb (jv 5) qe))) qe))))) qC)
     (qk (qM (jk (qb (jv 10) (qb (jG (qb qQ (qb (jv 5) (qb jW qe)))) qe)))))))))))),?_⟩
   have lps:=g.rows.1
   have le:=g.le
   have nmN:∀y∈rs.map (·.1),qK y=true:=λy hy=>by
     obtain⟨r,hr,rfl⟩:=List.mem_map.mp hy
     exact g.good.nm r hr
   have nmH:∀y∈hs,qK y=true:=λy hy=>by
     obtain⟨r,hr,rfl⟩:=hh.in_ y hy
     exact g.good.nm r hr
   refine⟨_,rfl,l,rfl,⟨_,.of g.at_⟩,λln hln=>?_⟩
   refine Qp (K:=K) (a:=l) (xs:=ps.map V.ref) (λi σ' X=>∃v,σ'=[v]/\X=upd H ln (.lst (((rs.map (·.1)).take i).map V.str))) ⟨none,rfl,rfl⟩ (λi σ' X _ ⟨_,_,e⟩=>e▸.of (qr g.at_ hln)) ?_ ?_
   . rintro i x σ' X hx ⟨v,rfl,rfl⟩
     obtain⟨p',q',r,rfl,er,hr',a,b⟩:=g.rows.item hx
     have hi:=(List.getElem?_eq_some_iff.mp er).1
     refine⟨_,rfl,p',_,0,_,rfl,rfl,.of (qr a hln),rfl,_,qd,?_,_,rfl,?_⟩
     . rw[List.length_map,List.length_take,List.length_map]
       exact qw (by omega)
     . rw[jz,List.take_add_one,List.getElem?_map,er,List.map_append]
       rfl
   rintro σ' X ⟨v,rfl,rfl⟩
   rw[List.length_map,lps,List.take_of_length_le (by rw[List.length_map];exact Nat.le_refl _)]
   have s1:=qh (o:=HO.lst ((rs.map (·.1)).map V.str)) hln
   have h1:upd H ln (.lst ((rs.map (·.1)).map V.str)) ln=some (.lst ((rs.map (·.1)).map V.str)):=qd
   generalize upd H ln (.lst ((rs.map (·.1)).map V.str))=H1 at s1 h1
   have pos:=g.pos
   have e0:(rs.map (·.1))[0]?=some (rs.map (·.1))[0]!:=by
     rw[List.getElem?_eq_getElem (by rw[List.length_map];exact pos)]
     congr 1
     exact(getElem!_pos _ _ _).symm
   generalize (rs.map (·.1))[0]! =z0 at e0
   have m0:z0∈rs.map (·.1):=List.mem_of_getElem? e0
   have n0:=nmN z0 m0
   have i0:Xl ((rs.map (·.1)).map V.str) 0=some (.str z0):=J8 (j:=0) (by rw[List.getElem?_map,e0];rfl)
   obtain⟨ln1,ln2,ln3⟩:=kR n0
   have hd1:=s1 _ _ hd
   refine⟨_,rfl,d,4,n,sd,t,rfl,hd1,by decide,by decide,λwy n1 t1 w0 w4=>?_⟩
   have hd2:upd H1 d (.dK (jf n1 sd t1)) d=some (.dK (jf n1 sd t1)):=qd
   have fr2:Fr H1 d (upd H1 d (.dK (jf n1 sd t1))):=Fr.refl.at_d
   generalize upd H1 d (.dK (jf n1 sd t1))=H2 at hd2 fr2
   have hn2:=qW fr2 hd1 h1 (λ_ z=>nomatch z)
   have hh2:=qW fr2 hd1 (s1 _ _ hh.at_) (λ_ z=>nomatch z)
   have f02:Fr H d H2:=λb o hb nb=>fr2 _ _ (s1 _ _ hb) nb
   refine⟨_,rfl,ln,_,0,_,rfl,rfl,.of hn2,i0,by show 1<=sizeLine;decide,λlo hlo nlo=>?_⟩
   have u1:=qh (o:=HO.lst [V.str z0]) hlo
   have v1:upd H2 lo (.lst [V.str z0]) lo=some (.lst [V.str z0]):=qd
   generalize upd H2 lo (.lst [V.str z0])=A1 at u1 v1
   refine⟨_,rfl,ln,_,0,_,rfl,rfl,.of (u1 _ _ hn2),i0,by show 1<=sizeLine;decide,λto hto=>?_⟩
   have u2:=qh (o:=HO.tup [V.str z0]) hto
   have v2:upd A1 to (.tup [V.str z0]) to=some (.tup [V.str z0]):=qd
   generalize upd A1 to (.tup [V.str z0])=A2 at u2 v2
   refine λdd hdd=>?_
   have u3:=qh (o:=HO.dK []) hdd
   have v3:upd A2 dd (.dK []) dd=some (.dK []):=qd
   have nddd:dd≠d:=λe=>by rw[e,(u1.trans u2) _ _ hd2]at hdd;cases hdd
   generalize upd A2 dd (.dK [])=A3 at u3 v3
   have u13:=(u1.trans u2).trans u3
   refine⟨_,rfl,ln,_,0,_,rfl,rfl,.of (u13 _ _ hn2),i0,_,_,rfl,rfl,?_,by show 10<=sizeLine;decide,λol hol=>?_⟩
   . have:=J1 n0
     have e:(Str.ofString "zzzzzzzz").length=8:=by decide+kernel
     rw[e]
     exact Nat.le_of_lt (qw (by omega))
   have u4:=qh (o:=HO.lst [V.non,.int 0,.bl true,.str (Str.ofString ""),.str (Str.ofString "Aa"),.ref lo,.ref to,.ref dd,.str (z0++Str.ofString "zzzzzzzz"),.int 7]) hol
   have v4:upd A3 ol (.lst [V.non,.int 0,.bl true,.str (Str.ofString ""),.str (Str.ofString "Aa"),.ref lo,.ref to,.ref dd,.str (z0++Str.ofString "zzzzzzzz"),.int 7]) ol=some (.lst [V.non,.int 0,.bl true,.str (Str.ofString ""),.str (Str.ofString "Aa"),.ref lo,.ref to,.ref dd,.str (z0++Str.ofString "zzzzzzzz"),.int 7]):=qd
   generalize upd A3 ol (.lst [V.non,.int 0,.bl true,.str (Str.ofString ""),.str (Str.ofString "Aa"),.ref lo,.ref to,.ref dd,.str (z0++Str.ofString "zzzzzzzz"),.int 7])=A4 at u4 v4
   have u14:=u13.trans u4
   have hdA4:=u14 _ _ hd2
   refine⟨_,rfl,d,10,n1,sd,t1,rfl,hdA4,by decide,by decide,λoi n2 t2 o0 o1=>?_⟩
   have hd5:upd A4 d (.dK (jf n2 sd t2)) d=some (.dK (jf n2 sd t2)):=qd
   have fr5:Fr A4 d (upd A4 d (.dK (jf n2 sd t2))):=Fr.refl.at_d
   generalize upd A4 d (.dK (jf n2 sd t2))=A5 at hd5 fr5
   have f05:Fr H d A5:=(f02.same u14).trans fr5
   have hn5:=qW fr5 hdA4 (u14 _ _ hn2) (λ_ z=>nomatch z)
   have hh5:=qW fr5 hdA4 (u14 _ _ hh2) (λ_ z=>nomatch z)
   have lo5:=qW fr5 hdA4 (((u2.trans u3).trans u4) _ _ v1) (λ_ z=>nomatch z)
   have to5:=qW fr5 hdA4 ((u3.trans u4) _ _ v2) (λ_ z=>nomatch z)
   have dd5:=fr5 _ _ (u4 _ _ v3) nddd
   obtain⟨ov,mov,eov⟩:=vF (xs:=[V.non,.int 0,.bl true,.str (Str.ofString ""),.str (Str.ofString "Aa"),.ref lo,.ref to,.ref dd,.str (z0++Str.ofString "zzzzzzzz"),.int 7]) o0 (by show oi < (10:Int);exact o1)
   refine⟨ol,_,oi,ov,rfl,rfl,.of (qW fr5 hdA4 v4 (λ_ z=>nomatch z)),eov,?_⟩
   have odd:∀X:Hp,X lo=some (.lst [V.str z0])->X to=some (.tup [V.str z0])->X dd=some (.dK [])->wa K X (rs.map (·.1)) ov:=by
     intro X x1 x2 x3
     simp only[List.mem_cons,List.mem_nil_iff,or_false]at mov
     rcases mov with rfl | rfl | rfl | rfl | rfl | rfl | rfl | rfl | rfl | rfl
     . exact Zk .non .non ⟨rfl,Nat.zero_le _,by decide+kernel⟩ rfl (λ_=>rfl)
     . exact Zk (.int 0) (.int 0) ⟨by decide+kernel,Nat.zero_le _,by decide+kernel⟩ rfl (λ_=>rfl)
     . exact Zk (.bl true) (.bl true) ⟨rfl,Nat.zero_le _,by decide+kernel⟩ rfl (λ_=>rfl)
     . exact Ym nmN (by decide+kernel) (by decide+kernel) (by decide+kernel)
     . exact Ym nmN (by decide+kernel) (by decide+kernel) (by decide+kernel)
     . have it:=Yr (ds:=[PyData.str z0]) λy hy=>by rw[List.mem_singleton.mp hy];exact ZB n0
       refine Zk (.lst x1 nlo (.cons (.str z0) .nil)) (.lst (.of x1) (.cons (.str z0) .nil)) ⟨rfl,by simp only[PyData.depth,PyData.depthAll];omega,?_⟩ ?_ (λ_=>rfl)
       . have h5:=listText_len_le (PyData.shownAll [PyData.str z0])
         have:=JY n0
         show (listText [reprText z0]).length<=400
         have h6:((PyData.shownAll [PyData.str z0]).map (·.length)).sum=(reprText z0).length:=Nat.add_zero _
         have h7:(PyData.shownAll [PyData.str z0]).length=1:=rfl
         have h8:(listText (PyData.shownAll [PyData.str z0])).length=(listText [reprText z0]).length:=rfl
         omega
       . show PyData.canLayAll0 ([z0].map PyData.str)=true
         exact vD λy hy=>by rw[List.mem_singleton.mp hy];exact n0
     . refine Zk (.tup x2 (.cons (.str z0) .nil)) (.tup (.of x2) (.cons (.str z0) .nil)) ⟨rfl,by simp only[PyData.depth,PyData.depthAll];omega,?_⟩ ?_ (λ_=>rfl)
       . have h5:=tupleText_len_le (PyData.shownAll [PyData.str z0])
         have:=JY n0
         show (tupleText [reprText z0]).length<=400
         have h6:((PyData.shownAll [PyData.str z0]).map (·.length)).sum=(reprText z0).length:=Nat.add_zero _
         have h7:(PyData.shownAll [PyData.str z0]).length=1:=rfl
         have h8:(tupleText (PyData.shownAll [PyData.str z0])).length=(tupleText [reprText z0]).length:=rfl
         omega
       . show PyData.canLayAll0 ([z0].map PyData.str)=true
         exact vD λy hy=>by rw[List.mem_singleton.mp hy];exact n0
     . exact⟨.dict [],.dct0 x3,⟨rfl,by decide+kernel,by decide+kernel⟩,.inr ⟨dd,[],rfl,x3⟩⟩
     . exact Ym nmN ln2 ln1 ln3
     . exact Zk (.int 7) (.int 7) ⟨by decide+kernel,Nat.zero_le _,by decide+kernel⟩ rfl (λ_=>rfl)
   have no:∀{a b:Int},a≠b->decide (V.int a=V.int b)=false:=λh=>decide_eq_false λz=>h (V.int.inj z)
   refine⟨_,rfl,rfl,_,rfl,zh (λc0=>?_) (λc0=>?_)⟩
   ·
     refine⟨_,rfl,ln,_,0,_,rfl,rfl,.of hn5,i0,_,rfl,h',_,rfl,.inl ⟨.of hh5,λtq htq=>?_⟩⟩
     have b1:=qh (o:=HO.tup (hs.map V.str)) htq
     have y1:upd A5 tq (.tup (hs.map V.str)) tq=some (.tup (hs.map V.str)):=qd
     generalize upd A5 tq (.tup (hs.map V.str))=B1 at b1 y1
     refine λd2 hd2'=>?_
     have b2:=qh (o:=HO.dK []) hd2'
     have y2:upd B1 d2 (.dK []) d2=some (.dK []):=qd
     have nd2:d2≠d:=λe=>by rw[e,b1 _ _ hd5]at hd2';cases hd2'
     generalize upd B1 d2 (.dK [])=B2 at b2 y2
     have b12:=b1.trans b2
     refine λd3 hd3'=>⟨_,rfl,ln,_,0,_,rfl,rfl,.of ((qh hd3') _ _ (b12 _ _ hn5)),i0,qd,[(Sum.inr z0,.int 1)],rfl,by show 1<=15;decide,?_⟩
     rw[jz,show Jc [] [((Sum.inr z0:qP),V.int 1)]=[(Sum.inr z0,.int 1)] from rfl]
     have b3:=qh (o:=HO.dK [((Sum.inr z0:qP),V.int 1)]) hd3'
     have y3:upd B2 d3 (.dK [((Sum.inr z0:qP),V.int 1)]) d3=some (.dK [((Sum.inr z0:qP),V.int 1)]):=qd
     have nd3:d3≠d:=λe=>by rw[e,b12 _ _ hd5]at hd3';cases hd3'
     generalize upd B2 d3 (.dK [((Sum.inr z0:qP),V.int 1)])=B3 at b3 y3
     refine⟨by show 0<=sizeLine;decide,λte hte=>⟨by show 8<=sizeLine;decide,λtl htl=>?_⟩⟩
     have b4:=qh (o:=HO.tup []) hte
     have y4:upd B3 te (.tup []) te=some (.tup []):=qd
     generalize upd B3 te (.tup [])=B4 at b4 y4 htl
     have b5:=qh (o:=HO.lst [V.non,.int 5,.bl true,.str z0,.ref tq,.ref d2,.ref d3,.ref te]) htl
     have y5:upd B4 tl (.lst [V.non,.int 5,.bl true,.str z0,.ref tq,.ref d2,.ref d3,.ref te]) tl=some (.lst [V.non,.int 5,.bl true,.str z0,.ref tq,.ref d2,.ref d3,.ref te]):=qd
     generalize upd B4 tl (.lst [V.non,.int 5,.bl true,.str z0,.ref tq,.ref d2,.ref d3,.ref te])=B5 at b5 y5
     have b15:=((b12.trans b3).trans b4).trans b5
     have hdB:=b15 _ _ hd5
     refine⟨_,rfl,d,8,n2,sd,t2,rfl,hdB,by decide,by decide,λti n3 t3 p0 p1=>?_⟩
     have hd6:upd B5 d (.dK (jf n3 sd t3)) d=some (.dK (jf n3 sd t3)):=qd
     have fr6:Fr B5 d (upd B5 d (.dK (jf n3 sd t3))):=Fr.refl.at_d
     generalize upd B5 d (.dK (jf n3 sd t3))=B6 at hd6 fr6
     have f06:Fr H d B6:=(f05.same b15).trans fr6
     have tq6:=qW fr6 hdB ((((b2.trans b3).trans b4).trans b5) _ _ y1) (λ_ z=>nomatch z)
     have d26:=fr6 _ _ (((b3.trans b4).trans b5) _ _ y2) nd2
     have d36:=fr6 _ _ ((b4.trans b5) _ _ y3) nd3
     have te6:=qW fr6 hdB (b5 _ _ y4) (λ_ z=>nomatch z)
     obtain⟨tv,mtv,etv⟩:=vF (xs:=[V.non,.int 5,.bl true,.str z0,.ref tq,.ref d2,.ref d3,.ref te]) p0 (by show ti < (8:Int);exact p1)
     refine⟨tl,_,ti,tv,rfl,rfl,.of (qW fr6 hdB y5 (λ_ z=>nomatch z)),etv,?_⟩
     refine⟨_,rfl,_,rfl,by show 3<=sizeLine;decide,λLd hLd nLd=>⟨by show 2<=sizeLine;decide,λR hR=>?_⟩⟩
     have s7:=qh (o:=HO.lst [V.str (Str.ofString "heap"),tv,.bl true]) hLd
     have s8:=qh (o:=HO.lst [tv,V.ref Ld]) hR
     have s78:=s7.trans s8
     have fin:∀{dv:PyData} {ty:Value},DG B6 tv dv->It dv->TyOf K B6 tv ty->PySem.W.kitOne K ty (.type "list")=some false->yT K CH CT CP (upd (upd B6 Ld (.lst [V.str (Str.ofString "heap"),tv,.bl true])) R (.lst [tv,V.ref Ld])) (rs.map (·.1)) tv Ld:=λdg it ty kl=>
       ⟨tv,CH,_,_,_,s8 _ _ qd,nLd,.inl ⟨rfl,rfl,_,TyOf.keep ty s78.keep,kl⟩,.inl ⟨rfl,rfl⟩,dg.keepX s78.keep,it.sz.up (by decide),dg.keepX s78.keep,it.sz⟩
     refine q R Ld tv n3 t3 _ (f06.same s78) (s78 _ _ hd6) qd ?_
     simp only[List.mem_cons,List.mem_nil_iff,or_false]at mtv
     rcases mtv with rfl | rfl | rfl | rfl | rfl | rfl | rfl | rfl
     . exact fin .non ⟨rfl,Nat.zero_le _,by decide+kernel⟩ .non (uA K)
     . exact fin (.int 5) ⟨by decide+kernel,Nat.zero_le _,by decide+kernel⟩ (.int 5) (K1 K)
     . exact fin (.bl true) ⟨rfl,Nat.zero_le _,by decide+kernel⟩ (.bl true) (K4 K)
     . exact fin (.str z0) (ZB n0) (.str z0) (K0 K)
     . refine fin (.tup tq6 (DGs.strs hs)) ⟨?_,?_,?_⟩ (.tup tq6) (uy K)
       . exact(Yr (ds:=hs.map PyData.str) λy hy=>by obtain⟨z,hz,rfl⟩:=List.mem_map.mp hy;exact ZB (nmH z hz)).1
       . simp only[PyData.depth,x6]
         decide
       . obtain⟨a1,a2,a3,a4⟩:=Uh (n:=82) (ds:=hs.map PyData.str) λy hy=>by
           obtain⟨z,hz,rfl⟩:=List.mem_map.mp hy
           exact yX (nmH z hz)
         have i1:=tupleText_len_le (PyData.shownAll (hs.map PyData.str))
         rw[List.length_map]at a3 a4
         have:=hh.le
         show (tupleText (PyData.shownAll (hs.map PyData.str))).length<=1000
         omega
     . exact fin (.dct0 d26) ⟨rfl,by decide+kernel,by decide+kernel⟩ (.dK d26) (uB K)
     . refine fin (.dct1 d36) ⟨?_,?_,?_⟩ (.dK d36) (uB K)
       . show ((true&&decide ((1:Int).natAbs.log2 < 1920))&&true)=true
         decide+kernel
       . simp [PyData.depth,PyData.depthKv]
       . have h5:=dictText_len_le [reprText z0++": "++(toString (1:Int):Str)]
         have h6:=JY n0
         have h7:(reprText z0++": "++(toString (1:Int):Str)).length=(reprText z0).length+2+1:=by
           rw[strLen_append,strLen_append]
           rfl
         simp only[List.map_cons,List.map_nil,List.sum_cons,List.sum_nil,List.length_cons,List.length_nil,h7]at h5
         exact Nat.le_trans h5 (by omega)
     . exact fin (.tup te6 .nil) ⟨rfl,by decide+kernel,by decide+kernel⟩ (.tup te6) (uy K)
   ·
     refine⟨_,rfl,_,rfl,h',_,rfl,.inl (.of hh5),_,_,rfl,rfl,d,_,n2,sd,t2,rfl,hd5,by rw[List.length_map];omega,by rw[List.length_map];have:=hh.le;omega,λat0 n3 t3 a0 a1=>?_⟩
     rw[List.length_map]at a1
     obtain⟨at_,rfl⟩:∃k:Nat,at0=(k:Int):=⟨at0.toNat,by omega⟩
     have atl:at_<=hs.length:=by omega
     have h8:=hh.le
     have hd6:upd A5 d (.dK (jf n3 sd t3)) d=some (.dK (jf n3 sd t3)):=qd
     have fr6:Fr A5 d (upd A5 d (.dK (jf n3 sd t3))):=Fr.refl.at_d
     generalize upd A5 d (.dK (jf n3 sd t3))=C1 at hd6 fr6
     have f06:Fr H d C1:=f05.trans fr6
     have hn6:=qW fr6 hd5 hn5 (λ_ z=>nomatch z)
     have hh6:=qW fr6 hd5 hh5 (λ_ z=>nomatch z)
     have lo6:=qW fr6 hd5 lo5 (λ_ z=>nomatch z)
     have to6:=qW fr6 hd5 to5 (λ_ z=>nomatch z)
     have dd6:=fr6 _ _ dd5 nddd
     refine⟨_,rfl,rfl,_,rfl,zh (λc1=>?_) (λc1=>?_)⟩
     . refine⟨_,rfl,d,4,n3,sd,t3,rfl,hd6,by decide,by decide,λm0' n4 t4 m1 m2=>⟨_,_,rfl,rfl,?_⟩⟩
       obtain⟨m,em,m9,m12⟩:∃m:Nat,(9:Int)+m0'=(m:Int)/\9<=m/\m<=12:=⟨(9+m0').toNat,by omega,by omega,by omega⟩
       dsimp only
       rw[em]
       have hd7:upd C1 d (.dK (jf n4 sd t4)) d=some (.dK (jf n4 sd t4)):=qd
       have fr7:Fr C1 d (upd C1 d (.dK (jf n4 sd t4))):=Fr.refl.at_d
       generalize upd C1 d (.dK (jf n4 sd t4))=C2 at hd7 fr7
       have f07:Fr H d C2:=f06.trans fr7
       have hn7:=qW fr7 hd6 hn6 (λ_ z=>nomatch z)
       have hh7:=qW fr7 hd6 hh6 (λ_ z=>nomatch z)
       have lo7:=qW fr7 hd6 lo6 (λ_ z=>nomatch z)
       have to7:=qW fr7 hd6 to6 (λ_ z=>nomatch z)
       have dd7:=fr7 _ _ dd6 nddd
       have lst_:∃zl,Xl ((rs.map (·.1)).map V.str) (-1)=some (.str zl)/\zl∈rs.map (·.1):=by
         have hl:(rs.map (·.1)).length - 1 < (rs.map (·.1)).length:=by rw[List.length_map];omega
         refine⟨(rs.map (·.1))[(rs.map (·.1)).length - 1],?_,List.getElem_mem hl⟩
         unfold Xl yO
         rw[if_neg (by decide),if_pos (by rw[List.length_map,List.length_map];omega)]
         show ((rs.map (·.1)).map V.str)[(-1+(((rs.map (·.1)).map V.str).length:Int)).toNat]?=_
         have e:(-1+(((rs.map (·.1)).map V.str).length:Int)).toNat=(rs.map (·.1)).length - 1:=by rw[List.length_map,List.length_map];omega
         rw[e,List.getElem?_map,List.getElem?_eq_getElem hl]
         rfl
       obtain⟨zl,ezl,mzl⟩:=lst_
       obtain⟨k,ek,k1⟩:∃k:Nat,(if PyData.eqv (dL hs) (.list [])=true then (1:Int) else 0)=(k:Int)/\k<=1:=by
         split
         . exact⟨1,rfl,by decide⟩
         . exact⟨0,rfl,by decide⟩
       refine⟨_,rfl,_,rfl,by show 1<=sizeLine;decide,λa1 ha1=>⟨_,rfl,by show 0<=sizeLine;decide,λa2 ha2=>?_⟩⟩
       have u1:=qh (o:=HO.lst [ov]) ha1
       have v1:upd C2 a1 (.lst [ov]) a1=some (.lst [ov]):=qd
       generalize upd C2 a1 (.lst [ov])=D1 at u1 v1 ha2
       have u2:=qh (o:=HO.lst []) ha2
       have v2:upd D1 a2 (.lst []) a2=some (.lst []):=qd
       generalize upd D1 a2 (.lst [])=D2 at u2 v2
       have u12:=u1.trans u2
       refine⟨dL hs,.list [],uY (u12 _ _ hh7),.lst (.of v2) .nil,shL nmH,rfl,.inr ⟨_,rfl,a1,ov,k,rfl,congrArg V.int ek,.of (u2 _ _ v1),by omega,λa3 ha3=>?_⟩⟩
       have u3:=qh (o:=HO.lst (List.replicate k ov)) ha3
       have v3:upd D2 a3 (.lst (List.replicate k ov)) a3=some (.lst (List.replicate k ov)):=qd
       generalize upd D2 a3 (.lst (List.replicate k ov))=D3 at u3 v3
       have u13:=u12.trans u3
       refine⟨h',a3,_,_,rfl,rfl,.of (u13 _ _ hh7),.of v3,Nat.le_of_lt (qw (by rw[List.length_map,List.length_replicate];omega)),λa4 ha4=>?_⟩
       have u4:=qh (o:=HO.lst (hs.map V.str++List.replicate k ov)) ha4
       have v4:upd D3 a4 (.lst (hs.map V.str++List.replicate k ov)) a4=some (.lst (hs.map V.str++List.replicate k ov)):=qd
       generalize upd D3 a4 (.lst (hs.map V.str++List.replicate k ov))=D4 at u4 v4
       have u14:=u13.trans u4
       refine⟨_,rfl,1,rfl,ln,_,_,_,rfl,rfl,.of (u14 _ _ hn7),ezl,by show 1<=sizeLine;decide,λa5 ha5=>?_⟩
       have u5:=qh (o:=HO.lst [V.str zl]) ha5
       have v5:upd D4 a5 (.lst [V.str zl]) a5=some (.lst [V.str zl]):=qd
       generalize upd D4 a5 (.lst [V.str zl])=D5 at u5 v5
       refine⟨_,rfl,a5,_,m,rfl,rfl,.of v5,by omega,λa6 ha6=>?_⟩
       have u6:=qh (o:=HO.lst (List.replicate m (V.str zl))) ha6
       have v6:upd D5 a6 (.lst (List.replicate m (V.str zl))) a6=some (.lst (List.replicate m (V.str zl))):=qd
       generalize upd D5 a6 (.lst (List.replicate m (V.str zl)))=D6 at u6 v6
       refine⟨a4,a6,_,_,rfl,rfl,.of ((u5.trans u6) _ _ v4),.of v6,Nat.le_of_lt (qw (by rw[List.length_append,List.length_map,List.length_replicate,List.length_replicate];omega)),λa7 ha7=>?_⟩
       have u7:=qh (o:=HO.lst (hs.map V.str++List.replicate k ov++List.replicate m (V.str zl))) ha7
       have v7:upd D6 a7 (.lst (hs.map V.str++List.replicate k ov++List.replicate m (V.str zl))) a7=some (.lst (hs.map V.str++List.replicate k ov++List.replicate m (V.str zl))):=qd
       generalize upd D6 a7 (.lst (hs.map V.str++List.replicate k ov++List.replicate m (V.str zl)))=D7 at u7 v7
       have u17:=((u14.trans u5).trans u6).trans u7
       refine⟨_,rfl,_,rfl,_,rfl,a7,_,rfl,.of v7,λlv hlv nlv=>?_⟩
       rw[zS]
       have u8:=qh (o:=HO.lst ((hs.map V.str++List.replicate k ov++List.replicate m (V.str zl)).take m)) hlv
       have v8:upd D7 lv (.lst ((hs.map V.str++List.replicate k ov++List.replicate m (V.str zl)).take m)) lv=some (.lst ((hs.map V.str++List.replicate k ov++List.replicate m (V.str zl)).take m)):=qd
       generalize upd D7 lv (.lst ((hs.map V.str++List.replicate k ov++List.replicate m (V.str zl)).take m))=D8 at u8 v8
       have u18:=u17.trans u8
       obtain⟨df,dg,it,_⟩:=odd D8 (u18 _ _ lo7) (u18 _ _ to7) (u18 _ _ dd7)
       have lx:((hs.map V.str++List.replicate k ov++List.replicate m (V.str zl)).take m).length=m:=by
         rw[List.length_take,List.length_append,List.length_append,List.length_map,List.length_replicate,List.length_replicate]
         omega
       have dgl:DG D8 (.ref lv) (.list ((hs.map PyData.str++List.replicate k df++List.replicate m (PyData.str zl)).take m)):=.lst v8 nlv (DGs.takeG m (DGs.app (DGs.rep (DG.str zl) m) (DGs.app (DGs.rep dg k) (DGs.strs hs))))
       have szl:Sz 90000 (.list ((hs.map PyData.str++List.replicate k df++List.replicate m (PyData.str zl)).take m)):=WS (λy hy=>by
         rcases List.mem_append.mp (List.mem_of_mem_take hy) with h | h
         . rcases List.mem_append.mp h with h | h
           . obtain⟨z,hz,rfl⟩:=List.mem_map.mp h
             exact ZB (nmH z hz)
           . rw[List.eq_of_mem_replicate h]
             exact it.it
         . rw[List.eq_of_mem_replicate h]
           exact ZB (nmN zl mzl)) (by rw[List.length_take];omega)
       refine⟨_,rfl,by show 3<=sizeLine;decide,λLd hLd nLd=>⟨by show 2<=sizeLine;decide,λR hR=>?_⟩⟩
       have s9:=qh (o:=HO.lst [V.str (Str.ofString "many"),.int (m:Nat),.bl true]) hLd
       have s10:=qh (o:=HO.lst [V.ref lv,V.ref Ld]) hR
       have s90:=s9.trans s10
       have itm:It (.int (m:Nat)):=by
         have:∀m:Nat,m<=12->(PyData.int (m:Int)).showable=true/\(PyData.int (m:Int)).shown.length<=1000:=by decide+kernel
         exact⟨(this m m12).1,Nat.zero_le _,(this m m12).2⟩
       refine q R Ld (.ref lv) n4 t4 _ ((f07.same u18).same s90) ((u18.trans s90) _ _ hd7) qd ⟨.int (m:Nat),CT,_,_,_,s10 _ _ qd,nLd,.inr (.inl ⟨rfl,lv,_,rfl,s90 _ _ v8,by rw[lx];omega,by rw[lx];omega,by rw[lx]⟩),.inr (.inl ⟨rfl,rfl⟩),dgl.keepX s90.keep,szl,.int _,itm.sz⟩
     . have emn:(if (7:Int) < (at_:Int) then (7:Int) else (at_:Int))=((min at_ 7:Nat):Int):=by
         split<;>omega
       refine⟨_,rfl,_,rfl,_,_,rfl,_,rfl,h',_,rfl,.of hh6,λa1 ha1=>?_⟩
       rw[emn,zS,<-List.map_take]
       have u1:=qh (o:=HO.lst ((hs.take (min at_ 7)).map V.str)) ha1
       have v1:upd C1 a1 (.lst ((hs.take (min at_ 7)).map V.str)) a1=some (.lst ((hs.take (min at_ 7)).map V.str)):=qd
       generalize upd C1 a1 (.lst ((hs.take (min at_ 7)).map V.str))=D1 at u1 v1
       refine⟨_,rfl,by show 1<=sizeLine;decide,λa2 ha2=>?_⟩
       have u2:=qh (o:=HO.lst [ov]) ha2
       have v2:upd D1 a2 (.lst [ov]) a2=some (.lst [ov]):=qd
       generalize upd D1 a2 (.lst [ov])=D2 at u2 v2
       have l1:(hs.take (min at_ 7)).length=min at_ 7:=by rw[List.length_take];omega
       refine⟨a1,a2,_,_,rfl,rfl,.of (u2 _ _ v1),.of v2,Nat.le_of_lt (qw (by rw[List.length_map,l1];show _+1<=1000;omega)),λa3 ha3=>?_⟩
       have u3:=qh (o:=HO.lst ((hs.take (min at_ 7)).map V.str++[ov])) ha3
       have v3:upd D2 a3 (.lst ((hs.take (min at_ 7)).map V.str++[ov])) a3=some (.lst ((hs.take (min at_ 7)).map V.str++[ov])):=qd
       generalize upd D2 a3 (.lst ((hs.take (min at_ 7)).map V.str++[ov]))=D3 at u3 v3
       have u13:=(u1.trans u2).trans u3
       refine⟨_,rfl,_,rfl,_,rfl,_,rfl,h',_,rfl,.of (u13 _ _ hh6),λa4 ha4=>?_⟩
       have ecut:L2.cutV (hs.map V.str) (some (at_:Int)) (some 7)=((hs.drop at_).take (min 7 hs.length - at_)).map V.str:=by
         unfold L2.cutV
         rw[HT.sIx_nat,show (some (7:Int))=some ((7:Nat):Int) from rfl,HT.sIx_nat,List.length_map,Nat.min_eq_left atl,List.map_take,List.map_drop]
       rw[ecut]
       have l2:((hs.drop at_).take (min 7 hs.length - at_)).length<=min 7 hs.length - at_:=by rw[List.length_take];omega
       have m2:∀z∈(hs.drop at_).take (min 7 hs.length - at_),z∈hs:=λz hz=>List.mem_of_mem_drop (List.mem_of_mem_take hz)
       generalize (hs.drop at_).take (min 7 hs.length - at_)=zs2 at l2 m2 ha4 ⊢
       have m1:∀z∈hs.take (min at_ 7),z∈hs:=λz hz=>List.mem_of_mem_take hz
       generalize hs.take (min at_ 7)=zs1 at l1 m1 v1 v3 ⊢
       have u4:=qh (o:=HO.lst (zs2.map V.str)) ha4
       have v4:upd D3 a4 (.lst (zs2.map V.str)) a4=some (.lst (zs2.map V.str)):=qd
       generalize upd D3 a4 (.lst (zs2.map V.str))=D4 at u4 v4
       have ll:(zs1.map V.str++ov::zs2.map V.str).length<=8:=by
         rw[List.length_append,List.length_cons,List.length_map,List.length_map,l1]
         omega
       refine⟨a3,a4,_,_,rfl,rfl,.of (u4 _ _ v3),.of v4,Nat.le_of_lt (qw (by rw[List.length_append,List.length_map,List.length_map,l1];show _+1+_<=1000;omega)),λfo hfo nfo=>?_⟩
       rw[List.append_assoc,show [ov]++zs2.map V.str=ov::zs2.map V.str from rfl]
       have u5:=qh (o:=HO.lst (zs1.map V.str++ov::zs2.map V.str)) hfo
       have v5:upd D4 fo (.lst (zs1.map V.str++ov::zs2.map V.str)) fo=some (.lst (zs1.map V.str++ov::zs2.map V.str)):=qd
       generalize upd D4 fo (.lst (zs1.map V.str++ov::zs2.map V.str))=D5 at u5 v5
       have u15:=(u13.trans u4).trans u5
       refine⟨λσ'' Y=>∃(fo2:Addr) (rest:List V) (dr:List PyData),σ''=[some (.ref l),some (.ref h'),some (.ref d),some (.ref ln),some (.int wy),some ov,none,some (.int (at_:Nat)),none,none,some (.ref fo2)]/\Same C1 Y/\Y fo2=some (.lst (zs1.map V.str++ov::rest))/\fo2≠sysModules/\(zs1.map V.str++ov::rest).length<=8/\DGs Y rest dr/\∀y∈dr,It y,?_,?_⟩
       . have keep5:∃(fo2:Addr) (rest:List V) (dr:List PyData),[some (V.ref l),some (.ref h'),some (.ref d),some (.ref ln),some (.int wy),some ov,none,some (.int (at_:Nat)),none,none,some (.ref fo)]=[some (.ref l),some (.ref h'),some (.ref d),some (.ref ln),some (.int wy),some ov,none,some (.int (at_:Nat)),none,none,some (.ref fo2)]/\Same C1 D5/\D5 fo2=some (.lst (zs1.map V.str++ov::rest))/\fo2≠sysModules/\(zs1.map V.str++ov::rest).length<=8/\DGs D5 rest dr/\∀y∈dr,It y:=⟨fo,_,zs2.map PyData.str,rfl,u15,v5,nfo,ll,DGs.strs zs2,λy hy=>by
           obtain⟨z,hz,rfl⟩:=List.mem_map.mp hy
           exact ZB (nmH z (m2 z hz))⟩
         refine⟨_,rfl,rfl,_,rfl,zh (λc2=>⟨_,rfl,fo,_,rfl,.inl (.of v5),_,_,rfl,rfl,_,rfl,zh (λc3=>?_) (λc3=>keep5)⟩) (λc2=>qv rfl keep5)⟩
         have l7:(zs1.map V.str++ov::zs2.map V.str).length < 8:=by
           have:=of_decide_eq_true c3
           omega
         refine⟨_,rfl,_,rfl,by show 2<=sizeLine;decide,λb1 hb1 nb1=>⟨by show 1<=sizeLine;decide,λb2 hb2=>?_⟩⟩
         have w1:=qh (o:=HO.lst [V.non,ov]) hb1
         have x1:upd D5 b1 (.lst [V.non,ov]) b1=some (.lst [V.non,ov]):=qd
         generalize upd D5 b1 (.lst [V.non,ov])=E1 at w1 x1 hb2
         have w2:=qh (o:=HO.lst [V.ref b1]) hb2
         have x2:upd E1 b2 (.lst [V.ref b1]) b2=some (.lst [V.ref b1]):=qd
         generalize upd E1 b2 (.lst [V.ref b1])=E2 at w2 x2
         refine⟨fo,b2,_,_,rfl,rfl,.of ((w1.trans w2) _ _ v5),.of x2,Nat.le_of_lt (qw (by show _+1<=1000;omega)),λf2 hf2 nf2=>?_⟩
         rw[List.append_assoc,show (ov::zs2.map V.str)++[V.ref b1]=ov::(zs2.map V.str++[V.ref b1]) from rfl]
         have w3:=qh (o:=HO.lst (zs1.map V.str++ov::(zs2.map V.str++[V.ref b1]))) hf2
         have x3:upd E2 f2 (.lst (zs1.map V.str++ov::(zs2.map V.str++[V.ref b1]))) f2=some (.lst (zs1.map V.str++ov::(zs2.map V.str++[V.ref b1]))):=qd
         generalize upd E2 f2 (.lst (zs1.map V.str++ov::(zs2.map V.str++[V.ref b1])))=E3 at w3 x3
         have u3E:=((u15.trans w1).trans w2).trans w3
         obtain⟨df,dg,it,_⟩:=odd E3 (u3E _ _ lo6) (u3E _ _ to6) (u3E _ _ dd6)
         have itn:It (.list [.none,df]):=by
           have h5:=listText_len_le (PyData.shownAll [.none,df])
           have h6:((PyData.shownAll [PyData.none,df]).map (·.length)).sum=(PyData.none.shown).length+(df.shown.length+0):=rfl
           have h7:(PyData.shownAll [PyData.none,df]).length=2:=rfl
           have h8:PyData.none.shown.length<=10:=by decide+kernel
           have h9:=it.ln
           refine⟨by show (true&&(df.showable&&true))=true;rw[it.sh];rfl,?_,?_⟩
           . have:=it.dp
             simp only[PyData.depth,PyData.depthAll]
             omega
           . show (listText (PyData.shownAll [.none,df])).length<=1000
             omega
         refine⟨f2,_,zs2.map PyData.str++[.list [.none,df]],rfl,u3E,x3,nf2,?_,DGs.app (.cons (.lst ((w2.trans w3) _ _ x1) nb1 (.cons .non (.cons dg .nil))) .nil) (DGs.strs zs2),λy hy=>?_⟩
         . rw[List.length_append,List.length_cons,List.length_append,List.length_singleton]
           rw[List.length_append,List.length_cons]at l7
           omega
         . rcases List.mem_append.mp hy with h | h
           . obtain⟨z,hz,rfl⟩:=List.mem_map.mp h
             exact ZB (nmH z (m2 z hz))
           . rw[List.mem_singleton.mp h]
             exact itn
       . rintro σ'' Y ⟨fo2,rest,dr,rfl,sY,hY,nf2,l8,dgr,itr⟩
         obtain⟨df,dg,it,np⟩:=odd Y (sY _ _ lo6) (sY _ _ to6) (sY _ _ dd6)
         refine⟨_,rfl,_,rfl,by show 3<=sizeLine;decide,λLd hLd nLd=>⟨by show 2<=sizeLine;decide,λR hR=>?_⟩⟩
         have s9:=qh (o:=HO.lst [V.str (Str.ofString "place"),ov,.bl true]) hLd
         have s10:=qh (o:=HO.lst [V.ref fo2,V.ref Ld]) hR
         have s90:=s9.trans s10
         have dgl:DG Y (.ref fo2) (.list (zs1.map PyData.str++df::dr)):=.lst hY nf2 (DGs.app (.cons dg dgr) (DGs.strs zs1))
         have ld:=DGs.len (DGs.app (.cons dg dgr) (DGs.strs (H:=Y) zs1))
         have szl:Sz 90000 (.list (zs1.map PyData.str++df::dr)):=WS (λy hy=>by
           rcases List.mem_append.mp hy with h | h
           . obtain⟨z,hz,rfl⟩:=List.mem_map.mp h
             exact ZB (nmH z (m1 z hz))
           . rcases List.mem_cons.mp h with h | h
             . rw[h];exact it.it
             . exact itr y h) (by rw[<-ld];omega)
         exact q R Ld (.ref fo2) n3 t3 _ ((f06.same sY).same s90) ((sY.trans s90) _ _ hd6) qd ⟨ov,CP,_,_,_,s10 _ _ qd,nLd,.inr (.inr ⟨rfl,fo2,zs1,rest,rfl,s90 _ _ hY,l8,λz hz=>by
           obtain⟨r,hr,e⟩:=hh.in_ z (m1 z hz)
           exact List.mem_map.mpr ⟨r,hr,e⟩,np.keep s90.keep⟩),.inr (.inr ⟨rfl,rfl⟩),dgl.keepX s90.keep,szl,dg.keepX s90.keep,it.it.sz⟩
end
end Rh
set_option Elab.async false
set_option linter.all false
set_option maxRecDepth 100000
set_option maxHeartbeats 4000000
namespace Rh
open PySem L2 PyProof.Rows
theorem kc {n s t:Int} {k:qP} {q:Addr}:¬jy (jf n s t) k=some (.ref q):=λh=>by
 unfold jf at h
 by_cases e1:(Sum.inr (Str.ofString "number"):qP)=k
 . rw[qT e1]at h;cases h
 . rw[qU e1]at h
   by_cases e2:(Sum.inr (Str.ofString "seed"):qP)=k
   . rw[qT e2]at h;cases h
   . rw[qU e2]at h
     by_cases e3:(Sum.inr (Str.ofString "turn"):qP)=k
     . rw[qT e3]at h;cases h
     . rw[qU e3]at h;cases h
theorem XV {X:Hp} {l2:Addr} {ps:List Addr} {rs:Q1} {CG:Addr} {R:Hp->Prop} (hl:X l2=some (.lst (ps.map V.ref))) (rat:ji X ps rs) (good:qH rs) (pos:0 < rs.length) (le14:rs.length<=14)
   {x dx:Addr} (hx:X x=none) (hdx:X dx=none) (ndx:dx≠x) {E:XK} (k:∀H4,Same X H4->jS CG H4 x rs->R H4):
   Yb CG [.ref x,.ref l2] (upd (upd X dx (.own x)) x (.ins CG dx [])) (λv H'=>v=.non/\R H') E:=by
 have s3:Same X (upd (upd X dx (.own x)) x (.ins CG dx [])):=λb u hb=>by
   rw[qf (ql hb hx),qf (ql hb hdx)]
   exact hb
 refine⟨x,dx,l2,ps,rs,rfl,⟨s3 _ _ hl,rat.mono s3,good,pos,le14⟩,qd,λH4 gr fr4=>⟨rfl,k H4 (λb u hb=>fr4 b u (s3 _ _ hb) (ql hb hx)) gr⟩⟩
theorem ux {r:Int} (h0:0<=r) (h1:r < 3):∃mo:Nat,Xl [V.int 5,.int 9,.int 14] r=some (.int (mo:Int))/\0 < mo/\mo<=14:=by
 have:r=0\/r=1\/r=2:=by omega
 rcases this with rfl | rfl | rfl
 . exact⟨5,rfl,by decide,by decide⟩
 . exact⟨9,rfl,by decide,by decide⟩
 . exact⟨14,rfl,by decide,by decide⟩
theorem YC {K:PySem.W.Frag} {H H':Hp} {p d:Addr} {ns:List Int} {kvs:List (qP×V)} (h:SqL K H p (ns.map V.int)) (hd:H d=some (.dK kvs)) (f:Fr H d H'):SqL K H' p (ns.map V.int):=by
 rcases h with (h | ⟨o,h⟩) | h
 . exact .inl (.inl (f _ _ h (λe=>by rw[e,hd]at h;cases h)))
 . exact .inl (.inr ⟨o,f _ _ h (λe=>by rw[e,hd]at h;cases h)⟩)
 . exact .inr h
def y7 (K:PySem.W.Frag) (PT:Addr):Sp:=λvs H Q _=>∃(a:Addr) (ns:List Int),vs=[.ref a]/\SqL K H a (ns.map V.int)/\ns.length<=63/\H PT=some (.tbl #[.str Zj 0])/\∀H',Q (.bl true) H'
theorem uG {n jj:Int} (h0:0<=n) (h:(if (if (20:Int) < n then (20:Int) else n) > 4 then (if (20:Int) < n then (20:Int) else n) else 4)=jj):-(2^62)<=jj/\jj < 2^62:=by
 subst h
 split<;>split<;>omega
theorem jS.frd {CG:Addr} {H H':Hp} {x d:Addr} {rs:Q1} {n s t:Int} (h:jS CG H x rs) (pos:0 < rs.length) (hd:H d=some (.dK (jf n s t))) (fr:Fr H d H'):jS CG H' x rs:=by
 obtain⟨dx',lo,rd,kvs,a1,a2,a3,a4⟩:=h
 have nrd:rd≠d:=λe=>by
   rw[e,hd]at a3
   obtain⟨r,hr'⟩:=List.exists_mem_of_length_pos pos
   obtain⟨q,a5,_⟩:=a4 r hr'
   rw[<-(HO.dK.inj (Option.some.inj a3))]at a5
   exact kc a5
 exact⟨dx',lo,rd,kvs,qW fr hd a1 (λ_ e=>nomatch e),qW fr hd a2 (λ_ e=>nomatch e),fr _ _ a3 nrd,λr hr'=>let ⟨q,b1,b2⟩:=a4 r hr';⟨q,b1,qW fr hd b2 (λ_ e=>nomatch e)⟩⟩
theorem yY {wd:Str} {df:PyData} (h:kK wd) (z:Sz 50000 df):(PyData.list [.list [.str wd,df,.bool true],.int 0]).showable=true/\(PyData.list [.list [.str wd,df,.bool true],.int 0]).depth<=60/\(PyData.list [.list [.str wd,df,.bool true],.int 0]).shown.length<=sizeLine:=by
 have hw:=(XB (n:=1000) h (by decide)).ln
 have i1:=listText_len_le (PyData.shownAll [.str wd,df,.bool true])
 have i2:=listText_len_le (PyData.shownAll [.list [.str wd,df,.bool true],.int 0])
 have e1:((PyData.shownAll [PyData.str wd,df,.bool true]).map (·.length)).sum=(PyData.str wd).shown.length+(df.shown.length+((PyData.bool true).shown.length+0)):=rfl
 have e2:((PyData.shownAll [PyData.list [.str wd,df,.bool true],.int 0]).map (·.length)).sum=(listText (PyData.shownAll [PyData.str wd,df,.bool true])).length+((PyData.int 0).shown.length+0):=rfl
 have e3:(PyData.shownAll [PyData.str wd,df,.bool true]).length=3:=rfl
 have e4:(PyData.shownAll [PyData.list [.str wd,df,.bool true],.int 0]).length=2:=rfl
 have e5:(PyData.bool true).shown.length<=10:=by decide+kernel
 have e6:(PyData.int 0).shown.length<=10:=by decide+kernel
 have z1:=z.ln
 have z2:=z.dp
 refine⟨?_,?_,?_⟩
 . show ((true&&(df.showable&&(true&&true)))&&(PyData.showable (.int 0)&&true))=true
   rw[z.sh]
   decide+kernel
 . simp only[PyData.depth,PyData.depthAll]
   omega
 . show (listText (PyData.shownAll [PyData.list [.str wd,df,.bool true],.int 0])).length<=sizeLine
   exact Nat.le_trans (show _<=100000 by omega) (by decide)
theorem yU {CH CT CP C:Addr} {wd:Str} (h:K9 CH CT CP C wd):kK wd:=by
 rcases h with ⟨_,rfl⟩ | ⟨_,rfl⟩ | ⟨_,rfl⟩<;>decide+kernel
section
variable {P:Program} {w:World} {K:PySem.W.Frag} {mg:Str->Option Value} {base:Heap}
abbrev KQ:List Str:=["_law_script","_law_k","_law_source_here","_law_rows_here","_law_ground","_law_heap_here","_law_bad_here","_law_due","_law_kept","_law_way"]
theorem Jr:qz KQ ["_law_script"] (qi Yg):=⟨rfl,rfl,rfl,by decide+kernel,rfl,by decide+kernel,by decide+kernel⟩
structure uV (K:PySem.W.Frag) (mg:Str->Option Value):Prop where
 cell:∃f fd,jo K mg "_law_cell_at" WA ["_law_script","_law_k"] f fd
 source:∃f fd,jo K mg "_law_source" ZL ["_law_cell"] f fd
 take:∃f fd,jo K mg "_law_take" JP ["_law_source_here","_law_many"] f fd
 names:∃f fd,jo K mg "_law_names" Z4 ["_law_source_here","_law_many"] f fd
 leads:∃f fd,jo K mg "_law_leads" Z5 za f fd
 rows:∃f fd,jo K mg "_law_rows" Ww ["_law_source_here","_law_most"] f fd
 need:∃f fd,jo K mg "need_rows" YT ["rows"] f fd
 heap:∃f fd,jo K mg "_law_heap" Yh ur f fd
 told:∃f fd,jo K mg "_law_told" YS wl f fd
 bad:∃f fd,jo K mg "_law_bad" WB Kf f fd
 good:∃f fd,jo K mg "_law_good" Wx Ke f fd
theorem xz {f fA c PT CG D CH CT CP CM fX:Addr} {fd fdA fdX:FuncData} (F:jU K "law" "law" Yg f fd) (hA:jo K mg "_law_asked" Qk XO fA fdA) (hc:fdA.code=.ref c) (TM:YB mg base c PT) (B:Jj mg) (G:jR mg) (T:j2 K mg) (N:yn K mg) (M:GM K mg CG) (Z:HM K mg) (W:HD K mg) (L:uV K mg) (XS:vP K mg D CH CT CP) (xm:zw K mg D "NoMove" "NoMove.__init__" j3 "found" CM fX fdX) (ZT:wb K mg D CH CT CP CM) (rep:mg "repr"=none):
   qo P w K mg base qZ 11 f fd ["_law_script"] (y7 K PT):=by
 obtain⟨fO,fdO,hO⟩:=L.cell
 obtain⟨fL,fdL,hL⟩:=L.source
 obtain⟨fT,fdT,hT⟩:=L.take
 obtain⟨fN,fdN,hN⟩:=L.names
 obtain⟨fD,fdD,hD⟩:=L.leads
 obtain⟨fR,fdR,hR⟩:=L.rows
 obtain⟨fW,fdW,hW⟩:=L.need
 obtain⟨fH,fdH,hH⟩:=L.heap
 obtain⟨fTd,fdTd,hTd⟩:=L.told
 obtain⟨fB,fdB,hB⟩:=L.bad
 obtain⟨fG,fdG,hG⟩:=L.good
 obtain⟨fOv,fdOv,hOv⟩:=W.ov
 obtain⟨fI,fdI,C⟩:=M.cls
 have GO:qo P w K mg base qZ 1 fO fdO ["_law_script","_law_k"] (Ul K):=kJ hO.fn B
 have GL:qo P w K mg base qZ 1 fL fdL ["_law_cell"] YO:=Vw hL.fn B
 have GT:qo P w K mg base qZ 1 fT fdT ["_law_source_here","_law_many"] Q7:=Jk hT.fn
 have GR:qo P w K mg base qZ 3 fR fdR ["_law_source_here","_law_most"] Uj:=kF hR.fn B G hT hN hD
 have GI:qo P w K mg base qZ 6 fI fdI ["self","rows"] (Yb CG):=UZ C B G T N hW
 have GH:qo P w K mg base qZ 2 fH fdH ur Wu:=UW hH.fn B hT
 have GOv:qo P w K mg base qZ 5 fOv fdOv xC (Jw CG):=Yk hOv.fn B G T M Z
 have GTd:qo P w K mg base qZ 9 fTd fdTd wl (y6 K CG CH CT CP PT):=uj hTd.fn hA hc TM B G T M Z W XS xm (uA K) ZT
 have GB:qo P w K mg base qZ 2 fB fdB Kf (Um K CH CT CP):=ul hB.fn B G hT
 have GG:qo P w K mg base qZ 10 fG fdG Ke (wN CG PT):=uk hG.fn B hTd GTd hOv GOv
 refine F.okJ Jr (λvs H Q E z=>?_) (λcdv A outer s H vs Q E hr z=>?_)
 . obtain⟨a,ns,rfl,_⟩:=z
   rfl
 . obtain⟨a,ns,rfl,hq,hlen,htb,k⟩:=z
   have r1:qS 1 _:=hr.mono (by decide)
   have r2:qS 2 _:=hr.mono (by decide)
   have r3:qS 3 _:=hr.mono (by decide)
   have r7:qS 7 _:=hr.mono (by decide)
   have r9:qS 9 _:=hr.mono (by decide)
   refine⟨_,qg (jJ PassesOwn.never rfl (jB (by rfl) B.rng (qb (qp (zV rfl) (by rfl) B.max boot_max (qb qj (qb (qp (zU rfl) (by rfl) B.min boot_min (qb (qp qB (by rfl) B.len boot_len (qb (jv 0) qe)) (qb qj qe))) qe))) qe))
       (qF (i:=1) Jr.nd rfl (Or.inl rfl))
       (qg (qA (i:=2) Jr.nd rfl (Or.inl rfl) (qX hL GL r1 (by rfl) (qb (qX hO GO r1 (by rfl) (qb (jv 0) (qb (jv 1) qe))) qe)))
       (qg (qA (i:=3) Jr.nd rfl (Or.inl rfl) (qX hR GR r3 (by rfl) (qb (jv 2) (qb (jg jl (jk (qb qj (qb qj (qb qj qe)))) (qX hT GT r1 (by rfl) (qb (jv 2) (qb qj qe))) (λ_ _=>rfl)) qe))))
       (qg (qA (i:=4) Jr.nd rfl (Or.inl rfl) (kZ C.mkr GI r7 (by rfl) C.ns C.bi .nil Js (qb (jp jQ (by rfl) G.lst boot_list (qb (jv 3) qe)) qe)))
       (qg (qA (i:=5) Jr.nd rfl (Or.inl rfl) (qX hH GH r2 (by rfl) (qb (jv 2) (qb (jv 3) (qb qj qe)))))
       (qg (qL (jP (ju (qX hG GG hr (by rfl) (qb (jv 4) (qb (jv 5) qe))))) qE qC)
       (qg (xO (qX hB GB r2 (by rfl) (qb (jv 3) (qb (jv 5) (qb (jv 2) qe)))) (kU rfl (j9 (qF (i:=6) Jr.nd rfl (Or.inl rfl)) (j9 (qF (i:=7) Jr.nd rfl (Or.inl rfl)) ZP))))
       (qg (qA (i:=8) Jr.nd rfl (Or.inl rfl) (qp (QV hr.gd hr.units) (by rfl) rep boot_repr (qb (jv 6) qe)))
       (qk (jJ PassesOwn.never rfl (jB (by rfl) B.rng (qb qj qe)) (qF (i:=9) Jr.nd rfl (Or.inl rfl))
         (qk (qL (JW.pt (Q0 (qt WI (qp (QV hr.gd hr.units) (by rfl) rep boot_repr (qb (qX hTd GTd r9 (by rfl) (qb (jv 9) (qb (jv 4) (qb (jv 6) qe)))) qe)) (qp (QV hr.gd hr.units) (by rfl) rep boot_repr (qb (jG (qb (jv 7) (qb qj qe))) qe)) (qy _)) (Qm (qt WI (qp (QV hr.gd hr.units) (by rfl) rep boot_repr (qb (jv 6) qe)) (jv 8) (qy _))))) qE qC))))))))))))
     (qk (qM jW)),?_⟩
   refine⟨_,rfl,a,_,rfl,.inl hq,_,_,rfl,_,_,rfl,?_⟩
   generalize hj:(if (if (20:Int) < ((ns.map V.int).length:Int) then (20:Int) else ((ns.map V.int).length:Int)) > 4 then (if (20:Int) < ((ns.map V.int).length:Int) then (20:Int) else ((ns.map V.int).length:Int)) else 4)=jj
   have jb:=uG (by omega) hj
   refine⟨jj,rfl,jb.1,jb.2,?_⟩
   refine Qi (λi σ H'=>∃v1 v2 v3 v4 v5 v6 v7 v8 v9,σ=[some (.ref a),v1,v2,v3,v4,v5,v6,v7,v8,v9]/\SqL K H' a (ns.map V.int)/\H' PT=some (.tbl #[.str Zj 0])) ⟨_,_,_,_,_,_,_,_,_,rfl,hq,htb⟩ ?_ ?_
   . rintro i σ H' hi ⟨v1,v2,v3,v4,v5,v6,v7,v8,v9,rfl,hq2,htb2⟩
     refine⟨_,rfl,_,rfl,a,ns,_,rfl,hq2,by omega,λc0=>⟨c0,rfl,λd n sd hd=>?_⟩⟩
     have s3:=qh (o:=HO.dK (jf n sd 0)) hd
     have hd3:upd H' d (.dK (jf n sd 0)) d=some (.dK (jf n sd 0)):=qd
     generalize upd H' d (.dK (jf n sd 0))=H3 at s3 hd3
     have hq3:=hq2.keep s3.keep
     have tb3:=s3 _ _ htb2
     refine⟨_,rfl,by show 3<=sizeLine;decide,λlp hlp=>?_⟩
     have s4:=qh (o:=HO.lst [V.int 5,.int 9,.int 14]) hlp
     have h4:upd H3 lp (.lst [V.int 5,.int 9,.int 14]) lp=some (.lst [V.int 5,.int 9,.int 14]):=qd
     generalize upd H3 lp (.lst [V.int 5,.int 9,.int 14])=H4 at s4 h4
     have hd4:=s4 _ _ hd3
     refine⟨_,rfl,d,3,n,sd,0,rfl,hd4,by decide,by decide,λr' n3 t3 r0' r1'=>?_⟩
     obtain⟨mo,em,m0,m14⟩:=ux r0' r1'
     have hd5:upd H4 d (.dK (jf n3 sd t3)) d=some (.dK (jf n3 sd t3)):=qd
     have fr5:Fr H4 d (upd H4 d (.dK (jf n3 sd t3))):=Fr.refl.at_d
     generalize upd H4 d (.dK (jf n3 sd t3))=H5 at hd5 fr5
     have hq5:=YC (hq3.keep s4.keep) hd4 fr5
     have tb5:=qW fr5 hd4 (s4 _ _ tb3) (λ_ z=>nomatch z)
     refine⟨lp,_,r',_,rfl,rfl,.of (qW fr5 hd4 h4 (λ_ z=>nomatch z)),em,d,mo,n3,sd,t3,rfl,hd5,m0,m14,λl ps rs n' t' H7 hl hl7 rat good pos le hd7 fr7=>?_⟩
     have hq7:=YC hq5 hd5 fr7
     have tb7:=qW fr7 hd5 tb5 (λ_ z=>nomatch z)
     have le14:=Nat.le_trans le m14
     have g7:jK H7 l ps rs:=⟨hl7,rat,good,pos,le14⟩
     refine⟨_,rfl,l,_,rfl,.inl (.of hl7),λl2 hl2 x dx hx hdx ndx=>?_⟩
     have s8:Same H7 (upd H7 l2 (.lst (ps.map V.ref))):=qh hl2
     refine XV (X:=upd H7 l2 (.lst (ps.map V.ref))) qd (rat.mono s8) good pos le14 hx hdx ndx λH9 s9 gr9=>?_
     have s79:=s8.trans s9
     have hd9:=s79 _ _ hd7
     refine⟨_,rfl,_,rfl,d,l,8,n',sd,t',ps,rs,rfl,hd9,g7.mono s79,by decide,λh hs n10 t10 H10 hh0 hh10 hh8 hin hd10 fr10=>?_⟩
     have gr10:=gr9.frd pos hd9 fr10
     have g10:=(g7.mono s79).fr' hd9 fr10
     have hq10:=YC (hq7.keep s79.keep) hd9 fr10
     have tb10:=qW fr10 hd9 (s79 _ _ tb7) (λ_ z=>nomatch z)
     have hp10:jn H10 h rs hs:=⟨hh10,hh8,hin⟩
     refine⟨_,rfl,_,rfl,x,h,rs,hs,rfl,tb10,gr10,good,le14,hp10,λH11 k11=>⟨_,rfl,jT ?_⟩⟩
     have hd11:=k11 _ _ hd10 (λ_ z=>nomatch z)
     have g11:jK H11 l ps rs:=⟨k11 _ _ g10.at_ (λ_ z=>nomatch z),g10.rows.keep k11,good,pos,le14⟩
     refine⟨_,rfl,_,rfl,_,rfl,l,h,d,ps,rs,hs,n10,sd,t10,rfl,g11,hp10.keep k11,hd11,λR Ld v n12 t12 H12 fr12 hd12 hR bad=>?_⟩
     have gr12:=(gr10.keep k11).frd pos hd11 fr12
     have hq12:=YC (hq10.keep k11) hd11 fr12
     have tb12:=qW fr12 hd11 (k11 _ _ tb10 (λ_ z=>nomatch z)) (λ_ z=>nomatch z)
     refine⟨R,_,rfl,.of hR,rfl,_,_,rfl,_,_,rfl,rfl,?_⟩
     obtain⟨fv,Cc,wd,dv,df,hLd,nLd,bh,wc,dg,sz,dgf,szf⟩:=bad
     have lg:∀{d:PyData},d.showable=true->∀i,d=.int i->i.natAbs.log2 < 1920:=λh i e=>by subst e;exact of_decide_eq_true h
     refine⟨_,rfl,v,dv,rfl,dg,sz.sh,Nat.le_trans sz.dp (by decide),Nat.le_trans sz.ln (by decide),lg sz.sh,?_⟩
     refine⟨6,rfl,by decide,by decide,?_⟩
     refine Qi (λi' σ' X=>∃v9',σ'=[some (.ref a),some (.int (0+(i:Int))),some (.ref d),some (.ref l),some (.ref x),some (.ref h),some v,some (.ref Ld),some (.str dv.shown),v9']/\jw H12 X) ⟨_,rfl,jw.refl H12⟩ ?_ ?_
     . rintro i' σ' X hi' ⟨v9',rfl,kX⟩
       have hi':i' < 6:=by simpa using hi'
       refine⟨_,rfl,_,rfl,_,rfl,0+(i':Int),x,v,rs,rfl,by omega,by omega,kX _ _ tb12 (λ_ z=>nomatch z),gr12.keep kX,good,le14,.inl ⟨fv,Cc,wd,bh.keep kX,wc,λX2 R2 Lf k2 nR2 nLf hR2 hLf=>?_⟩⟩
       have k02:=kX.trans k2
       obtain⟨z1,z2,z3⟩:=yY (yU wc) szf
       refine⟨.ref R2,_,rfl,.lst hR2 nR2 (.cons (.lst hLf nLf (.cons (.str wd) (.cons (dgf.keepX k02) (.cons (.bl true) .nil)))) (.cons (.int 0) .nil)),z1,z2,z3,(λ_ e=>nomatch e),?_⟩
       refine⟨_,rfl,by show 2<=sizeLine;decide,λL3 hL3 nL3=>?_⟩
       have k3:=k02.trans (qh (o:=HO.lst [V.ref Ld,.int 0]) hL3).keep
       refine⟨.ref L3,_,rfl,.lst qd nL3 (.cons (.lst (k3 _ _ hLd (λ_ z=>nomatch z)) nLd (.cons (.str wd) (.cons (dgf.keepX k3) (.cons (.bl true) .nil)))) (.cons (.int 0) .nil)),z1,z2,z3,(λ_ e=>nomatch e),?_⟩
       refine⟨rfl,_,rfl,qv (by rw[decide_eq_true rfl];rfl) ⟨_,rfl,v,dv,rfl,dg.keepX k3,sz.sh,Nat.le_trans sz.dp (by decide),Nat.le_trans sz.ln (by decide),lg sz.sh,_,rfl,rfl,_,rfl,qv (by rw[decide_eq_true rfl];rfl) ⟨_,rfl,k3⟩⟩⟩
     . rintro σ' X ⟨v9',rfl,kX⟩
       exact⟨_,_,_,_,_,_,_,_,_,rfl,hq12.keep kX,kX _ _ tb12 (λ_ z=>nomatch z)⟩
   . rintro σ H' ⟨v1,v2,v3,v4,v5,v6,v7,v8,v9,rfl,hq2,htb2⟩
     exact k H'
end
end Rh
set_option Elab.async false
set_option linter.all false
set_option maxRecDepth 100000
set_option maxHeartbeats 4000000
namespace Rh
open PySem L2 PyProof.Rows 
theorem kss {K:PySem.W.Frag}:PySem.W.kitOne K (.type "str") (.type "str")=some true:=by kernel_rfl
theorem ktt {K:PySem.W.Frag}:PySem.W.kitOne K (.type "tuple") (.type "tuple")=some true:=by kernel_rfl
theorem kll {K:PySem.W.Frag}:PySem.W.kitOne K (.type "list") (.type "list")=some true:=by kernel_rfl
section
variable {K:PySem.W.Frag}
def MF (K:PySem.W.Frag) (n q:Str) (s:Stmt) (f:Addr):Prop:=∃fd,jU K n q s f fd
theorem MF.mk' {x qual:Str} {st:Stmt} {f:Addr} {oc:Value} {od an:Option Addr} {osl:Array (Option Value)} {kV doc pm cdv ct:Value} (l:K.lookup f=some ⟨oc,od,.func (PySem.W.fnOf x qual (jH st) (je st) (qi st) .none kV doc pm an cdv ct),osl⟩) (c:PySem.W.codeIn K cdv qual=true) (k:PySem.W.keepIn K (.ref f)=true):MF K x qual st f:=⟨_,Yt l c k⟩
def HF (K:PySem.W.Frag) (n:Str) (s:Stmt) (f:Addr):Prop:=PySem.W.nsIn K mainGlobals n=some (some (.ref f))/\MF K n n s f
theorem HF.mk' {x:Str} {st:Stmt} {f:Addr} {oc:Value} {od an:Option Addr} {osl:Array (Option Value)} {kV doc pm cdv ct:Value} (a:PySem.W.nsIn K mainGlobals x=some (some (.ref f))) (l:K.lookup f=some ⟨oc,od,.func (PySem.W.fnOf x x (jH st) (je st) (qi st) .none kV doc pm an cdv ct),osl⟩) (c:PySem.W.codeIn K cdv x=true) (k:PySem.W.keepIn K (.ref f)=true):HF K x st f:=⟨a,_,Yt l c k⟩
theorem HF.has {h:Heap} {mg:Str->Option Value} {n:Str} {s:Stmt} {f:Addr} {ps:List Str} (l:HF K n s f) (X:K.In h) (G:h.Ns mainGlobals mg) (b:∀{fd},jU K n n s f fd->jx K fd ps []):∃fd,jo K mg n s ps f fd:=let ⟨a,fd,F⟩:=l;⟨fd,F,PySem.W.mg_of X G a,b F⟩
end
def wJ (es:Array DictEntry):Bool:=es.all λe=>match e.key with | .str _ _=>true | _=>false
theorem kb {es:Array DictEntry} (h:wJ es=true):StrKeys es:=by
 intro e he
 have q:=Array.all_eq_true'.mp h e he
 revert q
 cases hk:e.key<;>intro q<;>first | exact⟨_,_,rfl⟩ | (dsimp only at q;cases q)
section
variable {K:PySem.W.Frag} {mg:Str->Option Value} {D C f:Addr} {x qual fld:Str} {st:Stmt}
theorem Yv {h:Heap} {fd:FuncData} {nm q:Str} {N:Addr} {bs:List Value} {hdct:Bool} {sn:List Str} {sub:List Value} {ab:Bool} {col:Option Bool} {dd:Option Addr} {k0 k1 k2 k3 k5:Option Value}
   (X:K.In h) (G:h.Ns mainGlobals mg) (tl:∀h:Heap,K.In h->OwnTail h qV (.ref D::qV)) (F:jU K "__init__" qual st f fd) (b:jx K fd ["self",fld] [])
   (a1:PySem.W.nsIn K mainGlobals x=some (some (.ref C)))
   (a2:K.lookup C=some (excClassObj nm q C N bs (.ref D::qV) hdct sn sub ab col dd k0 k1 k2 k3 k5 "ValueError.__new__"))
   (a3:PySem.W.findIn K (.ref C) "__init__"=some (some (.ref f))) (a4:PySem.W.isFn K (.ref f)=true) (a5:PySem.W.keepIn K (.ref C)=true)
   (a6:PySem.W.findIn K (.ref C) "__getattribute__"=some (some (.builtin "BaseException.__getattribute__"))) (a7:PySem.W.findIn K (.ref C) "__getattr__"=some none)
   (a8:PySem.W.findIn K (.ref C) "__setattr__"=some (some (.builtin "object.__setattr__"))) (a9:PySem.W.hasDictIn K C=true)
   (a10:PySem.W.mroIn K C (.type "BaseException")=some true) (a11:PySem.W.mroIn K C (.type "object")=some true)
   (a12:PySem.W.findIn K (.ref C) "__class__"=some (some (.builtin "object.__class__"))) (a13:PySem.W.findIn K (.ref C) fld=some none):zw K mg D x qual st fld C f fd:=
 ⟨⟨a6,a7,a8,a9,⟨_,by unfold PySem.W.clsIn;rw[a2],rfl⟩,a10,a11,a12⟩,⟨⟨nm,q,N,bs,hdct,sn,sub,ab,col,dd,k0,k1,k2,k3,k5,a2⟩,tl,a3,a4,a5⟩,PySem.W.mg_of X G a1,a13,F,b⟩
end
def XD (K:PySem.W.Frag) (tabs:List Xn):Sp:=λvs H Q _=>∃(a:Addr) (ns:List Int),vs=[.ref a]/\SqL K H a (ns.map V.int)/\ns.length<=63/\(∀t∈tabs,H t.P=some (.tbl #[.str t.q 0]))/\∀H',Q (.bl true) H'
theorem all_mk {l:PySem.W.OpenLaw} {w:World} {K:PySem.W.Frag} {h:Heap} {mg:Str->Option Value} {fa:Addr} (X:K.In h) (G:h.Ns mainGlobals mg) (hfa:mg "law"=some (.ref fa))
   {fO fL fT fN fD fR fA1 fA2 fA3 fA4 fA5 fA6 fA7 fA8 fP1 fP2 fP3 fP4 fP5 fP6 fP7 fP8 fP9 fP10 fP11 fE1 fE2 fE3 fE4 fCGi fCGM fCGF CNoHeap fNoHeap CNoPlace fNoPlace CTooMany fTooMany CNoMove fNoMove:Addr}
   {fLAW:Addr} {odLAW anLAW:Option Addr} {slLAW:Array (Option Value)} {ocLAW kVLAW dcLAW pmLAW cdLAW ctLAW:Value}
   {CG:Addr}
   {tm1:Tok}
   {tm2:Tok}
   {tm3:Tok}
   {tm4:Tok}
   {tm5:Tok}
   {D:Addr} {nmHE qHE:Str} {NHE:Addr} {bsHE subHE:List Value} {hdctHE abHE:Bool} {snHE:List Str} {colHE:Option Bool} {ddHE:Option Addr} {kaHE kbHE kcHE kdHE keHE:Option Value} {oHN:Value} {dHN:Option Addr} {es:Array DictEntry} {ep:Nat} {slHN:Array (Option Value)}
   {nmNoHeap qNoHeap:Str} {NNoHeap:Addr} {bsNoHeap subNoHeap:List Value} {hdctNoHeap abNoHeap:Bool} {snNoHeap:List Str} {colNoHeap:Option Bool} {ddNoHeap:Option Addr} {kaNoHeap kbNoHeap kcNoHeap kdNoHeap keNoHeap:Option Value}
   {nmNoPlace qNoPlace:Str} {NNoPlace:Addr} {bsNoPlace subNoPlace:List Value} {hdctNoPlace abNoPlace:Bool} {snNoPlace:List Str} {colNoPlace:Option Bool} {ddNoPlace:Option Addr} {kaNoPlace kbNoPlace kcNoPlace kdNoPlace keNoPlace:Option Value}
   {nmTooMany qTooMany:Str} {NTooMany:Addr} {bsTooMany subTooMany:List Value} {hdctTooMany abTooMany:Bool} {snTooMany:List Str} {colTooMany:Option Bool} {ddTooMany:Option Addr} {kaTooMany kbTooMany kcTooMany kdTooMany keTooMany:Option Value}
   {nmNoMove qNoMove:Str} {NNoMove:Addr} {bsNoMove subNoMove:List Value} {hdctNoMove abNoMove:Bool} {snNoMove:List Str} {colNoMove:Option Bool} {ddNoMove:Option Addr} {kaNoMove kbNoMove kcNoMove kdNoMove keNoMove:Option Value}
   {ts:List Addr} {fMK cMK PMK:Addr} {ocMK kVMK dcMK pmMK ctMK oc2MK:Value} {odMK anMK od2MK:Option Addr} {slMK sl2MK:Array (Option Value)} {vsMK:Array Value}
   (lO:HF K "_law_cell_at" WA fO)
   (lL:HF K "_law_source" ZL fL)
   (lT:HF K "_law_take" JP fT)
   (lN:HF K "_law_names" Z4 fN)
   (lD:HF K "_law_leads" Z5 fD)
   (lR:HF K "_law_rows" Ww fR)
   (lA1:HF K "is_name" JV fA1)
   (lA2:HF K "is_tuple_of_names" zD fA2)
   (lA3:HF K "is_row" Z6 fA3)
   (lA4:HF K "need_form" Wy fA4)
   (lA5:HF K "need_own_names" kq fA5)
   (lA6:HF K "need_ends" Wz fA6)
   (lA7:HF K "need_few_roads" kr fA7)
   (lA8:HF K "need_rows" YT fA8)
   (lP1:HF K "need_place" jI fP1)
   (lP2:HF K "need_heap" jY fP2)
   (lP3:HF K "moves_of" j7 fP3)
   (lP4:HF K "is_whole" Yf fP4)
   (lP5:HF K "is_move" ZM fP5)
   (lP6:HF K "left_by" yG fP6)
   (lP7:HF K "is_over" Z3 fP7)
   (lP8:HF K "after" Zi fP8)
   (lP9:HF K "who_won" Uw fP9)
   (lP10:HF K "played" JR fP10)
   (lP11:HF K "walk" YR fP11)
   (lE1:HF K "_law_heap" Yh fE1)
   (lE2:HF K "_law_told" YS fE2)
   (lE3:HF K "_law_bad" WB fE3)
   (lE4:HF K "_law_good" Wx fE4)
   (aLAW:PySem.W.nsIn K mainGlobals "law"=some (some (.ref fLAW)))
   (lLAW:K.lookup fLAW=some ⟨ocLAW,odLAW,.func (PySem.W.fnOf "law" "law" (jH Yg) (je Yg) (qi Yg) .none kVLAW dcLAW pmLAW anLAW cdLAW ctLAW),slLAW⟩)
   (cLAW:PySem.W.codeIn K cdLAW "law"=true)
   (kLAW:PySem.W.keepIn K (.ref fLAW)=true)
   (nCG:PySem.W.nsIn K mainGlobals "Ground"=some (some (.ref CG)))
   (pgCG:PySem.W.plainGet K CG Str.empty=true)
   (hdCG:PySem.W.hasDictIn K CG=true)
   (poCG:PySem.W.plainOver K CG=true)
   (saCG:PySem.W.findIn K (.ref CG) "__setattr__"=some (some (.builtin "object.__setattr__")))
   (mkCG:PySem.W.makesIn K CG=true)
   (inCG:PySem.W.findIn K (.ref CG) "__init__"=some (some (.ref fCGi)))
   (fiCG:PySem.W.isFn K (.ref fCGi)=true)
   (kcCG:PySem.W.keepIn K (.ref CG)=true)
   (noCG:PySem.W.findIn K (.ref CG) "order"=some none)
   (nrCG:PySem.W.findIn K (.ref CG) "roads"=some none)
   (lCGi:MF K "__init__" "Ground.__init__" XJ fCGi)
   (atCGM:PySem.W.findIn K (.ref CG) "names"=some (some (.ref fCGM)))
   (fnCGM:PySem.W.isFn K (.ref fCGM)=true)
   (lCGM:MF K "names" "Ground.names" JX fCGM)
   (atCGF:PySem.W.findIn K (.ref CG) "roads_from"=some (some (.ref fCGF)))
   (fnCGF:PySem.W.isFn K (.ref fCGF)=true)
   (lCGF:MF K "roads_from" "Ground.roads_from" Z7 fCGF)
   (zlen:PySem.W.nsIn K mainGlobals "len"=some none)
   (zmax:PySem.W.nsIn K mainGlobals "max"=some none)
   (zmin:PySem.W.nsIn K mainGlobals "min"=some none)
   (zint:PySem.W.nsIn K mainGlobals "int"=some none)
   (zrange:PySem.W.nsIn K mainGlobals "range"=some none)
   (zisinstance:PySem.W.nsIn K mainGlobals "isinstance"=some none)
   (zstr:PySem.W.nsIn K mainGlobals "str"=some none)
   (zall:PySem.W.nsIn K mainGlobals "all"=some none)
   (zenumerate:PySem.W.nsIn K mainGlobals "enumerate"=some none)
   (zsum:PySem.W.nsIn K mainGlobals "sum"=some none)
   (zsorted:PySem.W.nsIn K mainGlobals "sorted"=some none)
   (zlist:PySem.W.nsIn K mainGlobals "list"=some none)
   (zreversed:PySem.W.nsIn K mainGlobals "reversed"=some none)
   (zset:PySem.W.nsIn K mainGlobals "set"=some none)
   (ztuple:PySem.W.nsIn K mainGlobals "tuple"=some none)
   (zbool:PySem.W.nsIn K mainGlobals "bool"=some none)
   (zrepr:PySem.W.nsIn K mainGlobals "repr"=some none)
   (m1:PySem.W.nsIn K mainGlobals "LETTERS"=some (some (.str "abcdefghijklmnopqrstuvwxyz" tm1)))
   (m2:PySem.W.nsIn K mainGlobals "LONGEST_NAME"=some (some (.int 8 tm2)))
   (m3:PySem.W.nsIn K mainGlobals "MOST_PLACES"=some (some (.int 14 tm3)))
   (m4:PySem.W.nsIn K mainGlobals "MOST_ROADS"=some (some (.int 40 tm4)))
   (m5:PySem.W.nsIn K mainGlobals "MOST_TOKENS"=some (some (.int 8 tm5)))
   (aHE:PySem.W.nsIn K mainGlobals "HeapError"=some (some (.ref D)))
   (oHE:K.lookup D=some (excClassObj nmHE qHE D NHE bsHE qV hdctHE snHE subHE abHE colHE ddHE kaHE kbHE kcHE kdHE keHE "ValueError.__new__"))
   (nHE:K.lookup NHE=some ⟨oHN,dHN,.dict es ep,slHN⟩)
   (skHE:wJ es=true)
   (niHE:nsFind es (Str.ofString "__init__")=none)
   (a1NoHeap:PySem.W.nsIn K mainGlobals "NoHeap"=some (some (.ref CNoHeap)))
   (a2NoHeap:K.lookup CNoHeap=some (excClassObj nmNoHeap qNoHeap CNoHeap NNoHeap bsNoHeap (.ref D::qV) hdctNoHeap snNoHeap subNoHeap abNoHeap colNoHeap ddNoHeap kaNoHeap kbNoHeap kcNoHeap kdNoHeap keNoHeap "ValueError.__new__"))
   (a3NoHeap:PySem.W.findIn K (.ref CNoHeap) "__init__"=some (some (.ref fNoHeap)))
   (a4NoHeap:PySem.W.isFn K (.ref fNoHeap)=true)
   (lNoHeap:MF K "__init__" "NoHeap.__init__" JU fNoHeap)
   (a5NoHeap:PySem.W.keepIn K (.ref CNoHeap)=true)
   (a6NoHeap:PySem.W.findIn K (.ref CNoHeap) "__getattribute__"=some (some (.builtin "BaseException.__getattribute__")))
   (a7NoHeap:PySem.W.findIn K (.ref CNoHeap) "__getattr__"=some none)
   (a8NoHeap:PySem.W.findIn K (.ref CNoHeap) "__setattr__"=some (some (.builtin "object.__setattr__")))
   (a9NoHeap:PySem.W.hasDictIn K CNoHeap=true)
   (a10NoHeap:PySem.W.mroIn K CNoHeap (.type "BaseException")=some true)
   (a11NoHeap:PySem.W.mroIn K CNoHeap (.type "object")=some true)
   (a12NoHeap:PySem.W.findIn K (.ref CNoHeap) "__class__"=some (some (.builtin "object.__class__")))
   (a13NoHeap:PySem.W.findIn K (.ref CNoHeap) "found"=some none)
   (a1NoPlace:PySem.W.nsIn K mainGlobals "NoPlace"=some (some (.ref CNoPlace)))
   (a2NoPlace:K.lookup CNoPlace=some (excClassObj nmNoPlace qNoPlace CNoPlace NNoPlace bsNoPlace (.ref D::qV) hdctNoPlace snNoPlace subNoPlace abNoPlace colNoPlace ddNoPlace kaNoPlace kbNoPlace kcNoPlace kdNoPlace keNoPlace "ValueError.__new__"))
   (a3NoPlace:PySem.W.findIn K (.ref CNoPlace) "__init__"=some (some (.ref fNoPlace)))
   (a4NoPlace:PySem.W.isFn K (.ref fNoPlace)=true)
   (lNoPlace:MF K "__init__" "NoPlace.__init__" QC fNoPlace)
   (a5NoPlace:PySem.W.keepIn K (.ref CNoPlace)=true)
   (a6NoPlace:PySem.W.findIn K (.ref CNoPlace) "__getattribute__"=some (some (.builtin "BaseException.__getattribute__")))
   (a7NoPlace:PySem.W.findIn K (.ref CNoPlace) "__getattr__"=some none)
   (a8NoPlace:PySem.W.findIn K (.ref CNoPlace) "__setattr__"=some (some (.builtin "object.__setattr__")))
   (a9NoPlace:PySem.W.hasDictIn K CNoPlace=true)
   (a10NoPlace:PySem.W.mroIn K CNoPlace (.type "BaseException")=some true)
   (a11NoPlace:PySem.W.mroIn K CNoPlace (.type "object")=some true)
   (a12NoPlace:PySem.W.findIn K (.ref CNoPlace) "__class__"=some (some (.builtin "object.__class__")))
   (a13NoPlace:PySem.W.findIn K (.ref CNoPlace) "found"=some none)
   (a1TooMany:PySem.W.nsIn K mainGlobals "TooMany"=some (some (.ref CTooMany)))
   (a2TooMany:K.lookup CTooMany=some (excClassObj nmTooMany qTooMany CTooMany NTooMany bsTooMany (.ref D::qV) hdctTooMany snTooMany subTooMany abTooMany colTooMany ddTooMany kaTooMany kbTooMany kcTooMany kdTooMany keTooMany "ValueError.__new__"))
   (a3TooMany:PySem.W.findIn K (.ref CTooMany) "__init__"=some (some (.ref fTooMany)))
   (a4TooMany:PySem.W.isFn K (.ref fTooMany)=true)
   (lTooMany:MF K "__init__" "TooMany.__init__" Q9 fTooMany)
   (a5TooMany:PySem.W.keepIn K (.ref CTooMany)=true)
   (a6TooMany:PySem.W.findIn K (.ref CTooMany) "__getattribute__"=some (some (.builtin "BaseException.__getattribute__")))
   (a7TooMany:PySem.W.findIn K (.ref CTooMany) "__getattr__"=some none)
   (a8TooMany:PySem.W.findIn K (.ref CTooMany) "__setattr__"=some (some (.builtin "object.__setattr__")))
   (a9TooMany:PySem.W.hasDictIn K CTooMany=true)
   (a10TooMany:PySem.W.mroIn K CTooMany (.type "BaseException")=some true)
   (a11TooMany:PySem.W.mroIn K CTooMany (.type "object")=some true)
   (a12TooMany:PySem.W.findIn K (.ref CTooMany) "__class__"=some (some (.builtin "object.__class__")))
   (a13TooMany:PySem.W.findIn K (.ref CTooMany) "found"=some none)
   (a1NoMove:PySem.W.nsIn K mainGlobals "NoMove"=some (some (.ref CNoMove)))
   (a2NoMove:K.lookup CNoMove=some (excClassObj nmNoMove qNoMove CNoMove NNoMove bsNoMove (.ref D::qV) hdctNoMove snNoMove subNoMove abNoMove colNoMove ddNoMove kaNoMove kbNoMove kcNoMove kdNoMove keNoMove "ValueError.__new__"))
   (a3NoMove:PySem.W.findIn K (.ref CNoMove) "__init__"=some (some (.ref fNoMove)))
   (a4NoMove:PySem.W.isFn K (.ref fNoMove)=true)
   (lNoMove:MF K "__init__" "NoMove.__init__" j3 fNoMove)
   (a5NoMove:PySem.W.keepIn K (.ref CNoMove)=true)
   (a6NoMove:PySem.W.findIn K (.ref CNoMove) "__getattribute__"=some (some (.builtin "BaseException.__getattribute__")))
   (a7NoMove:PySem.W.findIn K (.ref CNoMove) "__getattr__"=some none)
   (a8NoMove:PySem.W.findIn K (.ref CNoMove) "__setattr__"=some (some (.builtin "object.__setattr__")))
   (a9NoMove:PySem.W.hasDictIn K CNoMove=true)
   (a10NoMove:PySem.W.mroIn K CNoMove (.type "BaseException")=some true)
   (a11NoMove:PySem.W.mroIn K CNoMove (.type "object")=some true)
   (a12NoMove:PySem.W.findIn K (.ref CNoMove) "__class__"=some (some (.builtin "object.__class__")))
   (a13NoMove:PySem.W.findIn K (.ref CNoMove) "found"=some none)
   (spc:PySem.W.specialIn K (.builtin "object.__class__") "__get__"=some (some (.builtin "getset_descriptor.__get__")))
   (tks:PySem.W.takesIn K (.builtin "object.__class__")=some true)
   (iMK:PMK∈ts)
   (aMK:PySem.W.nsIn K mainGlobals "_law_asked"=some (some (.ref fMK)))
   (lMK:K.lookup fMK=some ⟨ocMK,odMK,.func (PySem.W.fnOf "_law_asked" "_law_asked" (jH Qk) (je Qk) (qi Qk) .none kVMK dcMK pmMK anMK (.ref cMK) ctMK),slMK⟩)
   (cdMK:PySem.W.codeIn K (.ref cMK) "_law_asked"=true)
   (kMK:PySem.W.keepIn K (.ref fMK)=true)
   (tMK:K.lookup cMK=some ⟨oc2MK,od2MK,.fields vsMK,sl2MK⟩)
   (pMK:vsMK[11]?=some (.ref PMK))
   (hMKc:PySem.W.codeHdIn K cMK PMK=true)
   (w1:PySem.W.kitOne K (.ref CNoHeap) (.ref D)=some true)
   (w2:PySem.W.kitOne K (.ref CTooMany) (.ref D)=some true)
   (w3:PySem.W.kitOne K (.ref CNoPlace) (.ref D)=some true)
   (w4:PySem.W.kitOne K (.ref CNoMove) (.ref D)=some true)
   (w5:PySem.W.kitAny K (.ref CNoHeap) [.ref CNoPlace,.ref CTooMany,.ref CNoMove]=some false)
   (w6:PySem.W.kitAny K (.ref CTooMany) [.ref CNoPlace,.ref CNoMove]=some false)
   (w7:PySem.W.kitOne K (.ref CNoPlace) (.ref CNoMove)=some false)
   (n0:CTooMany≠CNoHeap)
   (n1:CNoPlace≠CNoHeap)
   (n2:CNoPlace≠CTooMany)
   (n3:CNoMove≠CNoHeap)
   (n4:CNoMove≠CTooMany)
   (n5:CNoMove≠CNoPlace)
   (n6:D≠CNoHeap)
   (n7:D≠CTooMany)
   (n8:D≠CNoPlace)
   :
   ∃(tabs:List Xn) (fd:FuncData),(tabs.map (·.P)).Nodup/\(∀t∈tabs,t.P∈ts/\PySem.W.codeHdIn K t.c t.P=true)/\(∀(s:Shared) (v:Value),BindsTo s fd ⟨[v],[]⟩ [("_law_script",v)])/\∀base:Heap,K.In base->base.Ns mainGlobals mg->(∀t∈tabs,YB mg base t.c t.P)->qo l.prog w K mg base qZ 11 fa fd ["_law_script"] (XD K tabs):=by
 have e:=hfa.symm.trans (PySem.W.mg_of X G aLAW)
 cases e
 obtain⟨_,hO⟩:=lO.has (ps:=["_law_script","_law_k"]) X G λF=>F.binds λ_ _ _ _ _ _ us hl=>by obtain⟨_,_,rfl⟩:=Q3 hl;rfl
 obtain⟨_,hL⟩:=lL.has (ps:=["_law_cell"]) X G λF=>F.binds λ_ _ _ _ _ _ us hl=>by obtain⟨_,rfl⟩:=Zn hl;rfl
 obtain⟨_,hT⟩:=lT.has (ps:=["_law_source_here","_law_many"]) X G λF=>F.binds λ_ _ _ _ _ _ us hl=>by obtain⟨_,_,rfl⟩:=Q3 hl;rfl
 obtain⟨_,hN⟩:=lN.has (ps:=["_law_source_here","_law_many"]) X G λF=>F.binds λ_ _ _ _ _ _ us hl=>by obtain⟨_,_,rfl⟩:=Q3 hl;rfl
 obtain⟨_,hD⟩:=lD.has (ps:=["_law_source_here","_law_many","_law_shape","_law_low"]) X G λF=>F.binds λ_ _ _ _ _ _ us hl=>by obtain⟨_,_,_,_,rfl⟩:=xG hl;rfl
 obtain⟨_,hR⟩:=lR.has (ps:=["_law_source_here","_law_most"]) X G λF=>F.binds λ_ _ _ _ _ _ us hl=>by obtain⟨_,_,rfl⟩:=Q3 hl;rfl
 obtain⟨_,hA1⟩:=lA1.has (ps:=["thing"]) X G λF=>F.binds λ_ _ _ _ _ _ us hl=>by obtain⟨_,rfl⟩:=Zn hl;rfl
 obtain⟨_,hA2⟩:=lA2.has (ps:=["thing"]) X G λF=>F.binds λ_ _ _ _ _ _ us hl=>by obtain⟨_,rfl⟩:=Zn hl;rfl
 obtain⟨_,hA3⟩:=lA3.has (ps:=["thing"]) X G λF=>F.binds λ_ _ _ _ _ _ us hl=>by obtain⟨_,rfl⟩:=Zn hl;rfl
 obtain⟨_,hA4⟩:=lA4.has (ps:=["rows"]) X G λF=>F.binds λ_ _ _ _ _ _ us hl=>by obtain⟨_,rfl⟩:=Zn hl;rfl
 obtain⟨_,hA5⟩:=lA5.has (ps:=["order"]) X G λF=>F.binds λ_ _ _ _ _ _ us hl=>by obtain⟨_,rfl⟩:=Zn hl;rfl
 obtain⟨_,hA6⟩:=lA6.has (ps:=["ends","order"]) X G λF=>F.binds λ_ _ _ _ _ _ us hl=>by obtain⟨_,_,rfl⟩:=Q3 hl;rfl
 obtain⟨_,hA7⟩:=lA7.has (ps:=["rows"]) X G λF=>F.binds λ_ _ _ _ _ _ us hl=>by obtain⟨_,rfl⟩:=Zn hl;rfl
 obtain⟨_,hA8⟩:=lA8.has (ps:=["rows"]) X G λF=>F.binds λ_ _ _ _ _ _ us hl=>by obtain⟨_,rfl⟩:=Zn hl;rfl
 obtain⟨_,hP1⟩:=lP1.has (ps:=["ground","thing"]) X G λF=>F.binds λ_ _ _ _ _ _ us hl=>by obtain⟨_,_,rfl⟩:=Q3 hl;rfl
 obtain⟨_,hP2⟩:=lP2.has (ps:=["ground","heap"]) X G λF=>F.binds λ_ _ _ _ _ _ us hl=>by obtain⟨_,_,rfl⟩:=Q3 hl;rfl
 obtain⟨_,hP3⟩:=lP3.has (ps:=["ground","heap"]) X G λF=>F.binds λ_ _ _ _ _ _ us hl=>by obtain⟨_,_,rfl⟩:=Q3 hl;rfl
 obtain⟨_,hP4⟩:=lP4.has (ps:=["thing"]) X G λF=>F.binds λ_ _ _ _ _ _ us hl=>by obtain⟨_,rfl⟩:=Zn hl;rfl
 obtain⟨_,hP5⟩:=lP5.has (ps:=["ground","heap","thing"]) X G λF=>F.binds λ_ _ _ _ _ _ us hl=>by obtain⟨_,_,_,rfl⟩:=X0 hl;rfl
 obtain⟨_,hP6⟩:=lP6.has (ps:=["heap","move"]) X G λF=>F.binds λ_ _ _ _ _ _ us hl=>by obtain⟨_,_,rfl⟩:=Q3 hl;rfl
 obtain⟨_,hP7⟩:=lP7.has (ps:=["ground","heap"]) X G λF=>F.binds λ_ _ _ _ _ _ us hl=>by obtain⟨_,_,rfl⟩:=Q3 hl;rfl
 obtain⟨_,hP8⟩:=lP8.has (ps:=["ground","heap","move"]) X G λF=>F.binds λ_ _ _ _ _ _ us hl=>by obtain⟨_,_,_,rfl⟩:=X0 hl;rfl
 obtain⟨_,hP9⟩:=lP9.has (ps:=["made"]) X G λF=>F.binds λ_ _ _ _ _ _ us hl=>by obtain⟨_,rfl⟩:=Zn hl;rfl
 obtain⟨_,hP10⟩:=lP10.has (ps:=["ground","heap","first","second","most"]) X G λF=>F.binds λ_ _ _ _ _ _ us hl=>by obtain⟨_,_,_,_,_,rfl⟩:=KW hl;rfl
 obtain⟨_,hP11⟩:=lP11.has (ps:=["ground","heap","moves"]) X G λF=>F.binds λ_ _ _ _ _ _ us hl=>by obtain⟨_,_,_,rfl⟩:=X0 hl;rfl
 obtain⟨_,hE1⟩:=lE1.has (ps:=["_law_source_here","_law_rows_here","_law_most"]) X G λF=>F.binds λ_ _ _ _ _ _ us hl=>by obtain⟨_,_,_,rfl⟩:=X0 hl;rfl
 obtain⟨_,hE2⟩:=lE2.has (ps:=["_law_way","_law_ground","_law_heap_here"]) X G λF=>F.binds λ_ _ _ _ _ _ us hl=>by obtain⟨_,_,_,rfl⟩:=X0 hl;rfl
 obtain⟨_,hE3⟩:=lE3.has (ps:=["_law_rows_here","_law_heap_here","_law_source_here"]) X G λF=>F.binds λ_ _ _ _ _ _ us hl=>by obtain⟨_,_,_,rfl⟩:=X0 hl;rfl
 obtain⟨_,hE4⟩:=lE4.has (ps:=["_law_ground","_law_heap_here"]) X G λF=>F.binds λ_ _ _ _ _ _ us hl=>by obtain⟨_,_,rfl⟩:=Q3 hl;rfl
 have FLAW:=Yt (st:=Yg) lLAW cLAW kLAW
 obtain⟨_,FiCG⟩:=lCGi
 have clCG:u9 K mg CG fCGi _:=⟨⟨pgCG,hdCG,poCG,saCG⟩,⟨mkCG,inCG,fiCG,kcCG⟩,PySem.W.mg_of X G nCG,noCG,nrCG,FiCG,FiCG.binds (ps:=["self","rows"]) λ_ _ _ _ _ _ us hl=>by obtain⟨_,_,rfl⟩:=Q3 hl;rfl⟩
 obtain⟨_,FCGM⟩:=lCGM
 have mCGM:wq K CG "names" "Ground.names" JX ["self"] fCGM _:=⟨FCGM,⟨atCGM,fnCGM,FCGM.kp⟩,FCGM.binds (ps:=["self"]) λ_ _ _ _ _ _ us hl=>by obtain⟨_,rfl⟩:=Zn hl;rfl⟩
 obtain⟨_,FCGF⟩:=lCGF
 have mCGF:wq K CG "roads_from" "Ground.roads_from" Z7 ["self","name"] fCGF _:=⟨FCGF,⟨atCGF,fnCGF,FCGF.kp⟩,FCGF.binds (ps:=["self","name"]) λ_ _ _ _ _ _ us hl=>by obtain⟨_,_,rfl⟩:=Q3 hl;rfl⟩
 have tl:∀h:Heap,K.In h->OwnTail h qV (.ref D::qV):=λh X=>.own (X _ _ oHE) ⟨_,es,ep,X _ _ nHE,rfl,kb skHE,λ_=>rfl⟩ niHE .base
 have ccD:wj K D:=⟨qV,⟨_,_,_,_,_,_,_,_,_,_,_,_,_,_,_,oHE⟩,rfl⟩
 obtain⟨_,FNoHeap⟩:=lNoHeap
 have xNoHeap:zw K mg D "NoHeap" "NoHeap.__init__" JU "found" CNoHeap fNoHeap _:=Yv X G tl FNoHeap (FNoHeap.binds (ps:=["self","found"]) λ_ _ _ _ _ _ us hl=>by obtain⟨_,_,rfl⟩:=Q3 hl;rfl) a1NoHeap a2NoHeap a3NoHeap a4NoHeap a5NoHeap a6NoHeap a7NoHeap a8NoHeap a9NoHeap a10NoHeap a11NoHeap a12NoHeap a13NoHeap
 obtain⟨_,FNoPlace⟩:=lNoPlace
 have xNoPlace:zw K mg D "NoPlace" "NoPlace.__init__" QC "found" CNoPlace fNoPlace _:=Yv X G tl FNoPlace (FNoPlace.binds (ps:=["self","found"]) λ_ _ _ _ _ _ us hl=>by obtain⟨_,_,rfl⟩:=Q3 hl;rfl) a1NoPlace a2NoPlace a3NoPlace a4NoPlace a5NoPlace a6NoPlace a7NoPlace a8NoPlace a9NoPlace a10NoPlace a11NoPlace a12NoPlace a13NoPlace
 obtain⟨_,FTooMany⟩:=lTooMany
 have xTooMany:zw K mg D "TooMany" "TooMany.__init__" Q9 "found" CTooMany fTooMany _:=Yv X G tl FTooMany (FTooMany.binds (ps:=["self","found"]) λ_ _ _ _ _ _ us hl=>by obtain⟨_,_,rfl⟩:=Q3 hl;rfl) a1TooMany a2TooMany a3TooMany a4TooMany a5TooMany a6TooMany a7TooMany a8TooMany a9TooMany a10TooMany a11TooMany a12TooMany a13TooMany
 obtain⟨_,FNoMove⟩:=lNoMove
 have xNoMove:zw K mg D "NoMove" "NoMove.__init__" j3 "found" CNoMove fNoMove _:=Yv X G tl FNoMove (FNoMove.binds (ps:=["self","found"]) λ_ _ _ _ _ _ us hl=>by obtain⟨_,_,rfl⟩:=Q3 hl;rfl) a1NoMove a2NoMove a3NoMove a4NoMove a5NoMove a6NoMove a7NoMove a8NoMove a9NoMove a10NoMove a11NoMove a12NoMove a13NoMove
 have B:Jj mg:=⟨PySem.W.mg_none_of X G zlen,PySem.W.mg_none_of X G zmax,PySem.W.mg_none_of X G zmin,PySem.W.mg_none_of X G zint,PySem.W.mg_none_of X G zrange⟩
 have Gk:jR mg:=⟨PySem.W.mg_none_of X G zsorted,PySem.W.mg_none_of X G zlist,PySem.W.mg_none_of X G zreversed,PySem.W.mg_none_of X G zset,PySem.W.mg_none_of X G ztuple⟩
 have T:j2 K mg:=⟨PySem.W.mg_none_of X G zisinstance,PySem.W.mg_none_of X G zstr,PySem.W.mg_none_of X G zall,PySem.W.mg_none_of X G zenumerate,PySem.W.mg_none_of X G zsum,⟨_,PySem.W.mg_of X G m1⟩,⟨_,PySem.W.mg_of X G m2⟩,⟨_,PySem.W.mg_of X G m3⟩,⟨_,PySem.W.mg_of X G m4⟩,kss,ktt,kll⟩
 have Nn:yn K mg:=⟨⟨_,_,hA1⟩,⟨_,_,hA2⟩,⟨_,_,hA3⟩,⟨_,_,hA4⟩,⟨_,_,hA5⟩,⟨_,_,hA6⟩,⟨_,_,hA7⟩⟩
 have M:GM K mg CG:=⟨⟨_,_,clCG⟩,⟨_,_,mCGM⟩,⟨_,_,mCGF⟩,⟨_,_,hA1⟩⟩
 have FMK:=Yt (st:=Qk) lMK cdMK kMK
 have hMK:jo K mg "_law_asked" Qk XO fMK _:=⟨FMK,PySem.W.mg_of X G aMK,FMK.binds (ps:=XO) λ_ _ _ _ _ _ us hl=>by obtain⟨_,_,_,_,rfl⟩:=xG hl;rfl⟩
 have Z:HM K mg:=⟨⟨_,PySem.W.mg_of X G m5⟩,⟨_,_,hP1⟩,⟨_,_,hP2⟩,⟨_,_,hP3⟩,⟨_,_,hP4⟩,⟨_,_,hP5⟩,⟨_,_,hP6⟩,PySem.W.mg_none_of X G zbool⟩
 have W:HD K mg:=⟨⟨_,_,hP7⟩,⟨_,_,hP8⟩,⟨_,_,hP9⟩,⟨_,_,hP10⟩,⟨_,_,hP11⟩⟩
 have L:uV K mg:=⟨⟨_,_,hO⟩,⟨_,_,hL⟩,⟨_,_,hT⟩,⟨_,_,hN⟩,⟨_,_,hD⟩,⟨_,_,hR⟩,⟨_,_,hA8⟩,⟨_,_,hE1⟩,⟨_,_,hE2⟩,⟨_,_,hE3⟩,⟨_,_,hE4⟩⟩
 have XS:vP K mg D CNoHeap CTooMany CNoPlace:=⟨⟨_,_,xNoHeap⟩,⟨_,_,xTooMany⟩,⟨_,_,xNoPlace⟩⟩
 have ZT:wb K mg D CNoHeap CTooMany CNoPlace CNoMove:=⟨PySem.W.mg_of X G aHE,w1,w2,w3,w4,w5,w6,w7,n0,n1,n2,n3,n4,n5,n6,n7,n8,spc,tks⟩
 refine⟨[⟨"_law_asked",cMK,PMK,Zj⟩],PySem.W.fnOf "law" "law" (jH Yg) (je Yg) (qi Yg) .none kVLAW dcLAW pmLAW anLAW cdLAW ctLAW,List.nodup_cons.mpr ⟨List.not_mem_nil,List.nodup_nil⟩,λt ht=>?_,λs v=>.of_eq rfl,λbase _ _ hTM=>?_⟩
 . rw[List.mem_singleton.mp ht]
   exact⟨iMK,hMKc⟩
 . exact(xz (PT:=PMK) FLAW hMK rfl (hTM _ List.mem_cons_self) B Gk T Nn M Z W L XS xNoMove ZT (PySem.W.mg_none_of X G zrepr)).imp λvs H Q E z=>let ⟨a,ns,e,h1,h2,h3,h4⟩:=z;⟨a,ns,e,h1,h2,h3 _ List.mem_cons_self,h4⟩
theorem walk {l:PySem.W.OpenLaw} {q:Program} {loose:List Str} {XP:(Str->Option Value)->Heap->Prop} {YP:World->Heap->Prop} {d:DefRec} {K:Params->PySem.W.Frag} {ts:List Addr} (hn:l.most=some 63) (hdf:d.params.defaults=[])
   (hY:∀(w:World) (h:Heap),YP w h->(K w.params).In h) (hTs:∀(w:World) (h:Heap),YP w h->∀P∈ts,h.get? P=some (PySem.W.tabObj #[])) (hnt:∀w:World,PySem.W.noTabs (K w.params)=true)
   (F:∀(w:World) (mg:Str->Option Value) (fa:Addr) (h:Heap),(K w.params).In h->h.Ns mainGlobals mg->mg d.name=some (.ref fa)->
     ∃(tabs:List Xn) (fd:FuncData),(tabs.map (·.P)).Nodup/\(∀t∈tabs,t.P∈ts/\PySem.W.codeHdIn (K w.params) t.c t.P=true)/\(∀(s:Shared) (v:Value),BindsTo s fd ⟨[v],[]⟩ [("_law_script",v)])/\∀base:Heap,(K w.params).In base->base.Ns mainGlobals mg->(∀t∈tabs,YB mg base t.c t.P)->qo l.prog w (K w.params) mg base qZ 11 fa fd ["_law_script"] (XD (K w.params) tabs)):
   PySem.W.WalkO q loose XP YP l.row.toRowW d [] (λf vs=>PySem.call f vs):=
 L2.walk_ofT (n:=63) (k:=11) (x:="_law_script") (sp:=λK tabs=>XD K tabs) hn (by decide) hdf ⟨rfl,by decide,by decide,rfl⟩ hY hTs hnt F (λ_ _ _ a ns hl hS hP=>⟨a,ns,rfl,hS,hl,hP,λ_=>rfl⟩)
end Rh
open PySem PySem.W PyProof.Rows
def PySem.W.Fast.tw7000826075519286045 : Unit := ()
def PySem.W.Fast.tw861502493610598483 : Unit := ()
def PySem.W.Fast.tw9052937418870083693 : Unit := ()
def PySem.W.Fast.tw6871868339806680968 : Unit := ()
def PySem.W.Fast.tw7774113678449685934 : Unit := ()
def PySem.W.Fast.tw197269001402644345 : Unit := ()
def PySem.W.Fast.tw3237361815906912622 : Unit := ()
def PySem.W.Fast.tw13171189065178304875 : Unit := ()
def PySem.W.Fast.tw16315454978102356719 : Unit := ()
def PySem.W.Fast.tw9942562575998753845 : Unit := ()
def PySem.W.Fast.tw2042216218616555271 : Unit := ()
def PySem.W.Fast.tw13485263441057248554 : Unit := ()
def PySem.W.Fast.tw18438055454900119596 : Unit := ()
def PySem.W.Fast.tw12147665669636231765 : Unit := ()
def PySem.W.Fast.tw12103309309050226592 : Unit := ()
def PySem.W.Fast.tw16012446641787371758 : Unit := ()
def PySem.W.Fast.tw13855379610559885079 : Unit := ()
def PySem.W.Fast.tw855453113358079251 : Unit := ()
def PySem.W.Fast.tw16667319390619273182 : Unit := ()
def PySem.W.Fast.tw10842938092177581297 : Unit := ()
def PySem.W.Fast.tw3049343062529576306 : Unit := ()
def PySem.W.Fast.tw11662115353561507501 : Unit := ()
def PySem.W.Fast.tw12488014758255163090 : Unit := ()
def PySem.W.Fast.tw16654469307462801742 : Unit := ()
def PySem.W.Fast.tw10167646349310259628 : Unit := ()
def PySem.W.Fast.tw11024694936033576346 : Unit := ()
def PySem.W.Fast.tw9972681490609642005 : Unit := ()
def PySem.W.Fast.tw14963028359598502718 : Unit := ()
def PySem.W.Fast.tw9331231397406362311 : Unit := ()
def PySem.W.Fast.tw12848530379965262573 : Unit := ()
def PySem.W.Fast.tw13437419889732721216 : Unit := ()
def PySem.W.Fast.tw17170472223608059050 : Unit := ()
def PySem.W.Fast.tw16919654943277366748 : Unit := ()
def PySem.W.Fast.tw6548459193220583526 : Unit := ()
def PySem.W.Fast.tw1467881925912835984 : Unit := ()
def PySem.W.Fast.tw1864683662541468164 : Unit := ()
def PySem.W.Fast.tw2358075552688931204 : Unit := ()
def PySem.W.Fast.tw16723463757517087524 : Unit := ()
def PySem.W.Fast.tw4683681711962371626 : Unit := ()
def PySem.W.Fast.tw2694234056635809718 : Unit := ()
def PySem.W.Fast.tw3945831679567021610 : Unit := ()
def PySem.W.Fast.tw4684226298888400098 : Unit := ()
def PySem.W.Fast.tw9689729476882780088 : Unit := ()
def PySem.W.Fast.tw4804111812005502284 : Unit := ()
def PySem.W.Fast.tw11373181179767321252 : Unit := ()
def PySem.W.Fast.tw12670982853097334264 : Unit := ()
def PySem.W.Fast.tw6170744672141170255 : Unit := ()
def PySem.W.Fast.tw5622701340561072331 : Unit := ()
def PySem.W.Fast.tw14958820412457663293 : Unit := ()
def PySem.W.Fast.tw447263597446747957 : Unit := ()
def PySem.W.Fast.tw6522051377940421278 : Unit := ()
def PySem.W.Fast.tw3778530596728393105 : Unit := ()
def PySem.W.Fast.tw1825952489489211193 : Unit := ()
def PySem.W.Fast.tw5323657890516693427 : Unit := ()
def PySem.W.Fast.tw4849480874435393781 : Unit := ()
def PySem.W.Fast.tw12652081859355081885 : Unit := ()
def PySem.W.Fast.tw1956775160557780875 : Unit := ()
def PySem.W.Fast.tw2228412568605170491 : Unit := ()
def PySem.W.Fast.tw7086961617601330827 : Unit := ()
def PySem.W.Fast.tw2259672571474061568 : Unit := ()
def PySem.W.Fast.tw14564479935002850509 : Unit := ()
def PySem.W.Fast.tw17613222154834848340 : Unit := ()
def PySem.W.Fast.tw8422229294311615681 : Unit := ()
def PySem.W.Fast.tw12269216009862288129 : Unit := ()
def PySem.W.Fast.tw16682895059504647277 : Unit := ()
def PySem.W.Fast.tw8374155422468719031 : Unit := ()
def PySem.W.Fast.tw12727641955093265886 : Unit := ()
def PySem.W.Fast.tw772564365185477556 : Unit := ()
def PySem.W.Fast.tw8431482922422412695 : Unit := ()
def PySem.W.Fast.tw16822532161544500889 : Unit := ()
def PySem.W.Fast.tw13674586047789940208 : Unit := ()
def PySem.W.Fast.tw5002640475654186023 : Unit := ()
def PySem.W.Fast.tw17963105932079019327 : Unit := ()
def PySem.W.Fast.tw2244103112122482387 : Unit := ()
def PySem.W.Fast.tw16902440903046159558 : Unit := ()
def PySem.W.Fast.tw10042083083395451092 : Unit := ()
def PySem.W.Fast.tw13946496683202179788 : Unit := ()
def PySem.W.Fast.tw8002303944043701648 : Unit := ()
def PySem.W.Fast.tw17318462890700432884 : Unit := ()
def PySem.W.Fast.tw5217270863462422736 : Unit := ()
def PySem.W.Fast.tw11962351593759143498 : Unit := ()
def PySem.W.Fast.tw896878414759379649 : Unit := ()
def PySem.W.Fast.tw10295913840692754127 : Unit := ()
def PySem.W.Fast.tw13953587524928339648 : Unit := ()
def PySem.W.Fast.tw14219159868682941630 : Unit := ()
def PySem.W.Fast.tw14903569129155370506 : Unit := ()
def PySem.W.Fast.tw17435391645217708394 : Unit := ()
def PySem.W.Fast.tw16636501806038632012 : Unit := ()
def PySem.W.Fast.tw2931988195819169919 : Unit := ()
def PySem.W.Fast.tw6858818405166986180 : Unit := ()
def PySem.W.Fast.tw14022695629967993375 : Unit := ()
def PySem.W.Fast.tw18146532975450069615 : Unit := ()
def PySem.W.Fast.tw14387916025512776202 : Unit := ()
def PySem.W.Fast.tw4548300405975405348 : Unit := ()
def PySem.W.Fast.tw11401859456886640639 : Unit := ()
def PySem.W.Fast.tw28018229315631829 : Unit := ()
def PySem.W.Fast.tw6128106870883400570 : Unit := ()
def PySem.W.Fast.tw12431713363859531893 : Unit := ()
def PySem.W.Fast.tw9848817304349107530 : Unit := ()
def PySem.W.Fast.tw2827255003249426055 : Unit := ()
def PySem.W.Fast.tw4699756791338806529 : Unit := ()
def PySem.W.Fast.tw539538531456391632 : Unit := ()
def PySem.W.Fast.tw9404705873571188630 : Unit := ()
def PySem.W.Fast.tw10879749546641988924 : Unit := ()
def PySem.W.Fast.tw13769103115541136327 : Unit := ()
def PySem.W.Fast.tw6162269159774324313 : Unit := ()
def PySem.W.Fast.tw12099505692703838030 : Unit := ()
def PySem.W.Fast.tw12330612334027959195 : Unit := ()
def PySem.W.Fast.tw9582823730064241283 : Unit := ()
set_option maxRecDepth 100000
set_option maxHeartbeats 0
open_top hd for PySem.Challenge.rw_ringheaps_k21_heaps_refused
set_option maxRecDepth 100000 in
set_option maxHeartbeats 0 in
theorem PySem.Challenge.cw_ringheaps_k21_heaps_refused_holds : PySem.Challenge.rw_ringheaps_k21_heaps_refused.Holds := by
 refine hd ?_
 k_fill
 refine Rh.walk (l:=PySem.Challenge.rw_ringheaps_k21_heaps_refused) rfl rfl (λw h Y=>PySem.W.km_in_of Y) (λw h Y=>PySem.W.km_tabs_of Y) ?hnt ?F
 case hnt=>exact λw=>by kernel_rfl
 case F=>
   intro w mg fa h KX G hmg
   refine' Rh.all_mk KX G hmg ?_ ?_ ?_ ?_ ?_ ?_ ?_ ?_ ?_ ?_ ?_ ?_ ?_ ?_ ?_ ?_ ?_ ?_ ?_ ?_ ?_ ?_ ?_ ?_ ?_ ?_ ?_ ?_ ?_ ?_ ?_ ?_ ?_ ?_ ?_ ?_ ?_ ?_ ?_ ?_ ?_ ?_ ?_ ?_ ?_ ?_ ?_ ?_ ?_ ?_ ?_ ?_ ?_ ?_ ?_ ?_ ?_ ?_ ?_ ?_ ?_ ?_ ?_ ?_ ?_ ?_ ?_ ?_ ?_ ?_ ?_ ?_ ?_ ?_ ?_ ?_ ?_ ?_ ?_ ?_ ?_ ?_ ?_ ?_ ?_ ?_ ?_ ?_ ?_ ?_ ?_ ?_ ?_ ?_ ?_ ?_ ?_ ?_ ?_ ?_ ?_ ?_ ?_ ?_ ?_ ?_ ?_ ?_ ?_ ?_ ?_ ?_ ?_ ?_ ?_ ?_ ?_ ?_ ?_ ?_ ?_ ?_ ?_ ?_ ?_ ?_ ?_ ?_ ?_ ?_ ?_ ?_ ?_ ?_ ?_ ?_ ?_ ?_ ?_ ?_ ?_ ?_ ?_ ?_ ?_ ?_ ?_ ?_ ?_ ?_ ?_ ?_ ?_ ?_ ?_ ?_ ?_ ?_ ?_ ?_
   any_goals first | exact List.mem_cons_self | (apply Rh.HF.mk'<;>k_is) | (apply Rh.MF.mk'<;>k_is) | k_is | kernel_rfl | rfl | decide
