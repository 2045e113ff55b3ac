import PyProof.Rows.All
import Wide.All
import OpenK.AllK
import Wide.FinOn
import Lean
import PyProof.EqAt
import PyProof.EqKinds
import PyProof.TupleCall
import PySem.Challenge.RW_ringheaps_k41_labels_found
set_option Elab.async false
set_option linter.all false
set_option maxRecDepth 100000
namespace L2
open PySem PySem.Spec PyProof.Rows
abbrev qD:=Sum Int Str
def Yv:qD->Value->Bool
 | .inl k,v=>Value.isInt k v
 | .inr x,v=>Value.isStrOf x v
def MC (w:World):qD->Int
 | .inl k=>hashInt k
 | .inr x=>hashStr w x
theorem jh:∀{k:qD} {v:Value},Yv k v=true->(∃i t,k=Sum.inl i/\v=Value.int i t)\/(∃x t,k=Sum.inr x/\v=Value.str x t)
 | .inl i,v,h=>by
   obtain⟨t,e⟩:=Value.isInt_shape (k:=i) (v:=v) h
   exact .inl ⟨i,t,rfl,e⟩
 | .inr x,v,h=>by
   obtain⟨t,e⟩:=Value.isStrOf_shape (x:=x) (v:=v) h
   exact .inr ⟨x,t,rfl,e⟩
theorem vY (i:Int) (t:Tok):Yv (.inl i) (.int i t)=true:=by simp [Yv,Value.isInt]
theorem vX (x:Str) (t:Tok):Yv (.inr x) (.str x t)=true:=by simp [Yv,Value.isStrOf]
theorem Gx (a b:Int):decide ((Sum.inl a:qD)=Sum.inl b)=(a==b):=by
 by_cases e:a=b
 . subst e;simp
 . have h:¬(Sum.inl a:qD)=Sum.inl b:=λq=>e (Sum.inl.inj q)
   rw[decide_eq_false h]
   exact(beq_eq_false_iff_ne.mpr e).symm
theorem Gu (a b:Str):decide ((Sum.inr a:qD)=Sum.inr b)=decide (a=b):=by
 by_cases e:a=b
 . subst e;simp
 . have h:¬(Sum.inr a:qD)=Sum.inr b:=λq=>e (Sum.inr.inj q)
   rw[decide_eq_false h,decide_eq_false e]
theorem Gw (a:Int) (b:Str):decide ((Sum.inl a:qD)=Sum.inr b)=false:=decide_eq_false (λq=>nomatch q)
theorem Gv (a:Str) (b:Int):decide ((Sum.inr a:qD)=Sum.inl b)=false:=decide_eq_false (λq=>nomatch q)
def qR (prog:Program) (w:World):PySem.KeyKind prog w qD where
 is:=Yv
 hash:=MC w
 inj:=λv a b ha hb=>by
   rcases jh ha with ⟨i,t,rfl,rfl⟩ | ⟨x,t,rfl,rfl⟩
   . rcases jh hb with ⟨j,u,rfl,e⟩ | ⟨y,u,rfl,e⟩
     . injection e with e1 _;rw[e1]
     . exact nomatch e
   . rcases jh hb with ⟨j,u,rfl,e⟩ | ⟨y,u,rfl,e⟩
     . exact nomatch e
     . injection e with e1 _;rw[e1]
 byValue:=λk v h=>by
   rcases jh h with ⟨i,t,rfl,rfl⟩ | ⟨x,t,rfl,rfl⟩<;>rfl
 pyHash:=λhv h=>by
   rcases jh hv with ⟨i,t,rfl,rfl⟩ | ⟨x,t,rfl,rfl⟩
   . exact wpAny_pyHash_int h
   . exact wpAny_pyHash_str h
 eqBool:=λhu hv h=>by
   rcases jh hu with ⟨i,t,rfl,rfl⟩ | ⟨x,t,rfl,rfl⟩
   . rcases jh hv with ⟨j,u,rfl,rfl⟩ | ⟨y,u,rfl,rfl⟩
     . rw[Gx]at h;exact wpAny_eqBool_int h
     . rw[Gw]at h;exact SeqAt.EqAt.int_str i t y u _ _ _ _ h
   . rcases jh hv with ⟨j,u,rfl,rfl⟩ | ⟨y,u,rfl,rfl⟩
     . rw[Gv]at h;exact SeqAt.EqAt.str_int x t j u _ _ _ _ h
     . rw[Gu]at h;exact wpAny_eqBool_str h
 «strs»:=λk x t v h=>by
   rcases jh h with ⟨i,u,rfl,e⟩ | ⟨y,u,rfl,e⟩
   . exact nomatch e
   . injection e with e1 _
     subst e1
     cases v<;>rfl
theorem WQ (prog:Program) (w:World) (i:Int) (t:Tok):(qR prog w).is (.inl i) (.int i t)=true:=vY i t
theorem WP (prog:Program) (w:World) (x:Str) (t:Tok):(qR prog w).is (.inr x) (.str x t)=true:=vX x t
end L2
namespace L2
open PySem PySem.Spec PyProof.Rows
inductive V where
 | non | bl (b:Bool) | int (i:Int) | str (x:Str) | byt (b:Array UInt8) | flt (b:UInt64) | ref (a:Addr) | ty (n:String)
 deriving DecidableEq
def qK:V->Value->Prop
 | .non,u=>u=Value.none
 | .bl b,u=>u=Value.bool b
 | .int i,u=>∃t,u=Value.int i t
 | .str x,u=>∃t,u=Value.str x t
 | .byt b,u=>∃t,u=Value.bytes b t
 | .flt b,u=>∃t,u=Value.float b t
 | .ref a,u=>u=Value.ref a
 | .ty n,u=>u=Value.type n
abbrev qF:List V->List Value->Prop:=Paired qK
theorem qF.length {xs:List V} {us:List Value} (r:qF xs us):xs.length=us.length:=Paired.length r
theorem qF.get:∀{xs:List V} {us:List Value} {i:Nat} {x:V},qF xs us->xs[i]?=some x->∃u,us[i]?=some u/\qK x u
 | _,_,_,_,.nil,e=>by simp at e
 | _,_,0,_,.cons r _,e=>by simp at e;subst e;exact⟨_,rfl,r⟩
 | _,_,i+1,x,.cons _ t,e=>by
   obtain⟨u,h1,h2⟩:=qF.get (i:=i) (x:=x) t (by simpa using e)
   exact⟨u,by simpa using h1,h2⟩
theorem qF.append:∀{xs ys:List V} {us ws:List Value},qF xs us->qF ys ws->qF (xs++ys) (us++ws)
 | _,_,_,_,.nil,s=>s
 | _,_,_,_,.cons r t,s=>.cons r (qF.append t s)
theorem qF.take:∀{xs:List V} {us:List Value} (n:Nat),qF xs us->qF (xs.take n) (us.take n)
 | _,_,0,_=>.nil
 | _,_,_+1,.nil=>.nil
 | _,_,n+1,.cons r t=>.cons r (qF.take n t)
theorem qF.drop:∀{xs:List V} {us:List Value} (n:Nat),qF xs us->qF (xs.drop n) (us.drop n)
 | _,_,0,r=>r
 | _,_,_+1,.nil=>.nil
 | _,_,n+1,.cons _ t=>qF.drop n t
theorem qF.none_of:∀{xs:List V} {us:List Value} {i:Nat},qF xs us->xs[i]?=none->us[i]?=none:=λ{xs us i} r e=>by
 have h1:=r.length
 have h2:xs.length<=i:=List.getElem?_eq_none_iff.mp e
 exact List.getElem?_eq_none_iff.mpr (by omega)
def Jt:Option V->Option Value->Prop
 | some v,some u=>qK v u
 | none,none=>True
 | _,_=>False
def KV {κ:Type}:List (κ×V)->List (κ×Value)->Prop:=Paired λ(p:κ×V) (q:κ×Value)=>p.1=q.1/\qK p.2 q.2
def kV:qD->V
 | .inl i=>.int i
 | .inr x=>.str x
inductive HO where
 | lst (xs:List V)
 | tup (xs:List V)
 | dK (kvs:List (qD×V)) | dT (kvs:List (List qD×V))
 | set (S:Int->Bool) (n:Nat)
 | ins (C dx:Addr) (fs:List (Str×V))
 | own (x:Addr)
 | xd (fs:List (Str×V))
 | met (f x:Addr)
 | rng (lo hi:Int)
 | frz (o:Obj) (u:HO)
 | tbl (ps:Array Value)
 | ext (φ:Heap->Prop)
abbrev Hp:=Addr->Option HO
def upd (H:Hp) (a:Addr) (o:HO):Hp:=λb=>if b=a then some o else H b
theorem qd {H:Hp} {a:Addr} {o:HO}:upd H a o a=some o:=by unfold upd;rw[if_pos rfl]
theorem qg {H:Hp} {a b:Addr} {o:HO} (h:b≠a):upd H a o b=H b:=by unfold upd;rw[if_neg h]
theorem jG {H:Hp} {a:Addr} {o u:HO}:upd (upd H a o) a u=upd H a u:=by
 funext b;unfold upd;split<;>rfl
theorem Ni {H:Hp} {a b:Addr} {o u:HO} (h:H a=some o) (h':H b=some u) (d:o≠u):a≠b:=by
 intro e;subst e;rw[h]at h';exact d (Option.some.inj h')
theorem ql {H:Hp} {a b:Addr} {o:HO} (h:H a=some o) (h':H b=none):a≠b:=by
 intro e;subst e;rw[h]at h';cases h'
section
variable (P:Program) (w:World)
def qH (H:Hp) (h:Heap) (a:Addr):HO->Prop
 | .lst xs=>xs.length<=sizeLine/\∃(its:List Value) (n:Nat),qF xs its/\h.get? a=some {cls:=.type "list",data:=.seq its.toArray n}
 | .tup xs=>xs.length<=sizeLine/\∃its:List Value,qF xs its/\IsTup h a its.toArray
 | .dK kvs=>kvs.length<=sizeLine/\(a==sysModules)=false/\∃vs,KV kvs vs/\h.DictOf (qR P w) a vs
 | .dT kvs=>kvs.length<=sizeLine/\(a==sysModules)=false/\∃xs:List (List qD×Addr×Value),
     Paired (λ(p:List qD×V) (q:List qD×Addr×Value)=>p.1=q.1/\H q.2.1=some (.tup (p.1.map kV))/\qK p.2 q.2.2) kvs xs/\
     ∃o es ep,h.get? a=some o/\o.ExactDict/\o.data=.dict es ep/\es.toList=xs.map (entryOfKey (tupleKind (qR P w)))/\(xs.map (·.1)).Nodup
 | .set S n=>h.SetOf (intKind P w) a S n
 | .ins C dx fs=>H dx=some (.own a)/\fs.length<=1000/\dx≠a/\h.get? a=some (PySem.W.instObj C dx)/\
     ∃mA,h.Ns1 dx mA/\(∀f,Jt (fs.lookup f) (mA f))/\PySem.Within mA (fs.map (·.1))
 | .own _=>∃o,h.get? a=some o
 | .xd fs=>∃mA,h.Ns1 a mA/\∀f,Jt (fs.lookup f) (mA f)
 | .rng lo hi=>∃t u v,h.get? a=some {cls:=.type "range",data:=.fields #[.int lo t,.int hi u,.int 1 v]}
 | .frz o u=>h.get? a=some o/\qH H h a u
 | .tbl ps=>h.get? a=some {cls:=.none,data:=.fields ps}
 | .met f x=>h.get? a=some (PySem.W.methodObj (.ref f) (.ref x))
 | .ext φ=>φ h/\(∃o,h.get? a=some o)/\∀h1 h2:Heap,φ h1->(∀o,h1.get? a=some o->h2.get? a=some o)->φ h2
def Jd (H:Hp) (h:Heap):Prop:=∀a o,H a=some o->qH P w H h a o
end
section
variable {P:Program} {w:World} {H H':Hp} {h h':Heap} {a:Addr} {o:HO}
theorem qH.lt (x:qH P w H h a o):a < h.objs.size:=by
 cases o with
 | lst xs=>obtain⟨_,_,_,_,e⟩:=x;exact Heap.lt_size e
 | tup xs=>obtain⟨_,_,_,p⟩:=x;exact p.lt
 | dK kvs=>obtain⟨_,_,_,_,o,_,_,e,_⟩:=x;exact Heap.lt_size e
 | dT kvs=>obtain⟨_,_,_,_,o,_,_,e,_⟩:=x;exact Heap.lt_size e
 | set S n=>obtain⟨o,_,_,_,e,_⟩:=x;exact Heap.lt_size e
 | ins C dx fs=>obtain⟨_,_,_,e,_⟩:=x;exact Heap.lt_size e
 | own y=>obtain⟨_,e⟩:=x;exact Heap.lt_size e
 | xd fs=>obtain⟨_,⟨_,_,_,e,_⟩,_⟩:=x;exact Heap.lt_size e
 | rng lo hi=>obtain⟨_,_,_,e⟩:=x;exact Heap.lt_size e
 | frz ob u=>obtain⟨e,_⟩:=x;exact Heap.lt_size e
 | tbl ps=>exact Heap.lt_size (show h.get? a=some _ from x)
 | met f y=>exact Heap.lt_size (show h.get? a=some _ from x)
 | ext φ=>obtain⟨_,⟨_,e⟩,_⟩:=x;exact Heap.lt_size e
theorem Paired.mapP {α β:Type} {F G:α->β->Prop}:∀{l₁:List α} {l₂:List β},Paired F l₁ l₂->(∀a b,F a b->G a b)->Paired G l₁ l₂
 | _,_,.nil,_=>.nil
 | _,_,.cons r t,f=>.cons (f _ _ r) (Paired.mapP t f)
theorem qH.stay (x:qH P w H h a o) (k:∀b u,(b=a\/H b=some (.own a))->h.get? b=some u->h'.get? b=some u)
   (ho:∀b,H b=some (.own a)->H' b=some (.own a)) (ht:∀b xs,H b=some (.tup xs)->H' b=some (.tup xs)):qH P w H' h' a o:=by
 induction o with
 | lst xs=>obtain⟨z,its,n,r,e⟩:=x;exact⟨z,its,n,r,k _ _ (.inl rfl) e⟩
 | tup xs=>obtain⟨z,its,r,ob,e,c⟩:=x;exact⟨z,its,r,ob,k _ _ (.inl rfl) e,c⟩
 | dK kvs=>obtain⟨z,y,vs,r,ob,es,ep,e,c⟩:=x;exact⟨z,y,vs,r,ob,es,ep,k _ _ (.inl rfl) e,c⟩
 | dT kvs=>
   obtain⟨z,y,xs,r,ob,es,ep,e,c⟩:=x
   exact⟨z,y,xs,Paired.mapP r λp q z=>⟨z.1,ht _ _ z.2.1,z.2.2⟩,ob,es,ep,k _ _ (.inl rfl) e,c⟩
 | set S n=>obtain⟨ob,es,ep,t,e,c⟩:=x;exact⟨ob,es,ep,t,k _ _ (.inl rfl) e,c⟩
 | ins C dx fs=>
   obtain⟨d,z,ne,e,mA,⟨od,es,ep,e2,c⟩,r⟩:=x
   exact⟨ho _ d,z,ne,k _ _ (.inl rfl) e,mA,⟨od,es,ep,k _ _ (.inr d) e2,c⟩,r⟩
 | own y=>obtain⟨ob,e⟩:=x;exact⟨ob,k _ _ (.inl rfl) e⟩
 | xd fs=>obtain⟨mA,⟨od,es,ep,e,c⟩,r⟩:=x;exact⟨mA,⟨od,es,ep,k _ _ (.inl rfl) e,c⟩,r⟩
 | rng lo hi=>obtain⟨t,u,v,e⟩:=x;exact⟨t,u,v,k _ _ (.inl rfl) e⟩
 | frz ob u ih=>obtain⟨e,q⟩:=x;exact⟨k _ _ (.inl rfl) e,ih q⟩
 | tbl ps=>
   have e:h.get? a=some {cls:=.none,data:=.fields ps}:=x
   show h'.get? a=some {cls:=.none,data:=.fields ps}
   exact k a _ (.inl rfl) e
 | met f y=>
   have e:h.get? a=some (PySem.W.methodObj (.ref f) (.ref y)):=x
   show h'.get? a=some (PySem.W.methodObj (.ref f) (.ref y))
   exact k a _ (.inl rfl) e
 | ext φ=>obtain⟨p,⟨o,e⟩,st⟩:=x;exact⟨st _ _ p λo q=>k _ _ (.inl rfl) q,⟨o,k _ _ (.inl rfl) e⟩,st⟩
theorem Jd.lt (x:Jd P w H h) (e:H a=some o):a < h.objs.size:=(x a o e).lt
theorem Jd.fresh (x:Jd P w H h) (e:h.objs.size<=a):H a=none:=by
 cases q:H a with
 | none=>rfl
 | some u=>exact absurd (Nat.lt_of_lt_of_le (x.lt q) e) (Nat.lt_irrefl _)
theorem Jd.kept (x:Jd P w H h) (k:∀b u,h.get? b=some u->h'.get? b=some u):Jd P w H h':=λa o e=>
 (x a o e).stay (λb u _ q=>k b u q) (λ_ q=>q) λ_ _ q=>q
theorem Jd.laid (x:Jd P w H h) (k:∀b u,h.get? b=some u->h'.get? b=some u) (hp:h.objs.size<=a) (new:qH P w (upd H a o) h' a o):Jd P w (upd H a o) h':=λb u e=>by
 have hn:=x.fresh hp
 by_cases hb:b=a
 . subst hb;rw[qd]at e;cases e;exact new
 . rw[qg hb]at e
   exact(x b u e).stay (λc v _ q=>k c v q) (λc q=>by rw[qg (ql q hn)];exact q) λc xs q=>by rw[qg (ql q hn)];exact q
end
def Rd (H:Hp) (a:Addr) (u:HO):Prop:=H a=some u\/∃o,H a=some (.frz o u)
theorem Rd.ok {P:Program} {w:World} {H:Hp} {h:Heap} {a:Addr} {u:HO} (r:Rd H a u) (x:Jd P w H h):qH P w H h a u:=by
 rcases r with r | ⟨o,r⟩
 . exact x a u r
 . obtain⟨_,q⟩:=x a _ r
   exact q
def Rn:Option HO->Prop
 | some (.lst _)=>True
 | some (.dK _)=>True
 | some (.dT _)=>True
 | some (.set _ _)=>True
 | some (.ins _ _ _)=>True
 | some (.ext _)=>True
 | _=>False
section
variable {P:Program} {w:World} {H:Hp} {h h':Heap} {x e:Addr} {o':HO}
theorem Jd.write (ok:Jd P w H h) (mu:Rn (H x)) (he:e=x\/H e=some (.own x)) (k:∀b u,b≠e->h.get? b=some u->h'.get? b=some u) (heo:∃u,h'.get? e=some u)
   (new:qH P w (upd H x o') h' x o'):Jd P w (upd H x o') h':=λb u q=>by
 have nown:∀c y,H c=some (.own y)->c≠x:=λc y r z=>by subst z;rw[r]at mu;exact mu
 have ntup:∀c xs,H c=some (.tup xs)->c≠x:=λc xs r z=>by subst z;rw[r]at mu;exact mu
 by_cases hb:b=x
 . subst hb;rw[qd]at q;cases q;exact new
 . rw[qg hb]at q
   by_cases hbe:b=e
   . have q':H b=some (.own x):=by
       rcases he with z | z
       . exact absurd (hbe.trans z) hb
       . rw[hbe];exact z
     rw[q]at q';cases q'
     obtain⟨v,hv⟩:=heo
     exact⟨v,by rw[hbe];exact hv⟩
   . refine(ok b u q).stay (λc v hc r=>k c v ?_ r) (λc r=>by rw[qg (nown c b r)];exact r) λc xs r=>by rw[qg (ntup c xs r)];exact r
     rcases hc with rfl | hc
     . exact hbe
     . rintro rfl
       rcases he with z | z
       . exact nown c b hc z
       . rw[hc]at z;cases z;exact hb rfl
end
structure Un (fs ex:List Addr) (H H':Hp) (h h':Heap):Prop where
 keep:∀b o,h.get? b=some o->H b=none->b∉fs->b∉ex->h'.get? b=some o
 slot:∀b o,h.get? b=some o->H b=none->b∈fs->b∉ex->∃sl,h'.get? b=some {o with slots:=sl}
 free:∀b o,h.get? b=some o->H b=none->b∉ex->H' b=none
 there:∀b o,h.get? b=some o->b∉ex->∃o',h'.get? b=some o'
 tups:∀b xs,H b=some (.tup xs)->H' b=some (.tup xs)
 frzs:∀b o u,H b=some (.frz o u)->H' b=some (.frz o u)
 tbls:∀b ps,H b=some (.tbl ps)->∃more,H' b=some (.tbl (ps++more))
section
variable {fs fs' ex ex':List Addr} {H H1 H2:Hp} {h h1 h2 h':Heap} {a x e:Addr} {o:HO}
theorem Un.any (u:Un fs ex H H1 h h1) {b:Addr} {ob:Obj} (q:h.get? b=some ob) (n:H b=none) (hx:b∉ex):∃sl,h1.get? b=some {ob with slots:=sl}:=by
 by_cases hb:b∈fs
 . exact u.slot b ob q n hb hx
 . exact⟨ob.slots,u.keep b ob q n hb hx⟩
theorem Un.kept (k:∀b u,h.get? b=some u->h'.get? b=some u):Un fs ex H H h h':=
 ⟨λb ob q _ _ _=>k b ob q,λb ob q _ _ _=>⟨ob.slots,k b ob q⟩,λ_ _ _ n _=>n,λb ob q _=>⟨ob,k b ob q⟩,λ_ _ q=>q,λ_ _ _ q=>q,λ_ ps q=>⟨#[],by rw[q];simp⟩⟩
theorem Un.refl:Un fs ex H H h h:=Un.kept λ_ _ q=>q
theorem Un.laid (k:∀b u,h.get? b=some u->h'.get? b=some u) (hp:h.objs.size<=a) (hn:H a=none):Un fs ex H (upd H a o) h h' where
 keep:=λb u q _ _ _=>k b u q
 slot:=λb u q _ _ _=>⟨u.slots,k b u q⟩
 free:=λb u q n _=>by rw[qg (Nat.ne_of_lt (Nat.lt_of_lt_of_le (Heap.lt_size q) hp))];exact n
 there:=λb u q _=>⟨u,k b u q⟩
 tups:=λb xs q=>by rw[qg (ql q hn)];exact q
 frzs:=λb u xs q=>by rw[qg (ql q hn)];exact q
 tbls:=λb ps q=>⟨#[],by rw[qg (ql q hn),q];simp⟩
theorem Un.write (mu:Rn (H x)) (he:e=x\/H e=some (.own x)) (k:∀b u,b≠e->h.get? b=some u->h'.get? b=some u) (heo:∃u,h'.get? e=some u):Un fs ex H (upd H x o) h h':=by
 have hx:∀b,H b=none->b≠x:=λb n z=>by subst z;rw[n]at mu;exact mu
 have hb:∀b,H b=none->b≠e:=λb n z=>by
   subst z
   rcases he with r | r
   . exact hx b n r
   . rw[n]at r;cases r
 have hm:∀b u,H b=some u->¬Rn (some u)->b≠x:=λb u q nm z=>by subst z;rw[q]at mu;exact nm mu
 refine⟨λb u q n _ _=>k b u (hb b n) q,λb u q n _ _=>⟨u.slots,k b u (hb b n) q⟩,λb u q n _=>by rw[qg (hx b n)];exact n,λb u q _=>?_,
   λb xs q=>by rw[qg (hm b _ q λz=>z)];exact q,λb u xs q=>by rw[qg (hm b _ q λz=>z)];exact q,λb ps q=>⟨#[],by rw[qg (hm b _ q λz=>z),q];simp⟩⟩
 by_cases hbe:b=e
 . subst hbe;exact heo
 . exact⟨u,k b u hbe q⟩
end
def NP (h:Heap) (H:Hp):List Addr:=(List.range h.objs.size).filter λa=>(H a).isSome
def Wb (h:Heap) (H:Hp):Heap:=PySem.W.hideAll h (NP h H)
theorem kl (h:Heap) (H:Hp):(Wb h H).objs.size=h.objs.size:=PySem.W.hideAll_size _ _
theorem xE {h:Heap} {H:Hp} {b:Addr} {o:Obj} (e:h.get? b=some o) (n:H b=none):(Wb h H).get? b=some o:=
 PySem.W.hideAll_get _ e λhm=>by
   have q:(H b).isSome=true:=(List.mem_filter.mp hm).2
   rw[n]at q;simp at q
theorem ur {h:Heap} {H:Hp} {b:Addr} {o:Obj} (e:(Wb h H).get? b=some o):h.get? b=some o/\H b=none:=by
 have e':h.get? b=some o:=PySem.W.of_hideAll (NP h H) e
 refine⟨e',?_⟩
 cases q:H b with
 | none=>rfl
 | some x=>
   have hm:b∈NP h H:=List.mem_filter.mpr ⟨List.mem_range.mpr (Heap.lt_size e'),by simp [q]⟩
   have z:(Wb h H).get? b=none:=PySem.W.hideAll_none (NP h H) hm
   rw[z]at e;cases e
def u9 (g h:Heap) (L:Addr):List (Addr×Obj):=(List.range h.objs.size).filterMap λa=>if a=L\/(g.get? a).isSome=true then none else (h.get? a).map λo=>(a,o)
def rest (g h:Heap) (L d:Addr):List (Addr×Obj):=(u9 g h L).filter λp=>decide (p.1≠d)
end L2
namespace L2
open PySem PySem.Spec PyProof.Rows
structure Mod (K:PySem.W.Frag) (mg:Str->Option Value) (base:Heap):Prop where
 kin:K.In base
 glob:base.Ns mainGlobals mg
 blt:∃mb,base.Ns builtinsNs mb/\∀x:Str,x≠"__name__"->mb x=bootBuiltins x
 nolimit:base.NoLimit
structure Cx where
 prog:Program
 w:World
 K:PySem.W.Frag
 mg:Str->Option Value
 base:Heap
 A:Around
 N:List Str
 s₀:Shared
 H₀:Hp
 env:Env
 outer:List Env
 stack:List Env
 ex:List Addr
 fn:Str->Bool
 calm:Bool
 pn:List (Addr×Obj)
 xe:Value->Shared->Prop
def zq (l:List Env):List Addr:=l.filterMap (·.frame)
abbrev Cx.fs (X:Cx):List Addr:=zq X.outer
def Rw (sc:Scope) (x:Str):Prop:=sc.names.lookup x=some .local\/sc.names.lookup x=some .cell\/sc.names.lookup x=some .free
def Ro (sc:Scope) (x:Str):Prop:=sc.names.lookup x=some .local\/sc.names.lookup x=some .cell
def ML (env:Env) (h:Heap) (m:Str->Option Value) (x:Str) (u:Value):Prop:=
 (env.kindOf x=some .local/\m x=some u)\/((env.kindOf x=some .cell\/env.kindOf x=some .free)/\∃c,env.cells.lookup x=some c/\h.IsCell c (some u))
structure Cx.Ok (X:Cx):Prop where
 mod:Mod X.K X.mg X.base
 kind:X.env.scope.kind=.function
 glob:X.env.globals=mainGlobals
 blt:X.env.builtins=builtinsNs
 above:X.s₀.heap.objs.size<=X.env.locals
 inj:∀x y c,X.env.cells.lookup x=some c->X.env.cells.lookup y=some c->x=y
 has:∀x,(X.env.kindOf x=some .cell\/X.env.kindOf x=some .free)->∃c,X.env.cells.lookup x=some c
 cab:∀x c,X.fn x=true->X.env.cells.lookup x=some c->X.s₀.heap.objs.size<=c
 hd:X.calm=true->X.A.handled=none
 frames:X.A.frames=some X.stack
 stk:X.stack=X.outer\/(X.stack=X.env::X.outer/\X.env.frame=some X.env.locals)
 exf:∀b∈X.ex,b≠X.env.locals/\∀x c,X.env.cells.lookup x=some c->c≠b
 bs:∀b o,X.base.get? b=some o->X.s₀.heap.get? b=some o/\X.H₀ b=none
 bsz:X.base.objs.size<=X.s₀.heap.objs.size
 noex:∀b o,X.base.get? b=some o->b∉X.ex
 exfs:∀b∈X.ex,b∉X.fs
 funs:X.s₀.heap.FunFrames X.base X.outer
 frf:∀b∈X.fs,X.H₀ b=none
structure qx (X:Cx) (pins:List (Addr×Obj)) (σ:List (Option V)) (H:Hp) (s:Shared):Prop where
 ok:X.Ok
 os:s.os=X.s₀.os
 bare:AllBare s.gens
 base:Un X.fs X.ex X.H₀ H X.s₀.heap s.heap
 loc:∃m,s.heap.Ns X.env.locals m/\∀(i:Nat) (x:Str) (v:V),X.N[i]?=some x->σ[i]?=some (some v)->Rw X.env.scope x->∃u,qK v u/\ML X.env s.heap m x u
 cell:∀x c,X.env.cells.lookup x=some c->∃v,s.heap.IsCell c v
 free:H X.env.locals=none
 freeC:∀x c,X.env.cells.lookup x=some c->H c=none
 pin:∀p∈X.pn++pins,s.heap.get? p.1=some p.2/\H p.1=none/\p.1≠X.env.locals/\p.1∉X.fs/\∀v,p.2.data≠.cell v
 hok:Jd X.prog X.w H s.heap
 len:σ.length=X.N.length
section
variable {X:Cx} {pins:List (Addr×Obj)} {σ:List (Option V)} {H H':Hp} {s:Shared} {h':Heap}
theorem Cx.Ok.nofr (ok:X.Ok) {b:Addr} {o:Obj} (e:X.base.get? b=some o):b∉X.fs:=λhb=>by
 have:=(ok.funs.mem hb).1
 rw[e]at this;cases this
theorem qx.bs (I:qx X pins σ H s):∀b o,X.base.get? b=some o->s.heap.get? b=some o/\H b=none:=λb o e=>
 ⟨I.base.keep b o (I.ok.bs b o e).1 (I.ok.bs b o e).2 (I.ok.nofr e) (I.ok.noex b o e),I.base.free b o (I.ok.bs b o e).1 (I.ok.bs b o e).2 (I.ok.noex b o e)⟩
theorem qx.bk (I:qx X pins σ H s):∀b o,X.base.get? b=some o->s.heap.get? b=some o:=λb o e=>(I.bs b o e).1
theorem qx.mod (I:qx X pins σ H s):Mod X.K X.mg X.base:=I.ok.mod
theorem qx.kIn (I:qx X pins σ H s):X.K.In s.heap:=I.ok.mod.kin.keeps I.bk
theorem qx.lt (I:qx X pins σ H s):X.env.locals < s.heap.objs.size:=let ⟨_,hn,_⟩:=I.loc;hn.lt
theorem qx.sz (I:qx X pins σ H s):X.s₀.heap.objs.size<=s.heap.objs.size:=Nat.le_trans I.ok.above (Nat.le_of_lt I.lt)
theorem qx.nofs (I:qx X pins σ H s) {a:Addr} (h:s.heap.objs.size<=a):a∉X.fs:=λhb=>by
 obtain⟨_,o,ho,_⟩:=I.ok.funs.mem hb
 exact absurd (Nat.lt_of_lt_of_le (Heap.lt_size ho) (Nat.le_trans I.sz h)) (Nat.lt_irrefl _)
theorem qx.cne (I:qx X pins σ H s):∀x c,X.env.cells.lookup x=some c->c≠X.env.locals:=λx c e z=>by
 obtain⟨v,o,ho,hd⟩:=I.cell x c e
 obtain⟨m,⟨o',es,ep,ho',hd',_⟩,_⟩:=I.loc
 rw[z,ho']at ho;cases ho;rw[hd']at hd;cases hd
theorem qx.funs (I:qx X pins σ H s):s.heap.FunFrames X.base X.outer:=by
 have all:∀(l:List Env),(∀b∈zq l,b∈X.fs)->X.s₀.heap.FunFrames X.base l->s.heap.FunFrames X.base l:=by
   intro l
   induction l with
   | nil=>intro _ _;trivial
   | cons env r ih=>
     intro hs hl
     obtain⟨hk,⟨L,o,hf,hn,ho,hd⟩,hr⟩:=hl
     have hL:L∈X.fs:=hs L (by unfold zq;rw[List.filterMap_cons,hf];exact List.mem_cons_self)
     obtain⟨sl,e⟩:=I.base.slot L o ho (I.ok.frf L hL) hL λz=>I.ok.exfs L z hL
     exact⟨hk,⟨L,_,hf,hn,e,hd⟩,ih (λb hb=>hs b (by unfold zq;rw[List.filterMap_cons,hf];exact List.mem_cons_of_mem _ hb)) hr⟩
 exact all X.outer (λ_ hb=>hb) I.ok.funs
theorem qx.stack (I:qx X pins σ H s):s.heap.FunFrames X.base X.stack:=by
 rcases I.ok.stk with e | ⟨e,hf⟩
 . rw[e];exact I.funs
 . rw[e]
   obtain⟨m,hn,_⟩:=I.loc
   refine .cons (by rw[I.ok.kind];decide) hf hn ?_ I.funs
   exact Heap.get?_none_of_le (Nat.le_trans I.ok.bsz I.ok.above)
theorem qx.stkSub (I:qx X pins σ H s):∀b∈zq X.stack,b∈X.env.locals::X.fs:=λb hb=>by
 rcases I.ok.stk with e | ⟨e,hf⟩
 . rw[e]at hb;exact List.mem_cons_of_mem _ hb
 . rw[e]at hb
   unfold zq at hb
   rw[List.filterMap_cons,hf]at hb
   exact hb
theorem qx.stkFree (I:qx X pins σ H s):∀b∈zq X.stack,H b=none:=λb hb=>by
 rcases List.mem_cons.mp (I.stkSub b hb) with e | hb
 . rw[e];exact I.free
 . obtain⟨_,o,ho,_⟩:=I.ok.funs.mem hb
   exact I.base.free b o ho (I.ok.frf b hb) λz=>I.ok.exfs b z hb
theorem qx.step {g':Array GenState} {t':Nat} {d':Drawn} {ch:List Addr} (I:qx X pins σ H s)
   (hch:∀b∈ch,(b∈X.ex\/X.s₀.heap.objs.size<=b)/\b≠X.env.locals/\(∀x c,X.env.cells.lookup x=some c->c≠b)/\∀p∈X.pn++pins,p.1≠b)
   (keep:∀b o,b≠X.env.locals->b∉X.fs->b∉ch->s.heap.get? b=some o->H b=none->h'.get? b=some o)
   (slot:∀b o,b≠X.env.locals->b∈X.fs->b∉ch->s.heap.get? b=some o->H b=none->∃sl,h'.get? b=some {o with slots:=sl}) (free:∀b o,b∉ch->s.heap.get? b=some o->H b=none->H' b=none)
   (there:∀b o,b∉ch->s.heap.get? b=some o->∃o',h'.get? b=some o')
   (tups:∀b xs,H b=some (.tup xs)->H' b=some (.tup xs)) (frzs:∀b o u,H b=some (.frz o u)->H' b=some (.frz o u)) (tbls:∀b ps,H b=some (.tbl ps)->∃more,H' b=some (.tbl (ps++more)))
   (ns:∀m,s.heap.Ns X.env.locals m->h'.Ns X.env.locals m) (hok:Jd X.prog X.w H' h') (hg:AllBare g'):
   qx X pins σ H' {s with heap:=h',gens:=g',drawn:=d',toks:=t'}:=by
 have neL:∀b o,X.s₀.heap.get? b=some o->b≠X.env.locals:=λb o e=>Nat.ne_of_lt (Nat.lt_of_lt_of_le (Heap.lt_size e) I.ok.above)
 have neC:∀b o,X.s₀.heap.get? b=some o->b∉X.ex->b∉ch:=λb o e hx hb=>by
   rcases(hch b hb).1 with z | z
   . exact hx z
   . exact absurd (Nat.lt_of_lt_of_le (Heap.lt_size e) z) (Nat.lt_irrefl _)
 have cellK:∀x c,X.env.cells.lookup x=some c->∀v,s.heap.IsCell c v->h'.IsCell c v:=λx c e v ⟨o,ho,hd⟩=>by
   have nch:c∉ch:=λz=>(hch c z).2.2.1 x c e rfl
   by_cases hc:c∈X.fs
   . obtain⟨sl,q⟩:=slot c o (I.cne x c e) hc nch ho (I.freeC x c e)
     exact⟨_,q,hd⟩
   . exact⟨o,keep c o (I.cne x c e) hc nch ho (I.freeC x c e),hd⟩
 refine⟨I.ok,I.os,hg,⟨λb o e n hb hx=>?_,λb o e n hb hx=>?_,λb o e n hx=>?_,λb o e hx=>?_,λb xs e=>tups b xs (I.base.tups b xs e),λb o xs e=>frzs b o xs (I.base.frzs b o xs e),λb ps e=>?_⟩,?_,λx c e=>?_,?_,λx c e=>?_,λp hp=>?_,hok,I.len⟩
 . exact keep b o (neL b o e) hb (neC b o e hx) (I.base.keep b o e n hb hx) (I.base.free b o e n hx)
 . obtain⟨sl,e1⟩:=I.base.slot b o e n hb hx
   obtain⟨sl',e2⟩:=slot b _ (neL b o e) hb (neC b o e hx) e1 (I.base.free b o e n hx)
   exact⟨sl',e2⟩
 . obtain⟨o',e1⟩:=I.base.there b o e hx
   exact free b o' (neC b o e hx) e1 (I.base.free b o e n hx)
 . obtain⟨o',e1⟩:=I.base.there b o e hx
   exact there b o' (neC b o e hx) e1
 . obtain⟨m1,e1⟩:=I.base.tbls b ps e
   obtain⟨m2,e2⟩:=tbls b _ e1
   exact⟨m1++m2,by rw[e2,Array.append_assoc]⟩
 . obtain⟨m,hn,hl⟩:=I.loc
   refine⟨m,ns m hn,λi x v e1 e2 e3=>?_⟩
   obtain⟨u,r,l⟩:=hl i x v e1 e2 e3
   refine⟨u,r,?_⟩
   rcases l with l | ⟨k,c,e,z⟩
   . exact .inl l
   . exact .inr ⟨k,c,e,cellK x c e _ z⟩
 . obtain⟨v,z⟩:=I.cell x c e
   exact⟨v,cellK x c e v z⟩
 . obtain⟨m,⟨o,_,_,ho,_⟩,_⟩:=I.loc
   exact free _ o (λz=>(hch _ z).2.1 rfl) ho I.free
 . obtain⟨v,o,ho,hd⟩:=I.cell x c e
   exact free c o (λz=>(hch c z).2.2.1 x c e rfl) ho (I.freeC x c e)
 . obtain⟨e,n,ne,nf,d⟩:=I.pin p hp
   have nch:p.1∉ch:=λz=>(hch p.1 z).2.2.2 p hp rfl
   exact⟨keep p.1 p.2 ne nf nch e n,free p.1 p.2 nch e n,ne,nf,d⟩
theorem qx.un {t':Nat} (I:qx X pins σ H s) (u:Un X.fs [] H H' s.heap h') (hok:Jd X.prog X.w H' h'):qx X pins σ H' {s with heap:=h',toks:=t'}:=by
 obtain⟨m,⟨o,es,ep,ho,r⟩,_⟩:=id I.loc
 obtain⟨sl,hL⟩:=u.any ho I.free (by simp)
 exact I.step (g':=s.gens) (d':=s.drawn) (ch:=[]) (λ_ z=>nomatch z) (λb o _ hb _ e n=>u.keep b o e n hb (by simp)) (λb o _ hb _ e n=>u.slot b o e n hb (by simp)) (λb o _ e n=>u.free b o e n (by simp)) (λb o _ e=>u.there b o e (by simp)) u.tups u.frzs u.tbls (λm' hm=>by
   obtain⟨o',es',ep',ho',r'⟩:=hm
   rw[ho]at ho';cases ho'
   exact⟨_,es',ep',hL,r'⟩) hok I.bare
theorem qx.call {g':Array GenState} {t':Nat} {d':Drawn} {ch:List Addr} (I:qx X pins σ H s) (u:Un (zq X.stack) ch H H' s.heap h') (hok:Jd X.prog X.w H' h') (hg:AllBare g')
   (hch:∀b∈ch,(b∈X.ex\/X.s₀.heap.objs.size<=b)/\b≠X.env.locals/\(∀x c,X.env.cells.lookup x=some c->c≠b)/\∀p∈X.pn++pins,p.1≠b):
   qx X pins σ H' {s with heap:=h',gens:=g',drawn:=d',toks:=t'}:=by
 obtain⟨m,⟨o,es,ep,ho,r⟩,_⟩:=id I.loc
 obtain⟨sl,hL⟩:=u.any ho I.free λz=>(hch _ z).2.1 rfl
 exact I.step (ch:=ch) hch (λb o hL hb hc e n=>u.keep b o e n (λz=>(List.mem_cons.mp (I.stkSub b z)).elim hL hb) hc) (λb o _ _ hc e n=>u.any e n hc) (λb o hc e n=>u.free b o e n hc) (λb o hc e=>u.there b o e hc) u.tups u.frzs u.tbls (λm' hm=>by
   obtain⟨o',es',ep',ho',r'⟩:=hm
   rw[ho]at ho';cases ho'
   exact⟨_,es',ep',hL,r'⟩) hok hg
theorem qx.turned {t':Nat} {it:Addr} (I:qx X pins σ H s) (k:∀b o,b≠it->s.heap.get? b=some o->h'.get? b=some o) (hn:H it=none) (hL:it≠X.env.locals)
   (h1:it∈X.ex\/X.s₀.heap.objs.size<=it) (h2:∀x c,X.env.cells.lookup x=some c->c≠it) (h3:∀p∈X.pn++pins,p.1≠it):qx X pins σ H {s with heap:=h',toks:=t'}:=by
 have nit:∀b u,H b=some u->b≠it:=λb u e z=>by rw[z,hn]at e;cases e
 refine I.step (g':=s.gens) (d':=s.drawn) (ch:=[it]) (λb hb=>?_) (λb o _ _ hc e _=>k b o (λz=>hc (by simp [z])) e) (λb o _ _ hc e _=>⟨o.slots,k b o (λz=>hc (by simp [z])) e⟩) (λ_ _ _ _ n=>n)
   (λb o hc e=>⟨o,k b o (λz=>hc (by simp [z])) e⟩) (λ_ _ e=>e) (λ_ _ _ e=>e) (λb ps e=>⟨#[],by rw[e];simp⟩) (λm hm=>?_) (λb u e=>?_) I.bare
 . have e:b=it:=by simpa using hb
   subst e
   exact⟨h1,hL,h2,h3⟩
 . obtain⟨o,es,ep,ho,r⟩:=hm
   exact⟨o,es,ep,k _ o (Ne.symm hL) ho,r⟩
 . refine(I.hok b u e).stay (λc v hc q=>k c v ?_ q) (λ_ q=>q) λ_ _ q=>q
   rcases hc with z | z
   . rw[z];exact nit b u e
   . exact nit c _ z
theorem qx.tok (I:qx X pins σ H s) (t:Nat):qx X pins σ H {s with toks:=t}:=I.un (h':=s.heap) (t':=t) Un.refl I.hok
theorem qx.kept {t':Nat} (I:qx X pins σ H s) (k:∀b u,s.heap.get? b=some u->h'.get? b=some u):qx X pins σ H {s with heap:=h',toks:=t'}:=I.un (Un.kept k) (I.hok.kept k)
theorem qx.laid {a:Addr} {o:HO} {t':Nat} (I:qx X pins σ H s) (k:∀b u,s.heap.get? b=some u->h'.get? b=some u) (hp:s.heap.objs.size<=a) (new:qH X.prog X.w (upd H a o) h' a o):
   qx X pins σ (upd H a o) {s with heap:=h',toks:=t'}:=I.un (Un.laid k hp (I.hok.fresh hp)) (I.hok.laid k hp new)
theorem qx.write {x e:Addr} {o:HO} {t':Nat} (I:qx X pins σ H s) (mu:Rn (H x)) (he:e=x\/H e=some (.own x)) (k:∀b u,b≠e->s.heap.get? b=some u->h'.get? b=some u) (heo:∃u,h'.get? e=some u)
   (new:qH X.prog X.w (upd H x o) h' x o):qx X pins σ (upd H x o) {s with heap:=h',toks:=t'}:=I.un (Un.write mu he k heo) (I.hok.write mu he k heo new)
theorem qx.pins_of {pins':List (Addr×Obj)} (I:qx X pins σ H s) (h:∀p∈pins',s.heap.get? p.1=some p.2/\H p.1=none/\p.1≠X.env.locals/\p.1∉X.fs/\∀v,p.2.data≠.cell v):qx X pins' σ H s:=
 ⟨I.ok,I.os,I.bare,I.base,I.loc,I.cell,I.free,I.freeC,λp hp=>(List.mem_append.mp hp).elim (λz=>I.pin p (List.mem_append_left _ z)) (h p),I.hok,I.len⟩
theorem Yp {N:List Str} (hN:N.Nodup) {i j:Nat} {x:Str} (a:N[i]?=some x) (b:N[j]?=some x):i=j:=by
 obtain⟨h1,e1⟩:=List.getElem?_eq_some_iff.mp a
 obtain⟨h2,e2⟩:=List.getElem?_eq_some_iff.mp b
 exact(List.getElem_inj hN).mp (e1.trans e2.symm)
theorem Y0 {M:Model} {A:Around} {E:Value->Shared->Prop} {i:Nat} {x:Str} {v:V} {u:Value} {Q:Unit->Shared->Prop} (I:qx X pins σ H s) (hN:X.N.Nodup) (hi:X.N[i]?=some x) (hx:Ro X.env.scope x) (r:qK v u)
   (h:∀s',qx X pins (σ.set i (some v)) H s'->(∃a,Heap.SameBut a s.heap s'.heap/\(a=X.env.locals\/X.env.cells.lookup x=some a))->Q () s') (hf:X.fn x=true\/X.env.scope.names.lookup x=some .local:=by first | exact .inl rfl | exact .inr rfl | assumption):wpAny M A (storeName X.env x u) Q E s:=by
 obtain⟨m,hn,hl⟩:=id I.loc
 have hcls:(X.env.scope.kind==.class || (X.env.scope.kind==.module&&X.env.locals != X.env.globals))=false:=by rw[I.ok.kind];rfl
 have hiσ:i < σ.length:=by rw[I.len];exact(List.getElem?_eq_some_iff.mp hi).1
 have cne:=I.cne
 have tracked:∀{a:Addr} {h':Heap},(∃o,s.heap.get? a=some o/\H a=none)->Heap.SameBut a s.heap h'->Jd X.prog X.w H h':=λ{a h'} ha hs b ob e=>by
   obtain⟨_,_,hfree⟩:=ha
   refine(I.hok b ob e).stay (λc w' hc q=>(hs.2 c ?_).trans q) (λ_ q=>q) λ_ _ q=>q
   rintro rfl
   rcases hc with rfl | hc
   . rw[hfree]at e;cases e
   . rw[hfree]at hc;cases hc
 rcases hx with hk | hk
 . refine wpAny_storeName_local hk hn (λh' hn' hs=>?_) hcls
   obtain⟨oL,_,_,hoL,_⟩:=id hn
   refine h _ ⟨I.ok,I.os,I.bare,⟨λb o e n hb hx=>?_,λb o e n hb hx=>?_,I.base.free,λb o e hx=>?_,I.base.tups,I.base.frzs,I.base.tbls⟩,⟨_,hn',λj y v' e1 e2 e3=>?_⟩,λy c e=>?_,I.free,I.freeC,λp hp=>?_,tracked ⟨oL,hoL,I.free⟩ hs,by simpa using I.len⟩ ⟨_,hs,.inl rfl⟩
   . exact(hs.2 b (Nat.ne_of_lt (Nat.lt_of_lt_of_le (Heap.lt_size e) I.ok.above))).trans (I.base.keep b o e n hb hx)
   . obtain⟨sl,e1⟩:=I.base.slot b o e n hb hx
     exact⟨sl,(hs.2 b (Nat.ne_of_lt (Nat.lt_of_lt_of_le (Heap.lt_size e) I.ok.above))).trans e1⟩
   . obtain⟨o',e1⟩:=I.base.there b o e hx
     exact⟨o',(hs.2 b (Nat.ne_of_lt (Nat.lt_of_lt_of_le (Heap.lt_size e) I.ok.above))).trans e1⟩
   . by_cases hj:j=i
     . subst hj
       rw[hi]at e1;cases e1
       rw[List.getElem?_set_self hiσ]at e2
       cases e2
       exact⟨u,r,.inl ⟨hk,by simp⟩⟩
     . rw[List.getElem?_set_ne (Ne.symm hj)]at e2
       obtain⟨u',r',q⟩:=hl j y v' e1 e2 e3
       refine⟨u',r',?_⟩
       rcases q with ⟨k,e⟩ | ⟨k,c,e,z⟩
       . refine .inl ⟨k,?_⟩
         have:y≠x:=λe=>hj (Yp hN e1 (e▸hi))
         simp [this,e]
       . exact .inr ⟨k,c,e,z.sameBut hs (cne y c e)⟩
   . obtain⟨w',z⟩:=I.cell y c e
     exact⟨w',z.sameBut hs (cne y c e)⟩
   . obtain⟨e,n,ne,nf,d⟩:=I.pin p hp
     exact⟨(hs.2 p.1 ne).trans e,n,ne,nf,d⟩
 . have hfn:X.fn x=true:=by
     rcases hf with z | z
     . exact z
     . rw[z]at hk;cases hk
   obtain⟨c,hc⟩:=I.ok.has x (.inl hk)
   obtain⟨w',z⟩:=I.cell x c hc
   refine wpAny_storeName_cell I.ok.kind hk hc z (λh' hc' hs=>?_)
   obtain⟨oc,hoc,hocd⟩:=id z
   refine h {s with heap:=h'} ⟨I.ok,I.os,I.bare,⟨λb o e n hb hx=>?_,λb o e n hb hx=>?_,I.base.free,λb o e hx=>?_,I.base.tups,I.base.frzs,I.base.tbls⟩,⟨m,hn.sameBut hs (Ne.symm (cne x c hc)),λj y v' e1 e2 e3=>?_⟩,λy c' e=>?_,I.free,I.freeC,λp hp=>?_,tracked ⟨oc,hoc,I.freeC x c hc⟩ hs,by simpa using I.len⟩ ⟨c,hs,.inr hc⟩
   . exact(hs.2 b (Nat.ne_of_lt (Nat.lt_of_lt_of_le (Heap.lt_size e) (I.ok.cab x c hfn hc)))).trans (I.base.keep b o e n hb hx)
   . obtain⟨sl,e1⟩:=I.base.slot b o e n hb hx
     exact⟨sl,(hs.2 b (Nat.ne_of_lt (Nat.lt_of_lt_of_le (Heap.lt_size e) (I.ok.cab x c hfn hc)))).trans e1⟩
   . obtain⟨o',e1⟩:=I.base.there b o e hx
     exact⟨o',(hs.2 b (Nat.ne_of_lt (Nat.lt_of_lt_of_le (Heap.lt_size e) (I.ok.cab x c hfn hc)))).trans e1⟩
   . by_cases hj:j=i
     . subst hj
       rw[hi]at e1;cases e1
       rw[List.getElem?_set_self hiσ]at e2
       cases e2
       exact⟨u,r,.inr ⟨.inl hk,c,hc,hc'⟩⟩
     . rw[List.getElem?_set_ne (Ne.symm hj)]at e2
       obtain⟨u',r',q⟩:=hl j y v' e1 e2 e3
       refine⟨u',r',?_⟩
       rcases q with q | ⟨k,c',e,z'⟩
       . exact .inl q
       . refine .inr ⟨k,c',e,z'.sameBut hs ?_⟩
         rintro rfl
         exact hj (Yp hN e1 (I.ok.inj _ _ _ e hc▸hi))
   . by_cases hcc:c'=c
     . subst hcc;exact⟨_,hc'⟩
     . obtain⟨w2,z2⟩:=I.cell y c' e
       exact⟨w2,z2.sameBut hs hcc⟩
   . obtain⟨e,n,ne,nf,d⟩:=I.pin p hp
     refine⟨(hs.2 p.1 ?_).trans e,n,ne,nf,d⟩
     intro q
     rw[q,hoc]at e
     have q':oc=p.2:=Option.some.inj e
     exact d w' (by rw[<-q'];exact hocd)
theorem Zu {M:Model} {A:Around} {E:Value->Shared->Prop} {i:Nat} {x:Str} {v:V} {u:Value} {Q:Unit->Shared->Prop} (I:qx X pins σ H s) (hN:X.N.Nodup) (hi:X.N[i]?=some x) (hx:Ro X.env.scope x) (r:qK v u)
   (h:∀s',qx X pins (σ.set i (some v)) H s'->Q () s') (hf:X.fn x=true\/X.env.scope.names.lookup x=some .local:=by first | exact .inl rfl | exact .inr rfl | assumption):wpAny M A (storeName X.env x u) Q E s:=
 Y0 I hN hi hx r (λs' I' _=>h s' I') hf
theorem qx.call' {s':Shared} {ch:List Addr} (I:qx X pins σ H s) (ho:s'.os=s.os) (u:Un (zq X.stack) ch H H' s.heap s'.heap) (hok:Jd X.prog X.w H' s'.heap) (hg:AllBare s'.gens)
   (hch:∀b∈ch,(b∈X.ex\/X.s₀.heap.objs.size<=b)/\b≠X.env.locals/\(∀x c,X.env.cells.lookup x=some c->c≠b)/\∀p∈X.pn++pins,p.1≠b):qx X pins σ H' s':=by
 obtain⟨h',g',d',t',o'⟩:=s'
 have e:o'=s.os:=ho
 subst e
 exact I.call (g':=g') (t':=t') (d':=d') u hok hg hch
end
abbrev XK:=Value->Option Addr->Hp->Prop
abbrev St:=List (Option V)
abbrev VK:=V->Hp->Prop
abbrev TE:=St->Hp->VK->Prop
abbrev TT:=St->Hp->(Bool->Hp->Prop)->Prop
abbrev TA:=St->Hp->(List V->Hp->Prop)->Prop
structure Qu where
 nx:St->Hp->Prop
 rt:VK
 bk:St->Hp->Prop:=λ_ _=>False
 ct:St->Hp->Prop:=λ_ _=>False
abbrev TS:=Qu->St->Hp->Prop
def EP (X:Cx) (pins:List (Addr×Obj)) (σ:St) (Q:VK) (u:Value) (s':Shared):Prop:=∃v H',qx X pins σ H' s'/\qK v u/\Q v H'
def TP (X:Cx) (pins:List (Addr×Obj)) (σ:St) (Q:Bool->Hp->Prop) (b:Bool) (s':Shared):Prop:=∃H',qx X pins σ H' s'/\Q b H'
def AP (X:Cx) (pins:List (Addr×Obj)) (σ:St) (Q:List V->Hp->Prop) (us:List Value) (s':Shared):Prop:=∃vs H',qx X pins σ H' s'/\qF vs us/\Q vs H'
def SP (X:Cx) (pins:List (Addr×Obj)) (D:Qu) (f:Flow) (s':Shared):Prop:=
 match f with
 | .next=>∃σ' H',qx X pins σ' H' s'/\D.nx σ' H'
 | .brk=>∃σ' H',qx X pins σ' H' s'/\D.bk σ' H'
 | .cont=>∃σ' H',qx X pins σ' H' s'/\D.ct σ' H'
 | .ret u=>∃v σ' H',qx X pins σ' H' s'/\qK v u/\D.rt v H'
def PE (X:Cx) (e:Expr) (t:TE):Prop:=
 ∀(pins:List (Addr×Obj)) (s:Shared) (σ:St) (H:Hp) (Q:VK),qx X pins σ H s->t σ H Q->wpAny (model X.prog X.w) X.A (eval e X.env) (EP X pins σ Q) X.xe s
@[irreducible] def JE (X:Cx) (e:Expr) (t:TE):Prop:=PE X e t
theorem JE.of {X:Cx} {e:Expr} {t:TE} (h:PE X e t):JE X e t:=by unfold JE;exact h
theorem JE.to {X:Cx} {e:Expr} {t:TE} (h:JE X e t):PE X e t:=by unfold JE at h;exact h
def PT (X:Cx) (e:Expr) (t:TT):Prop:=
 ∀(pins:List (Addr×Obj)) (s:Shared) (σ:St) (H:Hp) (Q:Bool->Hp->Prop),qx X pins σ H s->t σ H Q->wpAny (model X.prog X.w) X.A (isTrue e X.env (eval e X.env)) (TP X pins σ Q) X.xe s
@[irreducible] def JT (X:Cx) (e:Expr) (t:TT):Prop:=PT X e t
theorem JT.of {X:Cx} {e:Expr} {t:TT} (h:PT X e t):JT X e t:=by unfold JT;exact h
theorem JT.to {X:Cx} {e:Expr} {t:TT} (h:JT X e t):PT X e t:=by unfold JT at h;exact h
def PW (X:Cx) (e:Expr) (t:TT):Prop:=
 ∀(whole:Sem Value) (pins:List (Addr×Obj)) (s:Shared) (σ:St) (H:Hp) (Q:Bool->Hp->Prop),qx X pins σ H s->t σ H Q->wpAny (model X.prog X.w) X.A (isTrue e X.env whole) (TP X pins σ Q) X.xe s
theorem PW.pt {X:Cx} {e:Expr} {t:TT} (h:PW X e t):PT X e t:=h _
@[irreducible] def JW (X:Cx) (e:Expr) (t:TT):Prop:=PW X e t
theorem JW.of {X:Cx} {e:Expr} {t:TT} (h:PW X e t):JW X e t:=by unfold JW;exact h
theorem JW.to {X:Cx} {e:Expr} {t:TT} (h:JW X e t):PW X e t:=by unfold JW at h;exact h
theorem JW.pt {X:Cx} {e:Expr} {t:TT} (h:JW X e t):JT X e t:=.of h.to.pt
def PA (X:Cx) (es:List Expr) (t:TA):Prop:=
 ∀(pos:Pos) (pins:List (Addr×Obj)) (s:Shared) (σ:St) (H:Hp) (Q:List V->Hp->Prop),qx X pins σ H s->t σ H Q->wpAny (model X.prog X.w) X.A (spliced (backTo pos (starEach es X.env))) (AP X pins σ Q) X.xe s
@[irreducible] def JA (X:Cx) (es:List Expr) (t:TA):Prop:=PA X es t
theorem JA.of {X:Cx} {es:List Expr} {t:TA} (h:PA X es t):JA X es t:=by unfold JA;exact h
theorem JA.to {X:Cx} {es:List Expr} {t:TA} (h:JA X es t):PA X es t:=by unfold JA at h;exact h
def PS (X:Cx) (st:Stmt) (t:TS):Prop:=
 ∀(pins:List (Addr×Obj)) (s:Shared) (σ:St) (H:Hp) (D:Qu),qx X pins σ H s->t D σ H->wpAny (model X.prog X.w) X.A (exec st X.env) (SP X pins D) X.xe s
@[irreducible] def JS (X:Cx) (st:Stmt) (t:TS):Prop:=PS X st t
theorem JS.of {X:Cx} {st:Stmt} {t:TS} (h:PS X st t):JS X st t:=by unfold JS;exact h
theorem JS.to {X:Cx} {st:Stmt} {t:TS} (h:JS X st t):PS X st t:=by unfold JS at h;exact h
def wa (X:Cx) (st:List Stmt) (t:TS):Prop:=
 ∀(pins:List (Addr×Obj)) (s:Shared) (σ:St) (H:Hp) (D:Qu),qx X pins σ H s->t D σ H->wpAny (model X.prog X.w) X.A (execs st X.env) (SP X pins D) X.xe s
@[irreducible] def Wi (X:Cx) (st:List Stmt) (t:TS):Prop:=wa X st t
theorem Wi.of {X:Cx} {st:List Stmt} {t:TS} (h:wa X st t):Wi X st t:=by unfold Wi;exact h
theorem Wi.to {X:Cx} {st:List Stmt} {t:TS} (h:Wi X st t):wa X st t:=by unfold Wi at h;exact h
theorem jf {α:Type} {t:Sem α} {Q Q':α->Shared->Prop} {M:Model} {A:Around} {E:Value->Shared->Prop} {s:Shared} (h:wpAny M A t Q E s) (hQ:∀a s,Q a s->Q' a s):wpAny M A t Q' E s:=wpAny_mono h hQ λ_ _ x=>x
end L2
namespace L2
open PySem PySem.Spec PyProof.Rows
section
variable {X:Cx}
def jm (i:Nat):TE:=λσ H Q=>∃v,σ[i]?=some (some v)/\Q v H
def tC (v:V):TE:=λ_ H Q=>Q v H
theorem K9 {i:Nat} {x:Str} {pos:Pos} (hN:X.N[i]?=some x) (hv:Rw X.env.scope x) (hd:(x==("__debug__":Str))=false:=by decide) (hcd:(x==("__classdict__":Str))=false:=by decide):PE X (.Name x pos) (jm i):=by
 intro pins s σ H Q I h
 obtain⟨v,e,h⟩:=h
 obtain⟨m,hn,hl⟩:=I.loc
 obtain⟨u,r,l⟩:=hl i x v hN e hv
 have fin:EP X pins σ Q u s:=⟨v,H,I,r,h⟩
 rcases l with ⟨hk,hm⟩ | ⟨hk,c,hc,hcell⟩
 . exact wpAny_Name (wpAny_loadName_local I.ok.kind hk hn hm fin) hd
 . rcases hk with hk | hk
   . exact wpAny_Name (wpAny_loadName_cell I.ok.kind hk hc hcell fin) hd
   . exact wpAny_Name (wpAny_loadName_free I.ok.kind hk hc hcell fin hcd) hd
theorem qi {i j pos}:JE X (.Constant (.int i) j pos) (tC (.int i)):=.of (by
 exact λ_ _ _ H _ I h=>wpAny_Constant_int ⟨.int i,H,I.tok _,⟨_,rfl⟩,h⟩)
theorem jz {b j pos}:JE X (.Constant (.bool b) j pos) (tC (.bl b)):=.of (by
 exact λ_ _ _ H _ I h=>Constant_bool ⟨.bl b,H,I,rfl,h⟩)
theorem X7 {j pos}:JE X (.Constant .none j pos) (tC .non):=.of (by
 exact λ_ _ _ H _ I h=>Constant_none ⟨.non,H,I,rfl,h⟩)
theorem qS {x j pos}:JE X (.Constant (.str x) j pos) (tC (.str x)):=.of (by
 exact λ_ _ _ H _ I h=>Calls.Constant_str ⟨.str x,H,I.tok _,⟨_,rfl⟩,h⟩)
def Gl (X:Cx) (x:Str):Prop:=X.env.kindOf x=some .globalImplicit
theorem ZH {E:Value->Shared->Prop} {pins:List (Addr×Obj)} {s:Shared} {σ:St} {H:Hp} {x:Str} {u:Value} {pos:Pos} {Q:Value->Shared->Prop} (I:qx X pins σ H s) (hg:Gl X x) (hm:X.mg x=some u) (h:Q u s)
   (hd:(x==("__debug__":Str))=false:=by decide):wpAny (model X.prog X.w) X.A (eval (.Name x pos) X.env) Q E s:=
 Calls.Name_function_global I.ok.kind hg (Calls.loadGlobal_global (by rw[I.ok.glob];exact I.mod.glob.keeps I.bk) hm h) hd
theorem QW {E:Value->Shared->Prop} {pins:List (Addr×Obj)} {s:Shared} {σ:St} {H:Hp} {x:Str} {u:Value} {pos:Pos} {Q:Value->Shared->Prop} (I:qx X pins σ H s) (hg:Gl X x) (hm:X.mg x=none) (hv:bootBuiltins x=some u) (h:Q u s)
   (hn:x≠"__name__":=by decide) (hd:(x==("__debug__":Str))=false:=by decide):wpAny (model X.prog X.w) X.A (eval (.Name x pos) X.env) Q E s:=by
 obtain⟨mb,h1,h2⟩:=I.mod.blt
 exact Calls.Name_function_global I.ok.kind hg (Calls.loadGlobal_builtin (by rw[I.ok.glob];exact I.mod.glob.keeps I.bk) hm (by rw[I.ok.blt];exact h1.keeps I.bk) ((h2 x hn).trans hv) h) hd
theorem UB {x:Str} {v:V} {u:Value} {pos:Pos} (hg:Gl X x) (hm:X.mg x=some u) (r:qK v u) (hd:(x==("__debug__":Str))=false:=by decide):PE X (.Name x pos) (tC v):=
 λ_ _ _ H _ I h=>ZH I hg hm ⟨v,H,I,r,h⟩ hd
theorem Jm {x:Str} {v:V} {u:Value} {pos:Pos} (hg:Gl X x) (hm:X.mg x=some u) (r:qK v u) (hd:(x==("__debug__":Str))=false:=by decide):JE X (.Name x pos) (tC v):=.of (UB hg hm r hd)
theorem Qz {x:Str} {v:V} {u:Value} {pos:Pos} (hg:Gl X x) (hm:X.mg x=none) (hv:bootBuiltins x=some u) (r:qK v u) (hn:x≠"__name__":=by decide) (hd:(x==("__debug__":Str))=false:=by decide):JE X (.Name x pos) (tC v):=.of (by
 exact λ_ _ _ H _ I h=>QW I hg hm hv ⟨v,H,I,r,h⟩ hn hd)
variable {a b:Expr} {ta tb:TE} {pos:Pos}
def PC (X:Cx) (op:CmpOp) (a b:Expr) (t:TE):Prop:=
 ∀(pins:List (Addr×Obj)) (s:Shared) (σ:St) (H:Hp) (Q:VK),qx X pins σ H s->t σ H Q->
   wpAny (model X.prog X.w) X.A (eval a X.env) (λv s₁=>wpAny (model X.prog X.w) X.A (eval b X.env) (λu s₂=>wpAny (model X.prog X.w) X.A (compareOp op v u) (EP X pins σ Q) X.xe s₂) X.xe s₁) X.xe s
@[irreducible] def JC (X:Cx) (op:CmpOp) (a b:Expr) (t:TE):Prop:=PC X op a b t
theorem JC.of {X:Cx} {op:CmpOp} {a b:Expr} {t:TE} (h:PC X op a b t):JC X op a b t:=by unfold JC;exact h
theorem JC.to {X:Cx} {op:CmpOp} {a b:Expr} {t:TE} (h:JC X op a b t):PC X op a b t:=by unfold JC at h;exact h
def tB (t:TE):TT:=λσ H Q=>t σ H λx H1=>∃c,x=.bl c/\Q c H1
theorem jX {op:CmpOp} {t:TE} (h:JC X op a b t) (h1:behindInMarks op b=false:=by first | exact nobehind _ (by decide) (by decide) | rfl):JT X (.Compare a [op] [b] pos) (tB t):=.of (by
 have h:=h.to
 intro pins s σ H Q I hw
 refine wpAny_isTrue_Compare1 (jf (h pins s σ H _ I hw) λv s1 h1=>jf h1 λu s2 h2=>jf h2 λc s3 ⟨x,H1,I1,r1,q1⟩=>?_) h1
 obtain⟨d,rfl,q⟩:=q1
 cases r1
 exact wpAny_truthy_bool ⟨H1,I1,q⟩)
theorem jt {e:Expr} {t:TE} (h:JE X e t) (he:∀whole,isTrue e X.env whole=(do let v <-whole;standAt e.pos;holding [v] (truthy v)):=by intro _;rfl):JT X e (tB t):=.of (by
 have h:=h.to
 intro pins s σ H Q I hw
 refine isTrue_plain (jf (h pins s σ H _ I hw) λv s1 ⟨x,H1,I1,r1,q1⟩=>?_) (he _)
 obtain⟨d,rfl,q⟩:=q1
 cases r1
 exact wpAny_truthy_bool ⟨H1,I1,q⟩)
variable {tA tB':TT} {rest:List Expr}
def RK (t u:TT):TT:=λσ H Q=>t σ H λc H1=>if c=true then u σ H1 Q else Q false H1
def tOr (t u:TT):TT:=λσ H Q=>t σ H λc H1=>if c=true then Q true H1 else u σ H1 Q
def N2 (t:TT):TT:=λσ H Q=>t σ H λc H1=>Q (!c) H1
theorem jH (ha:JT X a tA):JW X (.BoolOp .And [a] pos) tA:=.of (by
 have ha:=ha.to
 intro wh pins s σ H Q I h
 refine isTrue_and (jf (ha pins s σ H Q I h) λc s1 e=>?_)
 cases c with
 | true=>exact isTrue_and_nil e
 | false=>exact e)
theorem Qh (ha:JT X a tA):JW X (.BoolOp .Or [a] pos) tA:=.of (by
 have ha:=ha.to
 intro wh pins s σ H Q I h
 refine isTrue_or (jf (ha pins s σ H Q I h) λc s1 e=>?_)
 cases c with
 | false=>exact isTrue_or_nil e
 | true=>exact e)
theorem jR (ha:JT X a tA) (hb:JW X (.BoolOp .And (b::rest) pos) tB'):JW X (.BoolOp .And (a::b::rest) pos) (RK tA tB'):=.of (by
 have ha:=ha.to
 have hb:=hb.to
 intro wh pins s σ H Q I h
 refine isTrue_and (jf (ha pins s σ H _ I h) λc s1 ⟨H1,I1,q1⟩=>?_)
 cases c with
 | true=>exact hb wh pins s1 σ H1 Q I1 q1
 | false=>exact⟨H1,I1,q1⟩)
theorem QG (ha:JT X a tA) (hb:JW X (.BoolOp .Or (b::rest) pos) tB'):JW X (.BoolOp .Or (a::b::rest) pos) (tOr tA tB'):=.of (by
 have ha:=ha.to
 have hb:=hb.to
 intro wh pins s σ H Q I h
 refine isTrue_or (jf (ha pins s σ H _ I h) λc s1 ⟨H1,I1,q1⟩=>?_)
 cases c with
 | true=>exact⟨H1,I1,q1⟩
 | false=>exact hb wh pins s1 σ H1 Q I1 q1)
theorem Qi (ha:JT X a tA):JT X (.UnaryOp .Not a pos) (N2 tA):=.of (by
 have ha:=ha.to
 intro pins s σ H Q I h
 exact isTrue_not (ha pins s σ H (λc H1=>Q (!c) H1) I h))
def RJ (ta tb:TE):TE:=λσ H Q=>ta σ H λx H1=>∃c,x=.bl c/\if c=true then tb σ H1 Q else Q (.bl false) H1
def RE (ta:TE):TE:=λσ H Q=>ta σ H λx H1=>∃c,x=.bl c/\Q (.bl (!c)) H1
theorem Z1 {op} {t:TE} (h:JE X a t):JE X (.BoolOp op [a] pos) t:=.of (by
 have h:=h.to
 exact λpins s σ H Q I hw=>BoolOp_one (h pins s σ H Q I hw))
theorem JQ (ha:JE X a ta) (hb:JE X (.BoolOp .And (b::rest) pos) tb):JE X (.BoolOp .And (a::b::rest) pos) (RJ ta tb):=.of (by
 have ha:=ha.to
 have hb:=hb.to
 intro pins s σ H Q I h
 refine BoolOp_and (jf (ha pins s σ H _ I h) λv s1 ⟨x,H1,I1,r1,q1⟩=>?_)
 obtain⟨c,rfl,q1⟩:=q1
 cases r1
 refine wpAny_truthy_bool ?_
 cases c with
 | true=>exact hb pins s1 σ H1 Q I1 q1
 | false=>exact⟨.bl false,H1,I1,rfl,q1⟩)
theorem GK (ha:JE X a ta):JE X (.UnaryOp .Not a pos) (RE ta):=.of (by
 have ha:=ha.to
 intro pins s σ H Q I h
 refine UnaryOp_ (jf (ha pins s σ H _ I h) λv s1 ⟨x,H1,I1,r1,q1⟩=>?_)
 obtain⟨c,rfl,q1⟩:=q1
 cases r1
 exact not_of (wpAny_truthy_bool ⟨.bl (!c),H1,I1,rfl,q1⟩))
end
end L2
namespace L2
open PySem PySem.Spec PyProof.Rows
def SqL (K:PySem.W.Frag) (H:Hp) (a:Addr) (xs:List V):Prop:=
 Rd H a (.lst xs)\/
   ∃(o:Obj) (its:Array Value) (n:Nat),K.lookup a=some o/\o.cls=.type "list"/\o.dict=none/\o.data=.seq its n/\its.size<=sizeLine/\qF xs its.toList
def SqT (K:PySem.W.Frag) (H:Hp) (a:Addr) (xs:List V):Prop:=
 Rd H a (.tup xs)\/
   ∃(o:Obj) (its:Array Value) (n:Nat),K.lookup a=some o/\o.cls=.type "tuple"/\o.data=.seq its n/\its.size<=sizeLine/\qF xs its.toList
def MI:Value->Option V
 | .none=>some .non
 | .bool b=>some (.bl b)
 | .int i _=>some (.int i)
 | .str x _=>some (.str x)
 | .bytes b _=>some (.byt b)
 | .float b _=>some (.flt b)
 | .ref a=>some (.ref a)
 | .type n=>some (.ty n)
 | _=>none
theorem qK.abs {x:V} {u:Value} (r:qK x u):MI u=some x:=by
 cases x with
 | non=>cases r;rfl
 | bl _=>cases r;rfl
 | int _=>obtain⟨t,rfl⟩:=r;rfl
 | str _=>obtain⟨t,rfl⟩:=r;rfl
 | byt _=>obtain⟨t,rfl⟩:=r;rfl
 | flt _=>obtain⟨t,rfl⟩:=r;rfl
 | ref _=>cases r;rfl
 | ty _=>cases r;rfl
theorem qK.inj {x y:V} {u:Value} (r:qK x u) (q:qK y u):x=y:=Option.some.inj (r.abs.symm.trans q.abs)
theorem qF.inj:∀{xs ys:List V} {us:List Value},qF xs us->qF ys us->xs=ys
 | _,_,_,.nil,.nil=>rfl
 | _,_,_,.cons r t,.cons r' t'=>by rw[r.inj r',qF.inj t t']
section
variable {X:Cx} {pins:List (Addr×Obj)} {σ:St} {H:Hp} {s:Shared} {a:Addr} {xs ys:List V}
theorem SqL.of {K:PySem.W.Frag} (h:H a=some (.lst xs)):SqL K H a xs:=.inl (.inl h)
theorem SqT.of {K:PySem.W.Frag} (h:H a=some (.tup xs)):SqT K H a xs:=.inl (.inl h)
theorem qx.list (I:qx X pins σ H s) (h:SqL X.K H a xs):∃its:List Value,qF xs its/\PlainL s.heap a its.toArray/\xs.length<=sizeLine:=by
 rcases h with h | ⟨o,its,n,hk,hc,hd,hs,hz,r⟩
 . obtain⟨z,its,n,r,e⟩:=h.ok I.hok
   exact⟨its,r,⟨_,n,e,rfl,rfl,rfl⟩,z⟩
 . refine⟨its.toList,r,⟨o,n,I.kIn a o hk,hc,hd,by simpa using hs⟩,?_⟩
   have e:=r.length
   simp only[Array.length_toList]at e
   omega
theorem qx.tuple (I:qx X pins σ H s) (h:SqT X.K H a xs):∃its:List Value,qF xs its/\IsTup s.heap a its.toArray/\xs.length<=sizeLine:=by
 rcases h with h | ⟨o,its,n,hk,hc,hs,hz,r⟩
 . obtain⟨z,its,r,p⟩:=h.ok I.hok
   exact⟨its,r,p,z⟩
 . refine⟨its.toList,r,⟨o,I.kIn a o hk,hc,n,by simpa using hs⟩,?_⟩
   have e:=r.length
   simp only[Array.length_toList]at e
   omega
theorem qx.list_inj (I:qx X pins σ H s) (h:SqL X.K H a xs) (h':SqL X.K H a ys):xs=ys:=by
 obtain⟨its,r,⟨o,n,e,_,_,d⟩,_⟩:=I.list h
 obtain⟨its',r',⟨o',n',e',_,_,d'⟩,_⟩:=I.list h'
 rw[e]at e';cases e'
 rw[d]at d'
 injection d' with d1 _
 have:its=its':=by simpa using congrArg Array.toList d1
 subst this
 exact r.inj r'
theorem qx.tuple_inj (I:qx X pins σ H s) (h:SqT X.K H a xs) (h':SqT X.K H a ys):xs=ys:=by
 obtain⟨its,r,⟨o,e,_,n,d⟩,_⟩:=I.tuple h
 obtain⟨its',r',⟨o',e',_,n',d'⟩,_⟩:=I.tuple h'
 rw[e]at e';cases e'
 rw[d]at d'
 injection d' with d1 _
 have:its=its':=by simpa using congrArg Array.toList d1
 subst this
 exact r.inj r'
end
abbrev Cx.wish (X:Cx) (E:Value->Shared->Prop):Cx:={X with xe:=E}
abbrev Cx.nox (X:Cx):Cx:=X.wish λ_ _=>False
theorem Cx.Ok.wish {X:Cx} (ok:X.Ok) (E:Value->Shared->Prop):(X.wish E).Ok:=
 ⟨ok.mod,ok.kind,ok.glob,ok.blt,ok.above,ok.inj,ok.has,ok.cab,ok.hd,ok.frames,ok.stk,ok.exf,ok.bs,ok.bsz,ok.noex,ok.exfs,ok.funs,ok.frf⟩
theorem Cx.Ok.unwish {X:Cx} {E:Value->Shared->Prop} (ok:(X.wish E).Ok):X.Ok:=
 ⟨ok.mod,ok.kind,ok.glob,ok.blt,ok.above,ok.inj,ok.has,ok.cab,ok.hd,ok.frames,ok.stk,ok.exf,ok.bs,ok.bsz,ok.noex,ok.exfs,ok.funs,ok.frf⟩
section
variable {X:Cx} {pins:List (Addr×Obj)} {σ:St} {H:Hp} {s:Shared} {E:Value->Shared->Prop}
theorem qx.wish (I:qx X pins σ H s) (E:Value->Shared->Prop):qx (X.wish E) pins σ H s:=⟨I.ok.wish E,I.os,I.bare,I.base,I.loc,I.cell,I.free,I.freeC,I.pin,I.hok,I.len⟩
theorem qx.unwish (I:qx (X.wish E) pins σ H s):qx X pins σ H s:=⟨I.ok.unwish,I.os,I.bare,I.base,I.loc,I.cell,I.free,I.freeC,I.pin,I.hok,I.len⟩
theorem SP.unwish {D:Qu} {f:Flow} {s':Shared} (h:SP (X.wish E) pins D f s'):SP X pins D f s':=by
 cases f with
 | next=>obtain⟨σ',H',I,q⟩:=h;exact⟨σ',H',I.unwish,q⟩
 | brk=>obtain⟨σ',H',I,q⟩:=h;exact⟨σ',H',I.unwish,q⟩
 | cont=>obtain⟨σ',H',I,q⟩:=h;exact⟨σ',H',I.unwish,q⟩
 | ret u=>obtain⟨v,σ',H',I,r,q⟩:=h;exact⟨v,σ',H',I.unwish,r,q⟩
theorem wa.nox {st:List Stmt} {t:TS} (h:wa X.nox st t):wa X st t:=λpins s σ H D I hw=>
 wpAny_mono (h pins s σ H D (I.wish _) hw) (λ_ _ q=>q.unwish) λ_ _ z=>False.elim z
end
section
variable {X:Cx} {st:Stmt} {rest:List Stmt} {t u:TS} {e:Expr} {te:TE} {pos:Pos}
def Wt:TS:=λD σ H=>D.nx σ H
def KN (t u:TS):TS:=λD σ H=>t {D with nx:=u D} σ H
theorem qC:Wi X [] Wt:=.of (by
 exact λ_ _ σ H _ I h=>wpAny_execs_nil ⟨σ,H,I,h⟩)
theorem qe (h1:JS X st t) (h2:Wi X rest u):Wi X (st::rest) (KN t u):=.of (by
 have h1:=h1.to
 have h2:=h2.to
 intro pins s σ H D I h
 refine wpAny_execs_cons (jf (h1 pins s σ H {D with nx:=u D} I h) λf s1 q=>?_)
 cases f with
 | next=>
   obtain⟨σ',H',I',q⟩:=q
   exact h2 pins s1 σ' H' D I' q
 | ret v=>exact q
 | brk=>exact q
 | cont=>exact q)
theorem qh (h1:JS X st t):Wi X [st] t:=.of (by
 have h1:=h1.to
 intro pins s σ H D I h
 refine wpAny_execs_cons (jf (h1 pins s σ H D I h) λf s1 q=>?_)
 cases f with
 | next=>exact wpAny_execs_nil q
 | ret v=>exact q
 | brk=>exact q
 | cont=>exact q)
theorem qx.quiet {pins:List (Addr×Obj)} {σ:St} {H:Hp} {s:Shared} (I:qx X pins σ H s):interactive X.env=false:=by simp [interactive,I.ok.kind]
def RG (te:TE):TS:=λD σ H=>te σ H λ_ H1=>D.nx σ H1
theorem qY (he:JE X e te) (hs:swapsWith e none pos.line X.env=pure false:=by rfl):JS X (.Expr e pos) (RG te):=.of (by
 have he:=he.to
 intro pins s σ H D I h
 exact wpAny_Expr_any (jf (he pins s σ H _ I h) λv s1 ⟨x,H1,I1,r1,q1⟩=>⟨σ,H1,I1,q1⟩) I.quiet hs)
def N1 (te:TE):TS:=λD σ H=>te σ H D.rt
theorem qA (he:JE X e te):JS X (.Return (some e) pos) (N1 te):=.of (by
 have he:=he.to
 intro pins s σ H D I h
 exact wpAny_Return_some (jf (he pins s σ H _ I h) λv s1 ⟨x,H1,I1,r1,q1⟩=>⟨x,σ,H1,I1,r1,q1⟩))
def kM (c:TT) (t u:TS):TS:=λD σ H=>c σ H λb H1=>if b=true then t D σ H1 else u D σ H1
theorem qL {c:Expr} {a b:List Stmt} {tc:TT} (hc:JT X c tc) (ha:Wi X a t) (hb:Wi X b u):JS X (.If c a b pos) (kM tc t u):=.of (by
 have hc:=hc.to
 have ha:=ha.to
 have hb:=hb.to
 intro pins s σ H D I h
 refine wpAny_If (jf (hc pins s σ H _ I h) λd s1 ⟨H1,I1,q1⟩=>?_)
 cases d with
 | true=>exact ha pins s1 σ H1 D I1 q1
 | false=>exact hb pins s1 σ H1 D I1 q1)
def KO:TS:=λ_ _ _=>False
theorem jc {sts:List Stmt}:Wi X sts KO:=.of (by
 exact λ_ _ _ _ _ _ h=>h.elim)
end
abbrev TG:=V->St->Hp->(St->Hp->Prop)->Prop
abbrev x9:=List V->St->Hp->(St->Hp->Prop)->Prop
def PG (X:Cx) (target:Expr) (t:TG):Prop:=
 ∀(pins:List (Addr×Obj)) (s:Shared) (σ:St) (H:Hp) (v:V) (u:Value) (Q:St->Hp->Prop),qx X pins σ H s->qK v u->t v σ H Q->
   wpAny (model X.prog X.w) X.A (assign target X.env u) (λ_ s'=>∃σ' H',qx X pins σ' H' s'/\Q σ' H') X.xe s
@[irreducible] def JG (X:Cx) (target:Expr) (t:TG):Prop:=PG X target t
theorem JG.of {X:Cx} {target:Expr} {t:TG} (h:PG X target t):JG X target t:=by unfold JG;exact h
theorem JG.to {X:Cx} {target:Expr} {t:TG} (h:JG X target t):PG X target t:=by unfold JG at h;exact h
def MK (X:Cx) (ts:List Expr) (t:x9):Prop:=
 ∀(pins:List (Addr×Obj)) (s:Shared) (σ:St) (H:Hp) (vs:List V) (us:List Value) (Q:St->Hp->Prop),qx X pins σ H s->qF vs us->t vs σ H Q->
   wpAny (model X.prog X.w) X.A (assignInOrder ((assignEach ts X.env).map (·.2)) us) (λ_ s'=>∃σ' H',qx X pins σ' H' s'/\Q σ' H') X.xe s
@[irreducible] def wg (X:Cx) (ts:List Expr) (t:x9):Prop:=MK X ts t
theorem wg.of {X:Cx} {ts:List Expr} {t:x9} (h:MK X ts t):wg X ts t:=by unfold wg;exact h
theorem wg.to {X:Cx} {ts:List Expr} {t:x9} (h:wg X ts t):MK X ts t:=by unfold wg at h;exact h
abbrev NV:=V->V->Hp->VK->Prop
def PIp (X:Cx) (op:Operator) (t:NV):Prop:=
 ∀(pins:List (Addr×Obj)) (s:Shared) (σ:St) (H:Hp) (x y:V) (v u:Value) (Q:VK),qx X pins σ H s->qK x v->qK y u->t x y H Q->
   wpAny (model X.prog X.w) X.A (inplaceOp op v u) (EP X pins σ Q) X.xe s
section
variable {X:Cx} {pos:Pos}
def Qw (i:Nat):TG:=λv σ H Q=>Q (σ.set i (some v)) H
theorem qt {i:Nat} {x:Str} (hN:X.N.Nodup) (hi:X.N[i]?=some x) (hx:Ro X.env.scope x) (hf:X.fn x=true\/X.env.scope.names.lookup x=some .local:=by first | exact .inl rfl | exact .inr rfl | assumption):JG X (.Name x pos) (Qw i):=.of (by
 intro pins s σ H v u Q I r h
 exact wpAny_assign_Name (Zu I hN hi hx r (λs' I'=>⟨_,H,I',h⟩) hf))
def G8:x9:=λvs σ H Q=>vs=[]/\Q σ H
def WV (t:TG) (u:x9):x9:=λvs σ H Q=>∃v r,vs=v::r/\t v σ H λσ' H'=>u r σ' H' Q
theorem Jl:wg X [] G8:=.of (by
 intro pins s σ H vs us Q I r h
 obtain⟨e,h⟩:=h
 subst e
 cases r
 exact assignInOrder_nil ⟨σ,H,I,h⟩)
theorem jn {e:Expr} {es:List Expr} {t:TG} {u:x9} (h1:JG X e t) (h2:wg X es u) (hs:(assignEach (e::es) X.env).map (·.2)=assign e X.env::(assignEach es X.env).map (·.2):=by rfl):wg X (e::es) (WV t u):=.of (by
 have h1:=h1.to
 have h2:=h2.to
 intro pins s σ H vs us Q I r h
 obtain⟨v,vr,e1,h⟩:=h
 subst e1
 cases r with
 | cons r rr=>
   rw[hs]
   refine assignInOrder_cons (jf (h1 pins s σ H _ _ _ I r h) λ_ s1 ⟨σ1,H1,I1,q1⟩=>?_)
   exact h2 pins s1 σ1 H1 _ _ Q I1 rr q1)
def G0 (K:PySem.W.Frag) (n:Nat) (t:x9):TG:=λv σ H Q=>∃a xs,v=.ref a/\SqT K H a xs/\xs.length=n/\t xs σ H Q
theorem Zl {es:List Expr} {k:Nat} {t:x9} {n:Nat} (hc:X.calm=true) (h:wg X es t) (hn:(assignEach es X.env).length=n:=by rfl) (hst:(assignEach es X.env).findIdx? (·.1)=none:=by rfl):JG X (.Tuple es k pos) (G0 X.K n t):=.of (by
 have h:=h.to
 intro pins s σ H v u Q I r hw
 obtain⟨a,xs,e1,hq,hl,hw⟩:=hw
 subst e1
 cases r
 obtain⟨its,rv,ht,hz⟩:=I.tuple hq
 refine assign_Tuple_tuple (I.ok.hd hc) ht (by simp [hn,<-hl,rv.length]) hst λh' hx=>?_
 have I1:qx X pins σ H {s with heap:=h'}:=I.kept (t':=s.toks) λb o e=>hx b o (Nat.ne_of_lt (Heap.lt_size e)) e
 exact h pins _ σ H xs _ Q I1 (by simpa using rv) hw)
def wv (te:TE) (g:TG):TS:=λD σ H=>te σ H λx H1=>g x σ H1 D.nx
theorem qw {i:Nat} {x:Str} {e:Expr} {te:TE} {pos':Pos} (hN:X.N.Nodup) (hi:X.N[i]?=some x) (hx:Ro X.env.scope x) (he:JE X e te) (hs:swapsWith e (some (.Name x pos')) pos.line X.env=pure false:=by rfl) (hf:X.fn x=true\/X.env.scope.names.lookup x=some .local:=by first | exact .inl rfl | exact .inr rfl | assumption):JS X (.Assign [.Name x pos'] e pos) (wv te (Qw i)):=.of (by
 have he:=he.to
 intro pins s σ H D I h
 refine wpAny_Assign_Name (jf (he pins s σ H _ I h) λv s1 ⟨y,H1,I1,r1,q1⟩=>?_) hs
 exact Zu I1 hN hi hx r1 (λs2 I2=>⟨_,H1,I2,q1⟩) hf)
def N8 (i:Nat) (te:TE) (ti:NV):TS:=λD σ H=>∃x,σ[i]?=some (some x)/\te σ H λy H1=>ti x y H1 λz H2=>D.nx (σ.set i (some z)) H2
theorem xo {i:Nat} {x:Str} {e:Expr} {te:TE} {op:Operator} {ti:NV} {pos':Pos} (hN:X.N.Nodup) (hi:X.N[i]?=some x) (hx:Ro X.env.scope x) (he:JE X e te) (ho:PIp X op ti) (hf:X.fn x=true\/X.env.scope.names.lookup x=some .local:=by first | exact .inl rfl | exact .inr rfl | assumption):JS X (.AugAssign (.Name x pos') op e pos) (N8 i te ti):=.of (by
 have he:=he.to
 intro pins s σ H D I h
 obtain⟨v,e1,h⟩:=h
 obtain⟨m,hn,hl⟩:=I.loc
 have vis:Rw X.env.scope x:=by rcases hx with k | k;exact .inl k;exact .inr (.inl k)
 obtain⟨u,r,l⟩:=hl i x v hi e1 vis
 refine wpAny_AugAssign_Name ?_
 have go:wpAny (model X.prog X.w) X.A (eval e X.env) (λw s₂=>wpAny (model X.prog X.w) X.A (inplaceOp op u w) (λr s₃=>wpAny (model X.prog X.w) X.A (storeName X.env x r) (λ_=>SP X pins D .next) X.xe s₃) X.xe s₂) X.xe s:=by
   refine jf (he pins s σ H _ I h) λw s1 ⟨y,H1,I1,r1,q1⟩=>?_
   refine jf (ho pins s1 σ H1 v y u w _ I1 r r1 q1) λz s2 ⟨zv,H2,I2,r2,q2⟩=>?_
   exact Zu I2 hN hi hx r2 (λs3 I3=>⟨_,H2,I3,q2⟩) hf
 rcases l with ⟨hk,hm⟩ | ⟨hk,c,hc,hcell⟩
 . exact wpAny_loadName_local I.ok.kind hk hn hm go
 . rcases hk with hk | hk
   . exact wpAny_loadName_cell I.ok.kind hk hc hcell go
   . rcases hx with k | k
     . have:X.env.scope.names.lookup x=some .free:=hk
       rw[k]at this;cases this
     . have:X.env.scope.names.lookup x=some .free:=hk
       rw[k]at this;cases this)
def ipI (f:Int->Int->Int):NV:=λx y H Q=>∃i j,x=.int i/\y=.int j/\Q (.int (f i j)) H
theorem xy:PIp X .Add (ipI λi j=>i+j):=by
 intro pins s σ H x y v u Q I r1 r2 h
 obtain⟨i,j,e1,e2,q⟩:=h
 subst e1;subst e2
 obtain⟨t,rfl⟩:=r1
 obtain⟨t',rfl⟩:=r2
 exact iadd_int ⟨.int _,H,I.tok _,⟨_,rfl⟩,q⟩
end
section
variable {X:Cx} {pos:Pos}
def kL (c:TT) (tb:TS):TS:=λD σ H=>∃W:Nat->St->Hp->Prop,(∃m,W m σ H)/\∀m σ H,W m σ H->
 c σ H λb H1=>if b=true then ∃N:St->Hp->Prop,(∀σ' H',N σ' H'->∃m',m' < m/\W m' σ' H')/\tb {D with nx:=N,ct:=N,bk:=D.nx} σ H1 else D.nx σ H1
theorem JN {c:Expr} {body:List Stmt} {tc:TT} {tb:TS} (hp:PassesOwn (model X.prog X.w) X.A X.env X.xe) (hc:JT X c tc) (hb:Wi X body tb):JS X (.While c body [] pos) (kL tc tb):=.of (by
 have hc:=hc.to
 have hb:=hb.to
 intro pins s σ H D I h
 obtain⟨W,⟨m0,w0⟩,turn⟩:=h
 refine wpAny_While (codeAny_whileLoop (λn s'=>∃σ' H',qx X pins σ' H' s'/\W n σ' H') ?_ m0 ⟨σ,H,I,w0⟩)
 rintro n s1 ⟨σ1,H1,I1,w1⟩
 refine wpAny_passesOwn hp (jf (hc pins s1 σ1 H1 _ I1 (turn n σ1 H1 w1)) λb s2 ⟨H2,I2,q2⟩=>?_)
 cases b with
 | true=>
   obtain⟨N,hN,q2⟩:=q2
   rw[if_pos rfl]
   refine wpAny_passesOwn hp (jf (hb pins s2 σ1 H2 _ I2 q2) λf s3 q3=>?_)
   cases f with
   | next=>
     obtain⟨σ3,H3,I3,n3⟩:=q3
     obtain⟨m',hm,w3⟩:=hN σ3 H3 n3
     exact⟨m',hm,σ3,H3,I3,w3⟩
   | cont=>
     obtain⟨σ3,H3,I3,n3⟩:=q3
     obtain⟨m',hm,w3⟩:=hN σ3 H3 n3
     exact⟨m',hm,σ3,H3,I3,w3⟩
   | brk=>exact q3
   | ret v=>exact q3
 | false=>
   rw[if_neg Bool.false_ne_true]
   exact wpAny_execs_nil ⟨σ1,H2,I2,q2⟩)
end
structure It where
 go:Nat->Hp->Prop
 yld:Nat->Hp->V->Hp->Prop
 stop:Nat->Hp->Prop
def Zq (X:Cx) (pins:List (Addr×Obj)) (H:Hp) (b:Addr):Prop:=
 H b=none/\b≠X.env.locals/\b∉X.fs/\(b∈X.ex\/X.s₀.heap.objs.size<=b)/\(∀x c,X.env.cells.lookup x=some c->c≠b)/\∀p∈X.pn++pins,p.1≠b
theorem qx.fpOk {X:Cx} {pins:List (Addr×Obj)} {σ:St} {H H':Hp} {s:Shared} {b:Addr} (I:qx X pins σ H s) (hb:s.heap.objs.size<=b) (hn:H' b=none):Zq X pins H' b:=by
 refine⟨hn,Nat.ne_of_gt (Nat.lt_of_lt_of_le I.lt hb),I.nofs hb,.inr (Nat.le_trans I.sz hb),λx c e z=>?_,λp hp z=>?_⟩
 . obtain⟨v,q⟩:=I.cell x c e
   exact absurd (Nat.lt_of_lt_of_le q.lt (by rw[z];exact hb)) (Nat.lt_irrefl _)
 . exact absurd (Nat.lt_of_lt_of_le (Heap.lt_size (I.pin p hp).1) (by rw[z];exact hb)) (Nat.lt_irrefl _)
structure W8 (P:Program) (w:World) (K:PySem.W.Frag) (tg:Expr) (J:It) (fp:List Addr) (it:Addr) (tn:Nat->Heap->Prop):Prop where
 mem:it∈fp
 obj:∀i h,tn i h->∀b∈fp,∃o,h.get? b=some o/\∀v,o.data≠.cell v
 keep:∀i h h',tn i h->(∀b∈fp,∀o,h.get? b=some o->h'.get? b=some o)->tn i h'
 item:∀(X:Cx),X.prog=P->X.w=w->X.K=K->X.calm=true->∀(i:Nat) (pins:List (Addr×Obj)) (s:Shared) (σ:St) (H:Hp) (E:Value->Shared->Prop),qx X pins σ H s->(∀b∈fp,Zq X pins H b)->tn i s.heap->J.go i H->
   wpAny (model P w) X.A (pyNext (.ref it)) (λr s1=>∃u,r=some u/\
     wpAny (model P w) X.A (letOwnedTupleGo tg (.ref it) u) (λ_ s2=>∃x H',qx X pins σ H' s2/\qK x u/\J.yld i H x H'/\tn (i+1) s2.heap/\∀b∈fp,H' b=none) E s1) E s
 done:∀(X:Cx),X.prog=P->X.w=w->X.K=K->X.calm=true->∀(i:Nat) (pins:List (Addr×Obj)) (s:Shared) (σ:St) (H:Hp) (E:Value->Shared->Prop),qx X pins σ H s->(∀b∈fp,Zq X pins H b)->tn i s.heap->J.stop i H->
   wpAny (model P w) X.A (pyNext (.ref it)) (λr s1=>r=none/\qx X pins σ H s1) E s
 self:∀(A:Around) (i:Nat) (s:Shared) (Q:Value->Shared->Prop) (E:Value->Shared->Prop),tn i s.heap->Q (.ref it) s->wpAny (model P w) A (pyIter (.ref it)) Q E s
abbrev TI:=St->Hp->(It->Hp->Prop)->Prop
def PIE (X:Cx) (pins:List (Addr×Obj)) (σ:St) (tg:Expr) (R:It->Hp->Prop) (itv:Value) (s2:Shared):Prop:=
 ∃(it:Addr) (fp:List Addr) (tn:Nat->Heap->Prop) (J:It) (H':Hp),itv=.ref it/\qx X pins σ H' s2/\W8 X.prog X.w X.K tg J fp it tn/\tn 0 s2.heap/\(∀b∈fp,Zq X pins H' b)/\R J H'
def PI (X:Cx) (tg iter:Expr) (wi:TI):Prop:=
 ∀(pins:List (Addr×Obj)) (s:Shared) (σ:St) (H:Hp) (R:It->Hp->Prop),qx X pins σ H s->wi σ H R->
   wpAny (model X.prog X.w) X.A (eval iter X.env) (λv s1=>wpAny (model X.prog X.w) X.A (pyIter v) (PIE X pins σ tg R) X.xe s1) X.xe s
@[irreducible] def JI (X:Cx) (tg iter:Expr) (wi:TI):Prop:=PI X tg iter wi
theorem JI.of {X:Cx} {tg iter:Expr} {wi:TI} (h:PI X tg iter wi):JI X tg iter wi:=by unfold JI;exact h
theorem JI.to {X:Cx} {tg iter:Expr} {wi:TI} (h:JI X tg iter wi):PI X tg iter wi:=by unfold JI at h;exact h
theorem WS {M:Model} {A:Around} {E:Value->Shared->Prop} {s:Shared} {tg:Expr} {it:Addr} {u:Value} {o:Obj} {n:String} {vs:Array Value} {Q:Unit->Shared->Prop} (ho:s.heap.get? it=some o) (hc:o.cls=.type n) (hd:o.data=.fields vs)
   (hn:["enumerate","zip","dict_itemiterator","dict_reverseitemiterator","odict_iterator","itertools.zip_longest","itertools.pairwise"].contains n=false) (hQ:Q () s):wpAny M A (letOwnedTupleGo tg (.ref it) u) Q E s:=by
 unfold letOwnedTupleGo
 cases tg<;>first
   | exact wpAny_pure hQ
   | (cases u<;>first
       | exact wpAny_pure hQ
       | (refine wpAny_bind (wpAny_load ho ?_)
          rw[hc,hd]
          show wpAny M A (if (["enumerate","zip","dict_itemiterator","dict_reverseitemiterator","odict_iterator","itertools.zip_longest","itertools.pairwise"].contains n&&vs[0]?==some (rawInt _))=true then _ else _) Q E s
          rw[if_neg (by intro h;rw[hn,Bool.false_and]at h;cases h)]
          exact wpAny_pure hQ))
def Rq (K:PySem.W.Frag) (a:Addr):It:=
 ⟨λi H=>∃xs x,SqL K H a xs/\xs[i]?=some x,λi H x H'=>H'=H/\∀xs,SqL K H a xs->xs[i]?=some x,λi H=>∃xs,SqL K H a xs/\xs.length<=i⟩
def KJ (K:PySem.W.Frag) (a:Addr):It:=
 ⟨λi H=>∃xs x,SqT K H a xs/\xs[i]?=some x,λi H x H'=>H'=H/\∀xs,SqT K H a xs->xs[i]?=some x,λi H=>∃xs,SqT K H a xs/\xs.length<=i⟩
def KL (lo:Int) (n:Nat):It:=⟨λi _=>i < n,λi H x H'=>H'=H/\x=.int (lo+i),λi _=>n<=i⟩
theorem vc {P:Program} {w:World} {K:PySem.W.Frag} {tg:Expr} (a it:Addr):W8 P w K tg (Rq K a) [it] it (λi h=>h.IsListIter it a i) where
 mem:=by simp
 obj:=λi h st b hb=>by
   have e:b=it:=by simpa using hb
   subst e
   obtain⟨o,e,c,d⟩:=st
   exact⟨o,e,λv z=>by rw[d]at z;cases z⟩
 keep:=λi h h' st k=>st.at λo e=>k it (by simp) o e
 item:=by
   intro X hP hw hK hc i pins s σ H E I hf st hg
   subst hP hw hK
   obtain⟨xs,x,hq,hx⟩:=hg
   obtain⟨its,rv,p,hz⟩:=I.list hq
   obtain⟨u,hu,ru⟩:=rv.get hx
   obtain⟨f0,f1,f2,f3,f4,f5⟩:=hf it (by simp)
   refine wpAny_pyNext_list_item st p.isList (x:=u) (by simpa using hu) λh' st' sb=>?_
   have I1:qx X pins σ H {s with heap:=h'}:=I.turned (t':=s.toks) (λb o hb e=>(sb.2 b hb).trans e) f0 f1 f3 f4 f5
   obtain⟨o,e,c,d⟩:=id st'
   exact⟨u,rfl,WS (s:={s with heap:=h'}) e c d (by decide) ⟨x,H,I1,ru,⟨rfl,λys hy=>by rw[I.list_inj hy hq];exact hx⟩,st',λb hb=>(hf b hb).1⟩⟩
 done:=by
   intro X hP hw hK hc i pins s σ H E I hf st hg
   subst hP hw hK
   obtain⟨xs,hq,hx⟩:=hg
   obtain⟨its,rv,p,hz⟩:=I.list hq
   obtain⟨f0,f1,f2,f3,f4,f5⟩:=hf it (by simp)
   have hl:=rv.length
   exact wpAny_pyNext_list_end (I.ok.hd hc) st p.isList (by simp;omega) λh' eb=>⟨rfl,I.turned (t':=s.toks) (λb o hb e=>eb b o hb e) f0 f1 f3 f4 f5⟩
 self:=λ_ _ _ _ _ st h=>wpAny_pyIter_listiter st h
theorem Vi {P:Program} {w:World} {K:PySem.W.Frag} {tg:Expr} (a it:Addr):W8 P w K tg (KJ K a) [it] it (λi h=>h.IsTupleIter it a i) where
 mem:=by simp
 obj:=λi h st b hb=>by
   have e:b=it:=by simpa using hb
   subst e
   obtain⟨o,e,c,d⟩:=st
   exact⟨o,e,λv z=>by rw[d]at z;cases z⟩
 keep:=λi h h' st k=>st.at λo e=>k it (by simp) o e
 item:=by
   intro X hP hw hK hc i pins s σ H E I hf st hg
   subst hP hw hK
   obtain⟨xs,x,hq,hx⟩:=hg
   obtain⟨its,rv,p,hz⟩:=I.tuple hq
   obtain⟨u,hu,ru⟩:=rv.get hx
   obtain⟨f0,f1,f2,f3,f4,f5⟩:=hf it (by simp)
   refine wpAny_pyNext_tuple_item st (show s.heap.IsTuple a its.toArray from p) (x:=u) (by simpa using hu) λh' st' sb=>?_
   have I1:qx X pins σ H {s with heap:=h'}:=I.turned (t':=s.toks) (λb o hb e=>(sb.2 b hb).trans e) f0 f1 f3 f4 f5
   obtain⟨o,e,c,d⟩:=id st'
   exact⟨u,rfl,WS (s:={s with heap:=h'}) e c d (by decide) ⟨x,H,I1,ru,⟨rfl,λys hy=>by rw[I.tuple_inj hy hq];exact hx⟩,st',λb hb=>(hf b hb).1⟩⟩
 done:=by
   intro X hP hw hK hc i pins s σ H E I hf st hg
   subst hP hw hK
   obtain⟨xs,hq,hx⟩:=hg
   obtain⟨its,rv,p,hz⟩:=I.tuple hq
   obtain⟨f0,f1,f2,f3,f4,f5⟩:=hf it (by simp)
   have hl:=rv.length
   exact wpAny_pyNext_tuple_end (I.ok.hd hc) st (show s.heap.IsTuple a its.toArray from p) (by simp;omega) λh' eb=>⟨rfl,I.turned (t':=s.toks) (λb o hb e=>eb b o hb e) f0 f1 f3 f4 f5⟩
 self:=λ_ _ _ _ _ st h=>wpAny_pyIter_tupleiter st h
theorem Vj {P:Program} {w:World} {K:PySem.W.Frag} {tg:Expr} (it:Addr) (lo:Int) (n:Nat):W8 P w K tg (KL lo n) [it] it (λi h=>IsRangeIter h it (lo+(i:Nat)*1) ((n:Int) - (i:Nat)) 1) where
 mem:=by simp
 obj:=λi h st b hb=>by
   have e:b=it:=by simpa using hb
   subst e
   exact⟨_,st,λv z=>by
     have z':Data.fields _=Data.cell v:=z
     cases z'⟩
 keep:=λi h h' st k=>k it (by simp) _ st
 item:=by
   intro X hP hw hK hc i pins s σ H E I hf st hg
   subst hP hw hK
   obtain⟨f0,f1,f2,f3,f4,f5⟩:=hf it (by simp)
   have W:=Walks.range (prog:=X.prog) (w:=X.w) (I.ok.hd hc) it lo 1 n
   refine W.item i s _ _ hg st λv h' tk hv st' kk=>?_
   obtain⟨t,rfl⟩:=hv
   have I1:qx X pins σ H {s with heap:=h',toks:=tk}:=I.turned (λb o hb e=>kk b o (by simpa using hb) e) f0 f1 f3 f4 f5
   refine⟨_,rfl,WS (s:={s with heap:=h',toks:=tk}) (n:="range_iterator") st' rfl rfl (by decide) ⟨.int (lo+i),H,I1,⟨t,?_⟩,⟨rfl,rfl⟩,st',λb hb=>(hf b hb).1⟩⟩
   rw[Int.mul_one]
 done:=by
   intro X hP hw hK hc i pins s σ H E I hf st hg
   subst hP hw hK
   obtain⟨f0,f1,f2,f3,f4,f5⟩:=hf it (by simp)
   exact wpAny_pyNext_range_end (I.ok.hd hc) st (by have:n<=i:=hg;omega) λh' eb=>⟨rfl,I.turned (t':=s.toks) (λb o hb e=>eb b o hb e) f0 f1 f3 f4 f5⟩
 self:=λ_ _ _ _ _ st h=>wpAny_pyIter_rangeiter st h
end L2
namespace L2
open PySem PySem.Spec PyProof.Rows
section
variable {X:Cx} {tg:Expr}
def Nw (K:PySem.W.Frag) (tl:TE):TI:=λσ H R=>tl σ H λx H1=>∃a,x=.ref a/\(∃xs,SqL K H1 a xs)/\R (Rq K a) H1
def MD (K:PySem.W.Frag) (tl:TE):TI:=λσ H R=>tl σ H λx H1=>∃a,x=.ref a/\(∃xs,SqT K H1 a xs)/\R (KJ K a) H1
theorem qO {l:Expr} {tl:TE} (hl:JE X l tl):JI X tg l (Nw X.K tl):=.of (by
 have hl:=hl.to
 intro pins s σ H R I h
 refine jf (hl pins s σ H _ I h) λv s1 ⟨x,H1,I1,r1,q1⟩=>?_
 obtain⟨a,e,⟨xs,hq⟩,q⟩:=q1
 subst e
 cases r1
 obtain⟨its,rv,p,hz⟩:=I1.list hq
 refine wpAny_pyIter_list p.isList ?_
 refine⟨s1.heap.objs.size,[s1.heap.objs.size],_,_,H1,rfl,I1.kept (t':=s1.toks) λb o e=>Heap.get?_push_of_some _ e,vc a _,⟨_,Heap.get?_push_size _ rfl,rfl,rfl⟩,λb hb=>?_,q⟩
 have e:b=s1.heap.objs.size:=by simpa using hb
 subst e
 exact I1.fpOk (Nat.le_refl _) (I1.hok.fresh (Nat.le_refl _)))
theorem Zj {l:Expr} {tl:TE} (hl:JE X l tl):JI X tg l (MD X.K tl):=.of (by
 have hl:=hl.to
 intro pins s σ H R I h
 refine jf (hl pins s σ H _ I h) λv s1 ⟨x,H1,I1,r1,q1⟩=>?_
 obtain⟨a,e,⟨xs,hq⟩,q⟩:=q1
 subst e
 cases r1
 obtain⟨its,rv,p,hz⟩:=I1.tuple hq
 refine wpAny_pyIter_tuple (show s1.heap.IsTuple a its.toArray from p) ?_
 refine⟨s1.heap.objs.size,[s1.heap.objs.size],_,_,H1,rfl,I1.kept (t':=s1.toks) λb o e=>Heap.get?_push_of_some _ e,Vi a _,⟨_,Heap.get?_push_size _ rfl,rfl,rfl⟩,λb hb=>?_,q⟩
 have e:b=s1.heap.objs.size:=by simpa using hb
 subst e
 exact I1.fpOk (Nat.le_refl _) (I1.hok.fresh (Nat.le_refl _)))
theorem yr {pins:List (Addr×Obj)} {σ:St} {H:Hp} {s:Shared} {R:It->Hp->Prop} {E:Value->Shared->Prop} {lo hi:Int} {t u v:Tok} {tk:Nat} (I:qx X pins σ H s) (h1:-(2^62)<=lo) (h2:lo < 2^62) (h3:-(2^62)<=hi) (h4:hi < 2^62)
   (q:R (KL lo (hi - lo).toNat) H):wpAny (model X.prog X.w) X.A (pyIter (.ref s.heap.objs.size)) (PIE X pins σ tg R) E {s with heap:=s.heap.push {cls:=.type "range",data:=.fields #[.int lo t,.int hi u,.int 1 v]},toks:=tk}:=by
 refine wpAny_pyIter_range (IsRange.new ..) (small_one h1 h2 h3 h4) ?_
 have I1:qx X pins σ H {s with heap:=s.heap.push {cls:=.type "range",data:=.fields #[.int lo t,.int hi u,.int 1 v]},toks:=tk}:=I.kept λb o e=>Heap.get?_push_of_some _ e
 refine⟨(s.heap.push {cls:=.type "range",data:=.fields #[.int lo t,.int hi u,.int 1 v]}).objs.size,[(s.heap.push {cls:=.type "range",data:=.fields #[.int lo t,.int hi u,.int 1 v]}).objs.size],_,_,H,rfl,
   I1.kept (t':=tk) λb o e=>Heap.get?_push_of_some _ e,Vj _ lo (hi - lo).toNat,?_,λb hb=>?_,q⟩
 . have e1:lo+((0:Nat):Int)*1=lo:=by simp
   have e2:(((hi - lo).toNat:Nat):Int) - ((0:Nat):Int)=Builtin.Range.rangeSize lo hi 1:=by rw[rangeSize_one];split<;>omega
   show IsRangeIter _ _ (lo+((0:Nat):Int)*1) ((((hi - lo).toNat:Nat):Int) - ((0:Nat):Int)) 1
   rw[e1,e2]
   exact Heap.get?_push_size _ rfl
 . have e:b=(s.heap.push {cls:=.type "range",data:=.fields #[.int lo t,.int hi u,.int 1 v]}).objs.size:=by simpa using hb
   subst e
   exact I1.fpOk (Nat.le_refl _) (I1.hok.fresh (Nat.le_refl _))
def Nv (ta:TA):TI:=λσ H R=>ta σ H λvs H1=>∃j:Int,vs=[.int j]/\-(2^62)<=j/\j < 2^62/\R (KL 0 j.toNat) H1
theorem ju {a:Expr} {ta:TA} {p pos:Pos} (hg:Gl X "range") (hm:X.mg "range"=none) (ha:JA X [a] ta) (hs:starEach [a] X.env=[(false,eval a X.env)]:=by rfl):JI X tg (.Call (.Name "range" p) [a] [] pos) (Nv ta):=.of (by
 have ha:=ha.to
 intro pins s σ H R I h
 refine Call_ (QW I hg hm boot_range (PyProof.Rows.callWith_type1 (jf (ha pos pins s σ H _ I h) λus s1 ⟨vs,H1,I1,r1,q1⟩=>?_) hs rfl))
 obtain⟨j,e,q1,q2,q⟩:=q1
 subst e
 cases r1 with
 | cons r rr=>
   cases rr
   obtain⟨t,rfl⟩:=r
   exact call_range_1 (yr I1 (by omega) (by omega) q1 q2 (by simpa using q)))
def N5 (wi:TI) (g:TG) (tb:TS):TS:=λD σ H=>wi σ H λJ H1=>∃W:Nat->Nat->St->Hp->Prop,(∃m,W 0 m σ H1)/\∀i m σ H,W i m σ H->
 (J.stop i H/\D.nx σ H)\/(J.go i H/\∃N:St->Hp->Prop,(∀σ' H',N σ' H'->∃m',m' < m/\W (i+1) m' σ' H')/\∀x H',J.yld i H x H'->g x σ H' λσ2 H2=>tb {D with nx:=N,ct:=N,bk:=D.nx} σ2 H2)
def Yg (fp:List Addr) (h:Heap):List (Addr×Obj):=fp.filterMap λb=>(h.get? b).map λo=>(b,o)
theorem Jk {fp:List Addr} {h:Heap} {b:Addr} {o:Obj} (hb:b∈fp) (e:h.get? b=some o):(b,o)∈Yg fp h:=List.mem_filterMap.mpr ⟨b,hb,by rw[e];rfl⟩
theorem vN {fp:List Addr} {h:Heap} {p:Addr×Obj} (hp:p∈Yg fp h):p.1∈fp/\h.get? p.1=some p.2:=by
 obtain⟨b,hb,e⟩:=List.mem_filterMap.mp hp
 cases q:h.get? b with
 | none=>rw[q]at e;cases e
 | some o=>
   rw[q]at e
   have e':(b,o)=p:=Option.some.inj e
   subst e'
   exact⟨hb,q⟩
theorem qx.pinned {pins:List (Addr×Obj)} {σ:St} {H:Hp} {s:Shared} {fp:List Addr} (I:qx X pins σ H s) (hf:∀b∈fp,Zq X pins H b) (ho:∀b∈fp,∃o,s.heap.get? b=some o/\∀v,o.data≠.cell v):qx X (pins++Yg fp s.heap) σ H s:=
 I.pins_of λp hp=>(List.mem_append.mp hp).elim (λz=>I.pin p (List.mem_append_right _ z)) λz=>by
   obtain⟨hb,e⟩:=vN z
   obtain⟨f0,f1,f2,_⟩:=hf p.1 hb
   obtain⟨o,e',d⟩:=ho p.1 hb
   rw[e]at e';cases e'
   exact⟨e,f0,f1,f2,d⟩
theorem qx.unpinned {pins pl:List (Addr×Obj)} {σ:St} {H:Hp} {s:Shared} (I:qx X (pins++pl) σ H s):qx X pins σ H s:=I.pins_of λp hp=>I.pin p (List.mem_append_right _ (List.mem_append_left _ hp))
theorem qT {iter:Expr} {body:List Stmt} {wi:TI} {g:TG} {tb:TS} {pos:Pos} (hp:PassesOwn (model X.prog X.w) X.A X.env X.xe) (hc:X.calm=true) (hi:JI X tg iter wi) (hg:JG X tg g) (hb:Wi X body tb) (hs:∀x,foldedSetIterable iter X.env x=pure x:=by intro _;rfl):JS X (.For tg iter body [] pos) (N5 wi g tb):=.of (by
 have hi:=hi.to
 have hg:=hg.to
 have hb:=hb.to
 intro pins s σ H D I h
 refine wpAny_For (jf (hi pins s σ H _ I h) λv s1 h1=>jf h1 λitv s2 h2=>?_) hs
 obtain⟨it,fp,tn,J,H2,e,I2,T,st2,f2,W,⟨m0,w0⟩,turn⟩:=h2
 subst e
 have stat:∀{H':Hp},(∀b∈fp,H' b=none)->∀b∈fp,Zq X pins H' b:=λhn b hb=>⟨hn b hb,(f2 b hb).2⟩
 refine codeAny_forLoop_any (λn s'=>∃i σ' H',qx X pins σ' H' s'/\tn i s'.heap/\(∀b∈fp,H' b=none)/\W i n σ' H') ?_ m0 ⟨0,σ,H2,I2,st2,λb hb=>(f2 b hb).1,w0⟩
 rintro n s3 ⟨i,σ3,H3,I3,st3,fr3,w3⟩
 rcases turn i n σ3 H3 w3 with ⟨stop,qn⟩ | ⟨go,N,hN,step⟩
 . refine wpAny_passesOwn hp (jf (T.done X rfl rfl rfl hc i pins s3 σ3 H3 X.xe I3 (stat fr3) st3 stop) λr s4 ⟨hr,I4⟩=>?_)
   subst hr
   exact wpAny_execs_nil ⟨σ3,H3,I4,qn⟩
 . refine wpAny_passesOwn hp (jf (T.item X rfl rfl rfl hc i pins s3 σ3 H3 X.xe I3 (stat fr3) st3 go) λr s4 ⟨u,hr,h4⟩=>?_)
   subst hr
   refine wpAny_passesOwn hp (jf h4 λ_ s5 ⟨x,H5,I5,r5,y5,st5,fr5⟩=>?_)
   have I5':=I5.pinned (stat fr5) (T.obj _ _ st5)
   refine wpAny_passesOwn hp (jf (hg _ s5 σ3 H5 x u _ I5' r5 (step x H5 y5)) λ_ s6 ⟨σ6,H6,I6,q6⟩=>?_)
   refine wpAny_passesOwn hp (jf (hb _ s6 σ6 H6 _ I6 q6) λf s7 q7=>?_)
   have again:∀{σ7:St} {H7:Hp},qx X (pins++Yg fp s5.heap) σ7 H7 s7->N σ7 H7->∃m,m < n/\∃i σ' H',qx X pins σ' H' s7/\tn i s7.heap/\(∀b∈fp,H' b=none)/\W i m σ' H':=λ{σ7 H7} I7 n7=>by
     obtain⟨m',hm,w7⟩:=hN σ7 H7 n7
     refine⟨m',hm,i+1,σ7,H7,I7.unpinned,T.keep _ _ _ st5 λb hb o e=>(I7.pin (b,o) (List.mem_append_right _ (List.mem_append_right _ (Jk hb e)))).1,λb hb=>?_,w7⟩
     obtain⟨o,e,d⟩:=T.obj _ _ st5 b hb
     exact(I7.pin (b,o) (List.mem_append_right _ (List.mem_append_right _ (Jk hb e)))).2.1
   cases f with
   | next=>obtain⟨σ7,H7,I7,n7⟩:=q7;exact again I7 n7
   | cont=>obtain⟨σ7,H7,I7,n7⟩:=q7;exact again I7 n7
   | brk=>obtain⟨σ7,H7,I7,q7⟩:=q7;exact⟨σ7,H7,I7.unpinned,q7⟩
   | ret v=>obtain⟨x7,σ7,H7,I7,r7,q7⟩:=q7;exact⟨x7,σ7,H7,I7.unpinned,r7,q7⟩)
end
theorem jo {K:PySem.W.Frag} {a:Addr} {xs:List V} {g:TG} {tb:TS} {D:Qu} {σ:St} {H:Hp} (Pv:Nat->St->Hp->Prop) (h0:Pv 0 σ H) (hl:∀i σ H,i<=xs.length->Pv i σ H->SqL K H a xs)
   (hs:∀i x σ H,xs[i]?=some x->Pv i σ H->g x σ H λσ2 H2=>tb {D with nx:=Pv (i+1),ct:=Pv (i+1),bk:=D.nx} σ2 H2) (hd:∀σ H,Pv xs.length σ H->D.nx σ H):
   ∃W:Nat->Nat->St->Hp->Prop,(∃m,W 0 m σ H)/\∀i m σ H,W i m σ H->
    ((Rq K a).stop i H/\D.nx σ H)\/((Rq K a).go i H/\∃N:St->Hp->Prop,(∀σ' H',N σ' H'->∃m',m' < m/\W (i+1) m' σ' H')/\∀x H',(Rq K a).yld i H x H'->g x σ H' λσ2 H2=>tb {D with nx:=N,ct:=N,bk:=D.nx} σ2 H2):=by
 refine⟨λi m σ H=>m=xs.length - i/\i<=xs.length/\Pv i σ H,⟨xs.length,by simp,Nat.zero_le _,h0⟩,?_⟩
 rintro i m σ H ⟨rfl,hi,p⟩
 have q:=hl i σ H hi p
 by_cases hlt:i < xs.length
 . refine .inr ⟨⟨xs,xs[i],q,by simp [hlt]⟩,Pv (i+1),λσ' H' p'=>⟨xs.length - (i+1),by omega,rfl,hlt,p'⟩,λx H' y=>?_⟩
   obtain⟨e,y⟩:=y
   subst e
   exact hs i x σ _ (y xs q) p
 . have e:i=xs.length:=by omega
   subst e
   exact .inl ⟨⟨xs,q,Nat.le_refl _⟩,hd σ H p⟩
theorem zL {K:PySem.W.Frag} {a:Addr} {xs:List V} {g:TG} {tb:TS} {D:Qu} {σ:St} {H:Hp} (Pv:Nat->St->Hp->Prop) (h0:Pv 0 σ H) (hl:∀i σ H,i<=xs.length->Pv i σ H->SqT K H a xs)
   (hs:∀i x σ H,xs[i]?=some x->Pv i σ H->g x σ H λσ2 H2=>tb {D with nx:=Pv (i+1),ct:=Pv (i+1),bk:=D.nx} σ2 H2) (hd:∀σ H,Pv xs.length σ H->D.nx σ H):
   ∃W:Nat->Nat->St->Hp->Prop,(∃m,W 0 m σ H)/\∀i m σ H,W i m σ H->
    ((KJ K a).stop i H/\D.nx σ H)\/((KJ K a).go i H/\∃N:St->Hp->Prop,(∀σ' H',N σ' H'->∃m',m' < m/\W (i+1) m' σ' H')/\∀x H',(KJ K a).yld i H x H'->g x σ H' λσ2 H2=>tb {D with nx:=N,ct:=N,bk:=D.nx} σ2 H2):=by
 refine⟨λi m σ H=>m=xs.length - i/\i<=xs.length/\Pv i σ H,⟨xs.length,by simp,Nat.zero_le _,h0⟩,?_⟩
 rintro i m σ H ⟨rfl,hi,p⟩
 have q:=hl i σ H hi p
 by_cases hlt:i < xs.length
 . refine .inr ⟨⟨xs,xs[i],q,by simp [hlt]⟩,Pv (i+1),λσ' H' p'=>⟨xs.length - (i+1),by omega,rfl,hlt,p'⟩,λx H' y=>?_⟩
   obtain⟨e,y⟩:=y
   subst e
   exact hs i x σ _ (y xs q) p
 . have e:i=xs.length:=by omega
   subst e
   exact .inl ⟨⟨xs,q,Nat.le_refl _⟩,hd σ H p⟩
theorem QD {lo:Int} {n:Nat} {g:TG} {tb:TS} {D:Qu} {σ:St} {H:Hp} (Pv:Nat->St->Hp->Prop) (h0:Pv 0 σ H)
   (hs:∀i σ H,i < n->Pv i σ H->g (.int (lo+i)) σ H λσ2 H2=>tb {D with nx:=Pv (i+1),ct:=Pv (i+1),bk:=D.nx} σ2 H2) (hd:∀σ H,Pv n σ H->D.nx σ H):
   ∃W:Nat->Nat->St->Hp->Prop,(∃m,W 0 m σ H)/\∀i m σ H,W i m σ H->
    ((KL lo n).stop i H/\D.nx σ H)\/((KL lo n).go i H/\∃N:St->Hp->Prop,(∀σ' H',N σ' H'->∃m',m' < m/\W (i+1) m' σ' H')/\∀x H',(KL lo n).yld i H x H'->g x σ H' λσ2 H2=>tb {D with nx:=N,ct:=N,bk:=D.nx} σ2 H2):=by
 refine⟨λi m σ H=>m=n - i/\i<=n/\Pv i σ H,⟨n,by simp,Nat.zero_le _,h0⟩,?_⟩
 rintro i m σ H ⟨rfl,hi,p⟩
 by_cases hlt:i < n
 . refine .inr ⟨hlt,Pv (i+1),λσ' H' p'=>⟨n - (i+1),by omega,rfl,hlt,p'⟩,λx H' y=>?_⟩
   obtain⟨e,y⟩:=y
   subst e y
   exact hs i σ _ hlt p
 . have e:i=n:=by omega
   subst e
   exact .inl ⟨Nat.le_refl _,hd σ H p⟩
theorem Jw {c:TT} {tb:TS} {D:Qu} {σ:St} {H:Hp} (Pv:St->Hp->Prop) (μ:St->Hp->Nat) (h0:Pv σ H)
   (hs:∀σ H,Pv σ H->c σ H λb H1=>if b=true then tb {D with nx:=λσ' H'=>Pv σ' H'/\μ σ' H' < μ σ H,ct:=λσ' H'=>Pv σ' H'/\μ σ' H' < μ σ H,bk:=D.nx} σ H1 else D.nx σ H1)
   (mono:∀σ H Q Q',(∀b H1,Q b H1->Q' b H1)->c σ H Q->c σ H Q'):kL c tb D σ H:=by
 refine⟨λm σ H=>m=μ σ H/\Pv σ H,⟨_,rfl,h0⟩,?_⟩
 rintro m σ H ⟨rfl,p⟩
 refine mono σ H _ _ (λb H1 q=>?_) (hs σ H p)
 cases b with
 | true=>exact⟨_,λσ' H' ⟨p',l⟩=>⟨_,l,rfl,p'⟩,q⟩
 | false=>exact q
end L2
namespace L2
open PySem PySem.Spec PyProof.Rows
abbrev R2:=V->V->Hp->VK->Prop
def Jv (X:Cx) (f:Value->Value->Sem Value) (r:R2):Prop:=
 ∀(pins:List (Addr×Obj)) (s:Shared) (σ:St) (H:Hp) (x y:V) (v u:Value) (Q:VK),qx X pins σ H s->qK x v->qK y u->r x y H Q->
   wpAny (model X.prog X.w) X.A (f v u) (EP X pins σ Q) X.xe s
def MJ (X:Cx) (f:Value->Sem Value) (r:V->Hp->VK->Prop):Prop:=
 ∀(pins:List (Addr×Obj)) (s:Shared) (σ:St) (H:Hp) (x:V) (v:Value) (Q:VK),qx X pins σ H s->qK x v->r x H Q->
   wpAny (model X.prog X.w) X.A (f v) (EP X pins σ Q) X.xe s
def Qe (X:Cx) (f:Value) (r:List V->Hp->VK->Prop):Prop:=
 ∀(pins:List (Addr×Obj)) (s:Shared) (σ:St) (H:Hp) (xs:List V) (us:List Value) (Q:VK),qx X pins σ H s->qF xs us->r xs H Q->
   wpAny (model X.prog X.w) X.A (call f us) (EP X pins σ Q) X.xe s
def Xv (r:R2) (ta tb:TE):TE:=λσ H Q=>ta σ H λx H1=>tb σ H1 λy H2=>r x y H2 Q
def tUn (r:V->Hp->VK->Prop) (ta:TE):TE:=λσ H Q=>ta σ H λx H1=>r x H1 Q
def rI (C:Int->Int->Prop) (g:Int->Int->V):R2:=λx y H Q=>∃i j,x=.int i/\y=.int j/\C i j/\Q (g i j) H
def yx (g:Int->Int->V):R2:=λx y H Q=>∃i j,x=.int i/\y=.int j/\Q (g i j) H
def rU (g:Int->V):V->Hp->VK->Prop:=λx H Q=>∃i,x=.int i/\Q (g i) H
section
variable {X:Cx} {a b c:Expr} {ta tb tc:TE} {pos:Pos}
theorem Ri (ha:PE X a ta) (hb:PE X b tb) {pins:List (Addr×Obj)} {s:Shared} {σ:St} {H:Hp} {R:V->V->Hp->Prop} (I:qx X pins σ H s)
   (h:ta σ H λx H1=>tb σ H1 λy H2=>R x y H2) {Q:Value->Shared->Prop} {f:Value->Value->Sem Value}
   (hf:∀v u s2 x y H2,qx X pins σ H2 s2->qK x v->qK y u->R x y H2->wpAny (model X.prog X.w) X.A (f v u) Q X.xe s2):
   wpAny (model X.prog X.w) X.A (eval a X.env) (λv s₁=>wpAny (model X.prog X.w) X.A (eval b X.env) (λu s₂=>wpAny (model X.prog X.w) X.A (f v u) Q X.xe s₂) X.xe s₁) X.xe s:=by
 refine jf (ha pins s σ H _ I h) λv s1 ⟨x,H1,I1,r1,q1⟩=>?_
 refine jf (hb pins s1 σ H1 _ I1 q1) λu s2 ⟨y,H2,I2,r2,q2⟩=>?_
 exact hf v u s2 x y H2 I2 r1 r2 q2
theorem qI {op:Operator} {r:R2} (ho:Jv X (binaryOp op) r) (ha:JE X a ta) (hb:JE X b tb):JE X (.BinOp a op b pos) (Xv r ta tb):=.of (by
 have ha:=ha.to
 have hb:=hb.to
 intro pins s σ H Q I h
 exact wpAny_BinOp (Ri ha hb I h λv u s2 x y H2 I2 rx ry q=>ho pins s2 σ H2 x y v u Q I2 rx ry q))
theorem Nt {op:UnaryOp} {r:V->Hp->VK->Prop} (ho:MJ X (unaryOp op) r) (ha:JE X a ta):JE X (.UnaryOp op a pos) (tUn r ta):=.of (by
 have ha:=ha.to
 intro pins s σ H Q I h
 exact UnaryOp_ (jf (ha pins s σ H _ I h) λv s1 ⟨x,H1,I1,r1,q1⟩=>ho pins s1 σ H1 x v Q I1 r1 q1))
theorem Gc {f:Value->Value->Sem Value} {C:Int->Int->Prop} {g:Int->Int->Int}
   (rule:∀(i j:Int) (t u:Tok) (s:Shared) (Q:Value->Shared->Prop) (E:Value->Shared->Prop),C i j->Q (.int (g i j) s.toks) {s with toks:=s.toks+1}->wpAny (model X.prog X.w) X.A (f (.int i t) (.int j u)) Q E s):
   Jv X f (rI C λi j=>.int (g i j)):=by
 intro pins s σ H x y v u Q I rx ry h
 obtain⟨i,j,rfl,rfl,hc,q⟩:=h
 obtain⟨t,rfl⟩:=rx
 obtain⟨t',rfl⟩:=ry
 exact rule i j t t' s _ _ hc ⟨.int (g i j),H,I.tok _,⟨_,rfl⟩,q⟩
theorem ud {f:Value->Value->Sem Value} {g:Int->Int->Int}
   (rule:∀(i j:Int) (t u:Tok) (s:Shared) (Q:Value->Shared->Prop) (E:Value->Shared->Prop),Q (.int (g i j) s.toks) {s with toks:=s.toks+1}->wpAny (model X.prog X.w) X.A (f (.int i t) (.int j u)) Q E s):
   Jv X f (yx λi j=>.int (g i j)):=by
 intro pins s σ H x y v u Q I rx ry h
 obtain⟨i,j,rfl,rfl,q⟩:=h
 obtain⟨t,rfl⟩:=rx
 obtain⟨t',rfl⟩:=ry
 exact rule i j t t' s _ _ ⟨.int (g i j),H,I.tok _,⟨_,rfl⟩,q⟩
theorem ue {f:Value->Value->Sem Value} {g:Int->Int->Bool}
   (rule:∀(i j:Int) (t u:Tok) (s:Shared) (Q:Value->Shared->Prop) (E:Value->Shared->Prop),Q (.bool (g i j)) s->wpAny (model X.prog X.w) X.A (f (.int i t) (.int j u)) Q E s):
   Jv X f (yx λi j=>.bl (g i j)):=by
 intro pins s σ H x y v u Q I rx ry h
 obtain⟨i,j,rfl,rfl,q⟩:=h
 obtain⟨t,rfl⟩:=rx
 obtain⟨t',rfl⟩:=ry
 exact rule i j t t' s _ _ ⟨.bl (g i j),H,I,rfl,q⟩
def MO (i j:Int):Prop:=0 < j/\j < 1073741824
def NM (i j:Int):Prop:=0<=j/\j<=1000000/\i.natAbs < 2^64
def Ru (i j:Int):Prop:=(-(2^64) < i/\i < 2^64)\/(-(2^64) < j/\j < 2^64)
theorem Ru.ok {i j:Int} (h:Ru i j):IntMulOk i j:=by
 rcases h with ⟨h1,h2⟩ | ⟨h1,h2⟩
 . exact .of_left (intBits_le_64 h1 h2)
 . exact .of_right (intBits_le_64 h1 h2)
theorem Vh (k:Nat):(0:Int)<=2^k:=by
 rw[two_pow_cast]
 exact Int.natCast_nonneg _
theorem Qr:Jv X (binaryOp .Add) (yx λi j=>.int (i+j)):=ud λ_ _ _ _ _ _ _ q=>add_int q
theorem yH:Jv X (binaryOp .Sub) (yx λi j=>.int (i - j)):=ud λ_ _ _ _ _ _ _ q=>sub_int q
theorem Ji:Jv X (binaryOp .Mult) (rI Ru λi j=>.int (i*j)):=Gc λ_ _ _ _ _ _ _ hc q=>mul_int q hc.ok
theorem ua:Jv X (binaryOp .FloorDiv) (rI MO λi j=>.int (i / j)):=Gc λi j _ _ _ _ _ hc q=>by
 have h1:(0:Int) < j:=hc.1
 have h2:j < 1073741824:=hc.2
 exact floordiv_int (by omega) (by rw[Int.fdiv_eq_ediv_of_nonneg i (by omega)];exact q) (.inl (PyProof.noPylong_small (by omega)))
theorem Jj:Jv X (binaryOp .Mod) (rI (λ_ j=>0 < j) λi j=>.int (i % j)):=Gc λi j _ _ _ _ _ hc q=>by
 have h1:(0:Int) < j:=hc
 exact mod_int' (by omega) (by rw[Int.fmod_eq_emod_of_nonneg i (by omega)];exact q)
theorem Gb:Jv X (binaryOp .Pow) (rI NM λi j=>.int (i^j.toNat)):=Gc λ_ _ _ _ _ _ _ hc q=>pow_int_small hc.1 hc.2.1 hc.2.2 q
theorem yI:Jv X (binaryOp .LShift) (rI NM λi j=>.int (i*2^j.toNat)):=Gc λ_ _ _ _ _ _ _ hc q=>lshift_int_small hc.1 hc.2.1 hc.2.2 q
theorem VB:Jv X (binaryOp .RShift) (rI (λ_ j=>0<=j) λi j=>.int (i / 2^j.toNat)):=Gc λi j _ _ _ _ _ hc q=>
 rshift_int hc (by rw[Int.fdiv_eq_ediv_of_nonneg i (Vh _)];exact q)
theorem VC:Jv X (binaryOp .BitAnd) (yx λi j=>.int (Builtin.bitAnd i j)):=ud λ_ _ _ _ _ _ _ q=>and_int q
theorem Kv:Jv X (binaryOp .BitOr) (yx λi j=>.int (Builtin.bitOr i j)):=ud λ_ _ _ _ _ _ _ q=>or_int q
theorem unI {f:Value->Sem Value} {g:Int->Int}
   (rule:∀(i:Int) (t:Tok) (s:Shared) (Q:Value->Shared->Prop) (E:Value->Shared->Prop),Q (.int (g i) s.toks) {s with toks:=s.toks+1}->wpAny (model X.prog X.w) X.A (f (.int i t)) Q E s):
   MJ X f (rU λi=>.int (g i)):=by
 intro pins s σ H x v Q I rx h
 obtain⟨i,rfl,q⟩:=h
 obtain⟨t,rfl⟩:=rx
 exact rule i t s _ _ ⟨.int (g i),H,I.tok _,⟨_,rfl⟩,q⟩
theorem KM:MJ X (unaryOp .USub) (rU λi=>.int (-i)):=unI λ_ _ _ _ _ q=>neg_int q
end
def RQ:V->V->Bool
 | .non,.non=>true | .non,.int _=>true | .int _,.non=>true | .non,.bl _=>true | .bl _,.non=>true | .non,.str _=>true | .str _,.non=>true
 | .int _,.int _=>true | .bl _,.bl _=>true | .str _,.str _=>true | .byt _,.byt _=>true
 | .int _,.str _=>true | .str _,.int _=>true | .bl _,.str _=>true | .str _,.bl _=>true
 | _,_=>false
def rEq:R2:=λx y H Q=>RQ x y=true/\Q (.bl (decide (x=y))) H
def rNe:R2:=λx y H Q=>RQ x y=true/\Q (.bl (!decide (x=y))) H
theorem UV {i j:Int}:decide (V.int i=V.int j)=(i==j):=by
 rw[Bool.eq_iff_iff]
 simp
theorem xT {i j:Bool}:decide (V.bl i=V.bl j)=(i==j):=by
 rw[Bool.eq_iff_iff]
 simp
theorem UU {i j:Str}:decide (V.str i=V.str j)=(i==j):=by
 rw[Bool.eq_iff_iff]
 simp
theorem UW {i j:Array UInt8}:decide (V.byt i=V.byt j)=(i.toList==j.toList):=by
 rw[Bool.eq_iff_iff]
 cases i
 cases j
 simp
section
variable {X:Cx} {a b c:Expr} {ta tb tc:TE} {pos:Pos}
theorem qP {pins:List (Addr×Obj)} {σ:St} {H:Hp} {s:Shared} {Q:VK} {k k':Bool} (I:qx X pins σ H s) (q:Q (.bl k) H) (e:k=k'):EP X pins σ Q (.bool k') s:=by
 subst e
 exact⟨.bl k,H,I,rfl,q⟩
theorem j7:Jv X (compareOp .Eq) rEq:=by
 intro pins s σ H x y v u Q I rx ry h
 obtain⟨hs,q⟩:=h
 cases x with
 | non=>
   cases rx
   cases y with
   | non=>cases ry;exact PySem.EqNone.eq_none_none (qP I q (by simp))
   | bl j=>cases ry;exact PySem.EqNone.eq_none_bool (qP I q (by simp))
   | int j=>obtain⟨t',rfl⟩:=ry;exact PySem.EqNone.eq_none_int (qP I q (by simp))
   | str j=>obtain⟨t',rfl⟩:=ry;exact PySem.EqNone.eq_none_str (qP I q (by simp))
   | _=>exact absurd (show false=true from hs) Bool.false_ne_true
 | bl i=>
   cases rx
   cases y with
   | non=>cases ry;exact PySem.EqNone.eq_bool_none (qP I q (by simp))
   | bl j=>cases ry;exact eq_bool (qP I q xT)
   | str j=>obtain⟨t',rfl⟩:=ry;exact PySem.EqMixed.eq_bool_str (qP I q (by simp))
   | _=>exact absurd (show false=true from hs) Bool.false_ne_true
 | int i=>
   obtain⟨t,rfl⟩:=rx
   cases y with
   | non=>cases ry;exact PySem.EqNone.eq_int_none (qP I q (by simp))
   | int j=>obtain⟨t',rfl⟩:=ry;exact eq_int (qP I q UV)
   | str j=>obtain⟨t',rfl⟩:=ry;exact PySem.EqMixed.eq_int_str (qP I q (by simp))
   | _=>exact absurd (show false=true from hs) Bool.false_ne_true
 | str i=>
   obtain⟨t,rfl⟩:=rx
   cases y with
   | non=>cases ry;exact PySem.EqNone.eq_str_none (qP I q (by simp))
   | bl j=>cases ry;exact PySem.EqMixed.eq_str_bool (qP I q (by simp))
   | int j=>obtain⟨t',rfl⟩:=ry;exact PySem.EqMixed.eq_str_int (qP I q (by simp))
   | str j=>obtain⟨t',rfl⟩:=ry;exact eq_str (qP I q UU)
   | _=>exact absurd (show false=true from hs) Bool.false_ne_true
 | byt i=>
   obtain⟨t,rfl⟩:=rx
   cases y with
   | byt j=>obtain⟨t',rfl⟩:=ry;exact PySem.W.eq_bytes (qP I q UW)
   | _=>exact absurd (show false=true from hs) Bool.false_ne_true
 | _=>cases y<;>exact absurd (show false=true from hs) Bool.false_ne_true
theorem Kw:Jv X (compareOp .NotEq) rNe:=by
 intro pins s σ H x y v u Q I rx ry h
 obtain⟨hs,q⟩:=h
 cases x with
 | non=>
   cases rx
   cases y with
   | non=>cases ry;exact PySem.EqNone.ne_none_none (qP I q (by simp))
   | bl j=>cases ry;exact PySem.EqNone.ne_none_bool (qP I q (by simp))
   | int j=>obtain⟨t',rfl⟩:=ry;exact PySem.EqNone.ne_none_int (qP I q (by simp))
   | str j=>obtain⟨t',rfl⟩:=ry;exact PySem.EqNone.ne_none_str (qP I q (by simp))
   | _=>exact absurd (show false=true from hs) Bool.false_ne_true
 | bl i=>
   cases rx
   cases y with
   | non=>cases ry;exact PySem.EqNone.ne_bool_none (qP I q (by simp))
   | bl j=>cases ry;exact ne_bool (qP I q (congrArg not xT))
   | str j=>obtain⟨t',rfl⟩:=ry;exact PySem.EqMixed.ne_bool_str (qP I q (by simp))
   | _=>exact absurd (show false=true from hs) Bool.false_ne_true
 | int i=>
   obtain⟨t,rfl⟩:=rx
   cases y with
   | non=>cases ry;exact PySem.EqNone.ne_int_none (qP I q (by simp))
   | int j=>obtain⟨t',rfl⟩:=ry;exact ne_int (qP I q (congrArg not UV))
   | str j=>obtain⟨t',rfl⟩:=ry;exact PySem.EqMixed.ne_int_str (qP I q (by simp))
   | _=>exact absurd (show false=true from hs) Bool.false_ne_true
 | str i=>
   obtain⟨t,rfl⟩:=rx
   cases y with
   | non=>cases ry;exact PySem.EqNone.ne_str_none (qP I q (by simp))
   | bl j=>cases ry;exact PySem.EqMixed.ne_str_bool (qP I q (by simp))
   | int j=>obtain⟨t',rfl⟩:=ry;exact PySem.EqMixed.ne_str_int (qP I q (by simp))
   | str j=>obtain⟨t',rfl⟩:=ry;exact ne_str (qP I q (congrArg not UU))
   | _=>exact absurd (show false=true from hs) Bool.false_ne_true
 | byt i=>
   obtain⟨t,rfl⟩:=rx
   cases y with
   | byt j=>obtain⟨t',rfl⟩:=ry;exact PySem.W.ne_bytes (qP I q (congrArg not UW))
   | _=>exact absurd (show false=true from hs) Bool.false_ne_true
 | _=>cases y<;>exact absurd (show false=true from hs) Bool.false_ne_true
theorem QF:Jv X (compareOp .Lt) (yx λi j=>.bl (decide (i < j))):=ue λ_ _ _ _ _ _ _ q=>lt_int q
theorem UF:Jv X (compareOp .LtE) (yx λi j=>.bl (decide (i<=j))):=ue λ_ _ _ _ _ _ _ q=>le_int q
theorem Y8:Jv X (compareOp .Gt) (yx λi j=>.bl (decide (j < i))):=ue λ_ _ _ _ _ _ _ q=>gt_int q
theorem yL:Jv X (compareOp .GtE) (yx λi j=>.bl (decide (j<=i))):=ue λ_ _ _ _ _ _ _ q=>ge_int q
theorem vG:Jv X (compareOp .In) (λx y H Q=>∃i j,x=.str i/\y=.str j/\Q (.bl (!(Builtin.Str.occurrences j i 0 j.length 1).isEmpty)) H):=by
 intro pins s σ H x y v u Q I rx ry h
 obtain⟨i,j,rfl,rfl,q⟩:=h
 obtain⟨t,rfl⟩:=rx
 obtain⟨t',rfl⟩:=ry
 exact in_str (qP I q rfl)
theorem qz (b:Expr) {op:CmpOp} (h:op≠.In:=by decide) (h2:op≠.NotIn:=by decide):behindInMarks op b=false:=by
 have e1:(op==CmpOp.In)=false:=by cases op<;>first | rfl | exact absurd rfl h
 have e2:(op==CmpOp.NotIn)=false:=by cases op<;>first | rfl | exact absurd rfl h2
 cases b<;>simp [behindInMarks,e1,e2]
theorem Qb {op:CmpOp} {r:R2} (ho:Jv X (compareOp op) r) (ha:JE X a ta) (hb:JE X b tb) (hm:behindInMarks op b=false):JE X (.Compare a [op] [b] pos) (Xv r ta tb):=.of (by
 have ha:=ha.to
 have hb:=hb.to
 intro pins s σ H Q I h
 exact wpAny_Compare1 (Ri ha hb I h λv u s2 x y H2 I2 rx ry q=>ho pins s2 σ H2 x y v u Q I2 rx ry q) hm)
def Uc (t:TE):TT:=λσ H Q=>t σ H λx H'=>∃k,x=.bl k/\Q k H'
theorem qu {op:CmpOp} {r:R2} (ho:Jv X (compareOp op) r) (ha:JE X a ta) (hb:JE X b tb) (hm:behindInMarks op b=false):JT X (.Compare a [op] [b] pos) (Uc (Xv r ta tb)):=.of (by
 have ha:=ha.to
 have hb:=hb.to
 intro pins s σ H Q I h
 refine wpAny_isTrue_Compare1 (jf (ha pins s σ H _ I h) λv s1 ⟨x,H1,I1,r1,q1⟩=>jf (hb pins s1 σ H1 _ I1 q1) λu s2 ⟨y,H2,I2,r2,q2⟩=>
   jf (ho pins s2 σ H2 x y v u _ I2 r1 r2 q2) λc s3 ⟨z,H3,I3,r3,k,e,q3⟩=>?_) hm
 subst e
 cases r3
 exact wpAny_truthy_bool ⟨H3,I3,q3⟩)
theorem Yr:(sizeLine:Nat) < 2^63:=by rw[sizeLine_eq];decide
theorem Zh:Jv X (binaryOp .Add) (λx y H Q=>∃i j,x=.str i/\y=.str j/\i.length+j.length<=sizeLine/\Q (.str (i++j)) H):=by
 intro pins s σ H x y v u Q I rx ry h
 obtain⟨i,j,rfl,rfl,hz,q⟩:=h
 obtain⟨t,rfl⟩:=rx
 obtain⟨t',rfl⟩:=ry
 exact add_str (λt' tk=>⟨.str (i++j),H,I.tok _,⟨_,rfl⟩,q⟩) hz
theorem Qv {x:V} {us:List Value} (r:qF [x] us):∃u,us=[u]/\qK x u:=by
 cases r with
 | cons r1 r2=>cases r2;exact⟨_,rfl,r1⟩
theorem V8 {x y:V} {us:List Value} (r:qF [x,y] us):∃u w',us=[u,w']/\qK x u/\qK y w':=by
 cases r with
 | cons r1 r2=>
   cases r2 with
   | cons r3 r4=>cases r4;exact⟨_,_,rfl,r1,r3⟩
theorem Xi (hc:X.calm=true):Qe X (.builtin "max") (λxs H Q=>∃i j,xs=[.int i,.int j]/\Q (.int (if j > i then j else i)) H):=by
 intro pins s σ H xs us Q I r h
 obtain⟨i,j,rfl,q⟩:=h
 obtain⟨u,w',rfl,⟨t,rfl⟩,⟨t',rfl⟩⟩:=V8 r
 refine max_two_ints (I.ok.hd hc) λh' tk k=>⟨_,H,I.kept k,?_,q⟩
 by_cases hj:j > i
 . rw[if_pos hj,if_pos hj];exact⟨_,rfl⟩
 . rw[if_neg hj,if_neg hj];exact⟨_,rfl⟩
theorem kD (hc:X.calm=true):Qe X (.builtin "min") (λxs H Q=>∃i j,xs=[.int i,.int j]/\Q (.int (if j < i then j else i)) H):=by
 intro pins s σ H xs us Q I r h
 obtain⟨i,j,rfl,q⟩:=h
 obtain⟨u,w',rfl,⟨t,rfl⟩,⟨t',rfl⟩⟩:=V8 r
 refine min_two_ints (I.ok.hd hc) λh' tk k=>⟨_,H,I.kept k,?_,q⟩
 by_cases hj:j < i
 . rw[if_pos hj,if_pos hj];exact⟨_,rfl⟩
 . rw[if_neg hj,if_neg hj];exact⟨_,rfl⟩
theorem Xj:Qe X (.type "int") (λxs H Q=>(∃i,xs=[.int i]/\Q (.int i) H)\/∃k,xs=[.bl k]/\Q (.int (if k then 1 else 0)) H):=by
 intro pins s σ H xs us Q I r h
 rcases h with ⟨i,rfl,q⟩ | ⟨k,rfl,q⟩
 . obtain⟨u,rfl,t,rfl⟩:=Qv r
   exact call_int_int ⟨.int i,H,I,⟨_,rfl⟩,q⟩
 . obtain⟨u,rfl,r1⟩:=Qv r
   cases r1
   exact call_int_bool ⟨.int (if k then 1 else 0),H,I.tok _,⟨_,rfl⟩,q⟩
end
end L2
namespace L2
open PySem PySem.Spec PyProof.Rows
structure V4 (h:Heap) (x dx C:Addr) (mA:Str->Option Value):Prop where
 obj:h.get? x=some (PySem.W.instObj C dx)
 ns:h.Ns1 dx mA
 ne:dx≠x
theorem ZY {h:Heap} {dx:Addr} {mA:Str->Option Value} (n:h.Ns1 dx mA):∃od,h.get? dx=some od/\∀name,PySem.W.lookIn name od=some (mA name):=by
 obtain⟨o,es,ep,ho,hd,hk,_,hm⟩:=n
 refine⟨o,ho,λname=>?_⟩
 have e:=hm name
 unfold nsFind findBy at e
 rw[<-Array.find?_toList]at e
 unfold PySem.W.lookIn
 rw[hd]
 dsimp only
 split
 . rename_i y q
   rw[q]at e
   exact congrArg some e
 . rename_i q
   rw[q]at e
   have a:es.toList.any (·.refKey)=false:=by
     rw[List.any_eq_false]
     intro y hy
     obtain⟨z,t,hkey⟩:=hk y (Array.mem_toList_iff.mp hy)
     simp [DictEntry.refKey,hkey]
   have a':¬es.toList.any (·.refKey)=true:=by rw[a];exact Bool.false_ne_true
   rw[if_neg a']
   exact congrArg some e
theorem V4.look {h:Heap} {x dx C:Addr} {mA:Str->Option Value} (I:V4 h x dx C mA):∃od,PySem.W.InstAt h x (PySem.W.instObj C dx) C (some od)/\∀name,PySem.W.lookIn name od=some (mA name):=
 let ⟨od,ho,hl⟩:=ZY I.ns
 ⟨od,⟨I.obj,rfl,rfl,ho⟩,hl⟩
section
variable {prog:Program} {w:World} {A:Around} {E:Value->Shared->Prop} {s:Shared} {K:PySem.W.Frag} {x dx C f:Addr} {mA:Str->Option Value} {name:Str} {v:Value}
theorem uS {expr:Bool} {Q:Value->Shared->Prop} (X:K.In s.heap) (I:V4 s.heap x dx C mA) (hg:PySem.W.plainGet K C name=true) (hh:PySem.W.hasDictIn K C=true)
   (ha:PySem.W.findIn K (.ref C) name=some none) (hv:mA name=some v) (hv':PySem.W.handedIn v=true) (h:Q v {s with toks:=s.toks+1}):
   wpAny (model prog w) A (getAttr (.ref x) name expr) Q E s:=by
 obtain⟨od,J,hl⟩:=I.look
 exact PySem.W.get_value X J (PySem.W.plainGet_of hg).1 (PySem.W.findObj_own hh ha rfl (by rw[hl,hv])) hv' h
theorem xI {pl:Sem Bool} {Q:Value×List Value->Shared->Prop} (X:K.In s.heap) (I:V4 s.heap x dx C mA) (hg:PySem.W.plainGet K C name=true)
   (hf:PySem.W.findIn K (.ref C) name=some (some (.ref f))) (ht:PySem.W.isFn K (.ref f)=true) (hv:mA name=none) (h:Q (.ref f,[.ref x]) s):
   wpAny (model prog w) A (getMethod (.ref x) name pl) Q E s:=by
 obtain⟨od,J,hl⟩:=I.look
 exact PySem.W.method_fn X J (PySem.W.plainGet_of hg).1 (PySem.W.plainGet_of hg).2 hf (beq_iff_eq.mp ht) (by show (PySem.W.lookIn name od).map (·.isSome)=some false;rw[hl,hv];rfl) h
theorem wF {ns:List Str} {Q:Unit->Shared->Prop} (X:K.In s.heap) (I:V4 s.heap x dx C mA)
   (hs:PySem.W.findIn K (.ref C) "__setattr__"=some (some (.builtin "object.__setattr__"))) (hp:PySem.W.plainOver K C=true) (ht:PySem.W.takerIn K C name=some none) (hh:PySem.W.hasDictIn K C=true)
   (hw:PySem.Within mA ns) (hsz:ns.length<=sizeLine)
   (h:∀h',V4 h' x dx C (λy=>if y=name then some v else mA y)->Heap.SameBut dx s.heap h'->Q () {s with heap:=h',toks:=s.toks+2}):
   wpAny (model prog w) A (setAttr (.ref x) name v) Q E s:=by
 obtain⟨od,J,hl⟩:=I.look
 refine PySem.W.set_plain X J hs (PySem.W.osa_open (s:={s with toks:=s.toks+1}) (r:=none) X J hp ht λb=>?_)
 obtain⟨cd,hc,hd'⟩:=PySem.W.any_some hh
 have hx:s.heap.get? x=some ⟨.ref C,some dx,.plain,#[]⟩:=I.obj
 refine wpAny_bind (wpAny_pure (wpAny_bind (wpAny_bind (wpAny_loadPart hx (wpAny_bind (PySem.W.Looks.here (s:={s with toks:=s.toks+1}) (PySem.W.looks_clsIn X hc) ?_))))))
 rw[hd']
 refine wpAny_pure (a:=some dx) (wpAny_bind (wpAny_pure (wpAny_bind ?_)))
 refine wpAny_nsSet1 (s:={s with toks:=s.toks+1}) I.ns λh' hn2 hs2=>?_
 obtain⟨oD,esD,epD,hoD,hdD,hcD⟩:=hn2.count (PySem.Within.cons name v hw)
 refine wpAny_bind (wpAny_lookBehind hoD (by rw[hdD];exact pastItsLine_dict (Nat.le_trans hcD (by rw[List.length_cons];omega))) ?_)
 exact wpAny_pure (h _ ⟨(hs2.2 _ (Ne.symm I.ne)).trans I.obj,hn2,I.ne⟩ hs2)
theorem xc {R:Result->Shared->Prop} {vs:List Value} {kw:List (Str×Value)} (X:K.In s.heap) (hm:PySem.W.makesIn K C=true)
   (hi:PySem.W.findIn K (.ref C) "__init__"=some (some (.ref f))) (hf:PySem.W.typeIn K (.ref f)=some (.type "function"))
   (h:codeAny (model prog w) (A.under (.builtin "type.__call__" ⟨.ref C::vs,kw⟩)) (.call (.ref f) ⟨.ref (s.heap.objs.size+1)::vs,kw⟩) (PySem.W.InitBack (s.heap.objs.size+1) R)
     {s with heap:=(s.heap.push PySem.W.emptyDict).push (PySem.W.instObj C s.heap.objs.size)}):
   codeAny (model prog w) A (.call (.ref C) ⟨vs,kw⟩) R s:=by
 obtain⟨hh,g,d,t,os⟩:=s
 exact PySem.W.make_core (PySem.W.makes_of X hm) (PySem.W.looks_findIn X hi) (λself=>PySem.W.bind_fn X self hf) (.inl rfl) h
end
def Jg (f:Str) (v:V):List (Str×V)->List (Str×V)
 | []=>[(f,v)]
 | (g,x)::r=>if g=f then (g,v)::r else (g,x)::Jg f v r
theorem ze (f g:Str) (v:V):∀fs:List (Str×V),(Jg f v fs).lookup g=if g=f then some v else fs.lookup g
 | []=>by
   show List.lookup g [(f,v)]=_
   by_cases h:g=f
   . have hb:(g==f)=true:=beq_iff_eq.mpr h
     simp only[List.lookup,hb,if_pos h]
   . have hb:(g==f)=false:=beq_eq_false_iff_ne.mpr h
     simp only[List.lookup,hb,if_neg h]
 | (k,x)::r=>by
   have ih:=ze f g v r
   rw[show Jg f v ((k,x)::r)=(if k=f then (k,v)::r else (k,x)::Jg f v r) from rfl]
   by_cases hk:k=f
   . rw[if_pos hk]
     by_cases h:g=k
     . have hb:(g==k)=true:=beq_iff_eq.mpr h
       simp only[List.lookup,hb,if_pos (h.trans hk)]
     . have hb:(g==k)=false:=beq_eq_false_iff_ne.mpr h
       simp only[List.lookup,hb,if_neg (λe:g=f=>h (e.trans hk.symm))]
   . rw[if_neg hk]
     by_cases h:g=k
     . have hb:(g==k)=true:=beq_iff_eq.mpr h
       simp only[List.lookup,hb,if_neg (λe:g=f=>hk (h.symm.trans e))]
     . have hb:(g==k)=false:=beq_eq_false_iff_ne.mpr h
       simp only[List.lookup,hb]
       exact ih
theorem ZZ (f:Str) (v:V):∀fs:List (Str×V),f∈(Jg f v fs).map (·.1)/\∀g,g∈fs.map (·.1)->g∈(Jg f v fs).map (·.1)
 | []=>⟨by simp [Jg],λg h=>by simp at h⟩
 | (k,x)::r=>by
   obtain⟨i1,i2⟩:=ZZ f v r
   rw[show Jg f v ((k,x)::r)=(if k=f then (k,v)::r else (k,x)::Jg f v r) from rfl]
   by_cases hk:k=f
   . rw[if_pos hk]
     subst hk
     exact⟨by simp,λg h=>by simpa using h⟩
   . rw[if_neg hk]
     refine⟨?_,λg h=>?_⟩
     . rw[List.map_cons]
       exact List.mem_cons_of_mem _ i1
     . rw[List.map_cons]at h ⊢
       rcases List.mem_cons.mp h with e | e
       . exact List.mem_cons.mpr (.inl e)
       . exact List.mem_cons_of_mem _ (i2 g e)
theorem zf (f:Str) (v:V):∀fs:List (Str×V),(Jg f v fs).length<=fs.length+1
 | []=>by simp [Jg]
 | (k,x)::r=>by
   have ih:=zf f v r
   rw[show Jg f v ((k,x)::r)=(if k=f then (k,v)::r else (k,x)::Jg f v r) from rfl]
   by_cases hk:k=f
   . rw[if_pos hk,List.length_cons,List.length_cons];omega
   . rw[if_neg hk,List.length_cons,List.length_cons];omega
theorem Jt.some_of {v:V} {o:Option Value} (r:Jt (some v) o):∃u,o=some u/\qK v u:=by
 cases o with
 | none=>exact(show False from r).elim
 | some u=>exact⟨u,rfl,r⟩
theorem Jt.none_of {o:Option Value} (r:Jt none o):o=none:=by
 cases o with
 | none=>rfl
 | some u=>exact(show False from r).elim
theorem Xf {v:V} {u:Value} (r:qK v u):PySem.W.handedIn u=true:=by
 cases v with
 | non=>cases (show u=Value.none from r);rfl
 | bl b=>cases (show u=Value.bool b from r);rfl
 | int i=>obtain⟨t,e⟩:=(show ∃t,u=Value.int i t from r);cases e;rfl
 | str x=>obtain⟨t,e⟩:=(show ∃t,u=Value.str x t from r);cases e;rfl
 | byt b=>obtain⟨t,e⟩:=(show ∃t,u=Value.bytes b t from r);cases e;rfl
 | flt b=>obtain⟨t,e⟩:=(show ∃t,u=Value.float b t from r);cases e;rfl
 | ref a=>cases (show u=Value.ref a from r);rfl
 | ty n=>cases (show u=Value.type n from r);rfl
section
variable {P:Program} {w:World} {H H':Hp} {h h':Heap} {a C dx:Addr} {fs fs':List (Str×V)}
theorem zH (hok:Jd P w H h) (e:H a=some (.ins C dx fs)):∃mA,V4 h a dx C mA/\(∀f,Jt (fs.lookup f) (mA f))/\PySem.Within mA (fs.map (·.1))/\fs.length<=1000/\H dx=some (.own a):=by
 obtain⟨d,z,ne,ob,mA,n,r,q⟩:=(show qH P w H h a (.ins C dx fs) from hok a _ e)
 exact⟨mA,⟨ob,n,ne⟩,r,q,z,d⟩
end
structure YL (K:PySem.W.Frag) (C:Addr):Prop where
 pg:PySem.W.plainGet K C Str.empty=true
 hd:PySem.W.hasDictIn K C=true
 po:PySem.W.plainOver K C=true
 sa:PySem.W.findIn K (.ref C) "__setattr__"=some (some (.builtin "object.__setattr__"))
theorem YL.get {K:PySem.W.Frag} {C:Addr} (c:YL K C) (f:Str):PySem.W.plainGet K C f=true:=c.pg
def jF (K:PySem.W.Frag) (C:Addr) (f:Str):Prop:=PySem.W.findIn K (.ref C) f=some none
theorem jF.taker {K:PySem.W.Frag} {C:Addr} {f:Str} (n:jF K C f):PySem.W.takerIn K C f=some none:=by
 unfold PySem.W.takerIn
 rw[show PySem.W.findIn K (.ref C) f=some none from n]
 rfl
structure Con (K:PySem.W.Frag) (C:Addr) (f:Str) (v:V) (u:Value):Prop where
 at_:PySem.W.findIn K (.ref C) f=some (some u)
 rel:qK v u
 get:PySem.W.specialIn K u "__get__"=some none
 cp:PySem.W.copiedNames.contains f=false
structure Va (K:PySem.W.Frag) (C:Addr) (m:Str) (f:Addr):Prop where
 at_:PySem.W.findIn K (.ref C) m=some (some (.ref f))
 fn:PySem.W.isFn K (.ref f)=true
 kp:PySem.W.keepIn K (.ref f)=true
section
variable {X:Cx} {pins:List (Addr×Obj)} {σ:St} {H:Hp} {s:Shared} {a C dx:Addr} {fs:List (Str×V)} {f:Str} {v:V} {A:Around} {E:Value->Shared->Prop}
theorem VU {b:Bool} {Q:Value->Shared->Prop} (I:qx X pins σ H s) (e:H a=some (.ins C dx fs)) (c:YL X.K C) (n:jF X.K C f) (l:fs.lookup f=some v)
   (h:∀u s',qx X pins σ H s'->qK v u->Q u s'):wpAny (model X.prog X.w) A (getAttr (.ref a) f b) Q E s:=by
 obtain⟨mA,O,r,_,_,_⟩:=zH I.hok e
 obtain⟨u,hu,ru⟩:=Jt.some_of (v:=v) (o:=mA f) (by rw[<-l];exact r f)
 exact uS I.kIn O (c.get f) c.hd n hu (Xf ru) (h u _ (I.tok _) ru)
theorem Jn {m:Str} {g:Addr} {pl:Sem Bool} {Q:Value×List Value->Shared->Prop} (I:qx X pins σ H s) (e:H a=some (.ins C dx fs)) (c:YL X.K C) (k:Va X.K C m g) (l:fs.lookup m=none)
   (h:Q (.ref g,[.ref a]) s):wpAny (model X.prog X.w) A (getMethod (.ref a) m pl) Q E s:=by
 obtain⟨mA,O,r,_,_,_⟩:=zH I.hok e
 have hn:mA m=none:=Jt.none_of (by rw[<-l];exact r m)
 exact xI I.kIn O (c.get m) k.at_ k.fn hn h
theorem Vp {y:V} {u:Value} {Q:Unit->Shared->Prop} (I:qx X pins σ H s) (e:H a=some (.ins C dx fs)) (c:YL X.K C) (n:jF X.K C f) (hl:fs.length < 1000) (ry:qK y u)
   (h:∀s',qx X pins σ (upd H a (.ins C dx (Jg f y fs))) s'->Q () s'):wpAny (model X.prog X.w) A (setAttr (.ref a) f u) Q E s:=by
 obtain⟨mA,O,r,wi,_,ho⟩:=zH I.hok e
 have hz:(fs.map (·.1)).length<=sizeLine:=by rw[List.length_map,sizeLine_eq];omega
 refine wF I.kIn O c.sa c.po n.taker c.hd wi hz λh' O' sb=>h _ ?_
 have hd:∃o,h'.get? dx=some o:=let ⟨o,_,_,e',_⟩:=O'.ns;⟨o,e'⟩
 refine I.write (x:=a) (e:=dx) (by rw[e];exact True.intro) (.inr ho) (λb q hb z=>(sb.2 b hb).trans z) hd ?_
 refine⟨by rw[qg O.ne];exact ho,?_,O.ne,O'.obj,_,O'.ns,λg=>?_,λg hg=>?_⟩
 . have:=zf f y fs;omega
 . show Jt ((Jg f y fs).lookup g) (if g=f then some u else mA g)
   rw[ze]
   by_cases q:g=f
   . rw[if_pos q,if_pos q];exact ry
   . rw[if_neg q,if_neg q];exact r g
 . by_cases q:g=f
   . rw[q];exact(ZZ f y fs).1
   . refine(ZZ f y fs).2 g (wi g λz=>hg ?_)
     show (if g=f then some u else mA g)=none
     rw[if_neg q];exact z
theorem qx.made (I:qx X pins σ H s):qx X pins σ (upd (upd H s.heap.objs.size (.own (s.heap.objs.size+1))) (s.heap.objs.size+1) (.ins C s.heap.objs.size []))
   {s with heap:=(s.heap.push PySem.W.emptyDict).push (PySem.W.instObj C s.heap.objs.size)}:=by
 have e1:(s.heap.push PySem.W.emptyDict).get? s.heap.objs.size=some PySem.W.emptyDict:=Heap.get?_push_size s.heap rfl
 have e2:((s.heap.push PySem.W.emptyDict).push (PySem.W.instObj C s.heap.objs.size)).get? (s.heap.objs.size+1)=some (PySem.W.instObj C s.heap.objs.size):=by
   have:=Heap.get?_push_size (s.heap.push PySem.W.emptyDict) (o:=PySem.W.instObj C s.heap.objs.size) rfl
   rwa [Heap.size_push]at this
 have e3:(s.heap.push PySem.W.emptyDict).Ns s.heap.objs.size (λ_=>none):=⟨PySem.W.emptyDict,#[],_,e1,rfl,(λe he=>absurd he (by simp)),λ_=>rfl⟩
 have I1:=I.laid (a:=s.heap.objs.size) (o:=.own (s.heap.objs.size+1)) (h':=s.heap.push PySem.W.emptyDict) (t':=s.toks) (λb u q=>Heap.get?_push_of_some _ q) (Nat.le_refl _) ⟨_,e1⟩
 refine I1.laid (a:=s.heap.objs.size+1) (o:=.ins C s.heap.objs.size []) (t':=s.toks) (λb u q=>Heap.get?_push_of_some _ q) (Nat.le_of_eq (Heap.size_push _ _)) ?_
 have ne:s.heap.objs.size≠s.heap.objs.size+1:=Nat.ne_of_lt (Nat.lt_succ_self _)
 refine⟨by rw[qg ne,qd],Nat.zero_le _,ne,e2,λ_=>none,(Heap.Ns1.of_empty e3).at λo q=>Heap.get?_push_of_some _ q,λ_=>True.intro,λy hy=>absurd rfl hy⟩
theorem U2 {prog:Program} {w:World} {env:Env} {e:Expr} {f:Str} {pos:Pos} {s:Shared} {Q:Value->Shared->Prop} (hb:attributeBase e f env (eval e env)=eval e env)
   (h:wpAny (model prog w) A (eval e env) (λo s₁=>wpAny (model prog w) A (getAttr o f true) Q E s₁) E s):wpAny (model prog w) A (eval (.Attribute e f pos) env) Q E s:=
 Attribute_any_ h (by rw[arm_eval_Attribute,hb])
end
def N6 (K:PySem.W.Frag) (ta:TE) (f:Str):TE:=λσ H Q=>ta σ H λx H1=>∃a C dx fs v,x=.ref a/\H1 a=some (.ins C dx fs)/\YL K C/\jF K C f/\fs.lookup f=some v/\Q v H1
def Mg (K:PySem.W.Frag) (ta tv:TE) (f:Str):TS:=λD σ H=>tv σ H λy H1=>ta σ H1 λx H2=>∃a C dx fs,x=.ref a/\H2 a=some (.ins C dx fs)/\YL K C/\jF K C f/\fs.length < 1000/\
 D.nx σ (upd H2 a (.ins C dx (Jg f y fs)))
section
variable {X:Cx} {o e value:Expr} {f:Str} {pos pos' tpos:Pos} {ta tv:TE}
theorem Zm (he:JE X e ta) (hb:attributeBase e f X.env (eval e X.env)=eval e X.env):JE X (.Attribute e f pos) (N6 X.K ta f):=.of (by
 have he:=he.to
 intro pins s σ H Q I h
 refine U2 hb (jf (he pins s σ H _ I h) λu s1 ⟨x,H1,I1,rx,a,C,dx,fs,v,ex,ea,c,n,l,q⟩=>?_)
 subst ex
 obtain rfl:u=Value.ref a:=rx
 exact VU I1 ea c n l λu' s2 I2 ru=>⟨v,H1,I2,ru,q⟩)
theorem XZ (ha:JE X o ta) (hv:JE X value tv) (hs:swapsWith value (some (.Attribute o f pos')) pos.line X.env=pure false):JS X (.Assign [.Attribute o f pos'] value pos) (Mg X.K ta tv f):=.of (by
 have ha:=ha.to
 have hv:=hv.to
 intro pins s σ H D I h
 refine plainObj_wpAny_Assign_Attribute (jf (hv pins s σ H _ I h) λu s1 ⟨y,H1,I1,ry,q⟩=>jf (ha pins s1 σ H1 _ I1 q) λov s2 ⟨x,H2,I2,rx,a,C,dx,fs,ex,ea,c,n,l,q2⟩=>?_) hs
 subst ex
 obtain rfl:ov=Value.ref a:=rx
 exact Vp I2 ea c n l ry λs3 I3=>⟨σ,_,I3,q2⟩)
end
section
variable {X:Cx} {pins:List (Addr×Obj)} {σ:St} {H:Hp} {s:Shared} {A:Around} {E:Value->Shared->Prop} {Q:Value->Shared->Prop} {c:Value} {b:Bool}
inductive Z8 (K:PySem.W.Frag) (H:Hp):V->Value->Prop where
 | non:Z8 K H .non (.type "NoneType")
 | bl (x:Bool):Z8 K H (.bl x) (.type "bool")
 | int (i:Int):Z8 K H (.int i) (.type "int")
 | str (x:Str):Z8 K H (.str x) (.type "str")
 | flt (x:UInt64):Z8 K H (.flt x) (.type "float")
 | lst {a:Addr} {xs:List V} (e:H a=some (.lst xs)):Z8 K H (.ref a) (.type "list")
 | frz {a:Addr} {o:Obj} {xs:List V} (e:H a=some (.frz o (.lst xs))):Z8 K H (.ref a) (.type "list")
 | tup {a:Addr} {xs:List V} (e:H a=some (.tup xs)):Z8 K H (.ref a) (.type "tuple")
 | dK {a:Addr} {kvs:List (qD×V)} (e:H a=some (.dK kvs)):Z8 K H (.ref a) (.type "dict")
 | dT {a:Addr} {kvs:List (List qD×V)} (e:H a=some (.dT kvs)):Z8 K H (.ref a) (.type "dict")
 | ins {a C dx:Addr} {fs:List (Str×V)} (e:H a=some (.ins C dx fs)) (cl:YL K C) (ha:PySem.W.findIn K (.ref C) "__class__"=some (some (.builtin "object.__class__")))
     (hn:PySem.W.specialIn K (.builtin "object.__class__") "__get__"=some (some (.builtin "getset_descriptor.__get__"))) (htk:PySem.W.takesIn K (.builtin "object.__class__")=some true)
     (hm:PySem.W.mroIn K C (.type "object")=some true):Z8 K H (.ref a) (.ref C)
theorem kc {x:V} {u t:Value} (I:qx X pins σ H s) (rx:qK x u) (ty:Z8 X.K H x t) (e:PySem.W.kitOne X.K t c=some b) (h:∀tk,Q (.bool b) {s with toks:=tk}):
   wpAny (model X.prog X.w) A (call (.builtin "isinstance") [u,c]) Q E s:=by
 cases ty with
 | non=>cases (show u=Value.none from rx);exact PySem.W.kia_one PySem.W.kitx_none I.kIn True.intro e (λz=>nomatch z) h
 | bl y=>cases (show u=Value.bool y from rx);exact PySem.W.kia_one PySem.W.kitx_bool I.kIn True.intro e (λz=>nomatch z) h
 | int i=>obtain⟨t,q⟩:=(show ∃t,u=Value.int i t from rx);cases q;exact PySem.W.kia_one PySem.W.kitx_int I.kIn True.intro e (λz=>nomatch z) h
 | str y=>obtain⟨t,q⟩:=(show ∃t,u=Value.str y t from rx);cases q;exact PySem.W.kia_one PySem.W.kitx_str I.kIn True.intro e (λz=>nomatch z) h
 | flt y=>obtain⟨t,q⟩:=(show ∃t,u=Value.float y t from rx);cases q;exact PySem.W.kia_one PySem.W.kitx_float I.kIn True.intro e (λz=>nomatch z) h
 | @lst a xs ea=>
   cases (show u=Value.ref a from rx)
   obtain⟨_,_,n,_,h1⟩:=(show qH X.prog X.w H s.heap a (.lst xs) from I.hok a _ ea)
   exact PySem.W.kia_one PySem.W.kitx_list I.kIn ⟨_,h1,rfl⟩ e (λz=>nomatch z) h
 | @frz a ob xs ea=>
   cases (show u=Value.ref a from rx)
   obtain⟨_,_,_,n,_,h1⟩:=(show qH X.prog X.w H s.heap a (.frz ob (.lst xs)) from I.hok a _ ea)
   exact PySem.W.kia_one PySem.W.kitx_list I.kIn ⟨_,h1,rfl⟩ e (λz=>nomatch z) h
 | @tup a xs ea=>
   cases (show u=Value.ref a from rx)
   obtain⟨_,_,_,p⟩:=(show qH X.prog X.w H s.heap a (.tup xs) from I.hok a _ ea)
   obtain⟨o,h1,h2,_⟩:=p
   exact PySem.W.kia_one PySem.W.kitx_tuple I.kIn ⟨o,h1,h2⟩ e (λz=>nomatch z) h
 | @dK a kvs ea=>
   cases (show u=Value.ref a from rx)
   obtain⟨_,_,vs,_,p⟩:=(show qH X.prog X.w H s.heap a (.dK kvs) from I.hok a _ ea)
   obtain⟨o,es,ep,h1,h2,_⟩:=p
   exact PySem.W.kia_one PySem.W.kitx_dict I.kIn ⟨o,h1,h2.1⟩ e (λz=>nomatch z) h
 | @dT a kvs ea=>
   cases (show u=Value.ref a from rx)
   obtain⟨_,_,xs,_,o,es,ep,h1,h2,_⟩:=(show qH X.prog X.w H s.heap a (.dT kvs) from I.hok a _ ea)
   exact PySem.W.kia_one PySem.W.kitx_dict I.kIn ⟨o,h1,h2.1⟩ e (λz=>nomatch z) h
 | @ins a C dx fs ea cl ha hn htk hm=>
   cases (show u=Value.ref a from rx)
   obtain⟨mA,O,_⟩:=zH I.hok ea
   obtain⟨od,J,_⟩:=O.look
   exact PySem.W.kia_one (PySem.W.kitx_own (cl.get _) cl.hd ha hn htk hm) I.kIn J e (λz=>nomatch z) h
end
end L2
namespace L2
open PySem PySem.Spec PyProof.Rows
structure q5 (k:Nat) (A:Around):Prop where
 hd:A.handled=none
 dp:A.depth+3*k+5 < recursionLimit
 un:A.units+16*k+200 < cLine
 gd:A.guards=some []
theorem q5.mono {j k:Nat} {A:Around} (r:q5 k A) (h:j<=k):q5 j A:=⟨r.hd,by have:=r.dp;omega,by have:=r.un;omega,r.gd⟩
theorem q5.deeper {k:Nat} {A:Around} (r:q5 (k+1) A) (env:Env):q5 k (A.deeper env):=
 ⟨r.hd,by have:=r.dp;show A.depth+1+3*k+5 < _;omega,by have:=r.un;show A.units+3+16*k+200 < _;omega,r.gd⟩
theorem VN {A:Around} {C:Addr} {us:List Value} {kw:List (Str×Value)}:(A.under (.builtin "type.__call__" ⟨.ref C::us,kw⟩)).depth=A.depth+1:=by
 first | rfl | simp [Around.under,Code.weight,Code.isCreation,Code.isGuard,Code.isCaller,Code.frames,Code.isFrame,guardIds]
theorem VM {A:Around} {C:Addr} {us:List Value} {kw:List (Str×Value)}:(A.under (.builtin "type.__call__" ⟨.ref C::us,kw⟩)).units=A.units+1:=by
 first | rfl | simp [Around.under,Code.cUnits,Code.frames,Code.isFrame]
theorem q5.make {k:Nat} {A:Around} (r:q5 (k+1) A) (C:Addr) (us:List Value) (kw:List (Str×Value)):q5 k (A.under (.builtin "type.__call__" ⟨.ref C::us,kw⟩)):=
 ⟨r.hd,by have:=r.dp;rw[VN];omega,by have:=r.un;rw[VM];omega,(by have:=r.gd;first | exact this | simpa [Around.under,Code.isGuard,guardIds] using this)⟩
theorem q5.depth {k:Nat} {A:Around} (r:q5 k A):A.depth < recursionLimit:=by have:=r.dp;omega
theorem q5.units {k:Nat} {A:Around} (r:q5 k A):A.units+64 < cLine:=by have:=r.un;omega
def Q0:TA:=λ_ H Q=>Q [] H
def jx (ta:TE) (tr:TA):TA:=λσ H Q=>ta σ H λx H1=>tr σ H1 λxs H2=>Q (x::xs) H2
section
variable {X:Cx} {e:Expr} {es:List Expr} {te:TE} {t:TA} {pos:Pos}
theorem qf:JA X [] Q0:=.of (by
 exact λ_ _ _ _ H Q I h=>Calls.spliced_nil ⟨[],H,I,.nil,h⟩)
theorem qb (ha:JE X e te) (hr:JA X es t) (hs:starEach (e::es) X.env=(false,eval e X.env)::starEach es X.env:=by rfl):JA X (e::es) (jx te t):=.of (by
 have ha:=ha.to
 have hr:=hr.to
 intro pos pins s σ H Q I h
 rw[hs]
 show wpAny _ _ (spliced ((false,eval e X.env)::backTo pos (starEach es X.env))) _ _ s
 refine Calls.spliced_cons (jf (ha pins s σ H _ I h) λu s1 ⟨x,H1,I1,r1,q1⟩=>?_)
 exact jf (hr pos pins s1 σ H1 _ I1 q1) λus s2 ⟨xs,H2,I2,r2,q2⟩=>⟨x::xs,H2,I2,.cons r1 r2,q2⟩)
def wp (t:TA):TE:=λσ H Q=>t σ H λxs H1=>xs.length<=sizeLine/\∀p,H1 p=none->Q (.ref p) (upd H1 p (.tup xs))
def wt (t:TA):TE:=λσ H Q=>t σ H λxs H1=>xs.length<=sizeLine/\∀p,H1 p=none->Q (.ref p) (upd H1 p (.lst xs))
theorem jN {x1} (h:JA X es t):JE X (.Tuple es x1 pos) (wp t):=.of (by
 have h:=h.to
 intro pins s σ H Q I hq
 refine wpAny_Tuple_spliced (jf (h pos pins s σ H _ I hq) λus s1 ⟨xs,H1,I1,r,z,q⟩=>⟨by rw[<-r.length];exact z,?_⟩)
 have hf:H1 s1.heap.objs.size=none:=I1.hok.fresh (Nat.le_refl _)
 refine⟨.ref s1.heap.objs.size,upd H1 s1.heap.objs.size (.tup xs),I1.laid (t':=s1.toks) (λb u e=>Heap.get?_push_of_some _ e) (Nat.le_refl _) ?_,rfl,q _ hf⟩
 exact⟨z,us,r,⟨_,Heap.get?_push_size _ rfl,rfl,_,rfl⟩⟩)
theorem jE (h:JA X es t):JE X (.List es pos) (wt t):=.of (by
 have h:=h.to
 intro pins s σ H Q I hq
 refine wpAny_List_spliced (jf (h pos pins s σ H _ I hq) λus s1 ⟨xs,H1,I1,r,z,q⟩=>⟨by rw[<-r.length];exact z,?_⟩)
 have hf:H1 s1.heap.objs.size=none:=I1.hok.fresh (Nat.le_refl _)
 refine⟨.ref s1.heap.objs.size,upd H1 s1.heap.objs.size (.lst xs),I1.laid (t':=s1.toks) (λb u e=>Heap.get?_push_of_some _ e) (Nat.le_refl _) ?_,rfl,q _ hf⟩
 exact⟨z,us,0,r,Heap.get?_push_size _ rfl⟩)
end
abbrev Sp:=List V->Hp->VK->XK->Prop
abbrev Vd:=List Env->Hp->Shared->XK->Value->Shared->Prop
structure V6 (P:Program) (w:World) (K:PySem.W.Frag) (mg:Str->Option Value) (base:Heap) (A:Around) (outer:List Env) (s:Shared) (H:Hp):Prop where
 frames:A.frames=some outer
 mod:Mod K mg base
 bs:∀b o,base.get? b=some o->s.heap.get? b=some o/\H b=none
 bsz:base.objs.size<=s.heap.objs.size
 funs:s.heap.FunFrames base outer
 frf:∀b∈zq outer,H b=none
 hok:Jd P w H s.heap
 bare:AllBare s.gens
def CE (outer:List Env) (P:Program) (w:World) (H:Hp) (s:Shared) (Q:VK) (u:Value) (s':Shared):Prop:=
 ∃v H',s'.os=s.os/\AllBare s'.gens/\Un (zq outer) [] H H' s.heap s'.heap/\Jd P w H' s'.heap/\qK v u/\Q v H'
def CR (CX:Vd) (outer:List Env) (P:Program) (w:World) (H:Hp) (s:Shared) (Q:VK) (E:XK) (r:Result) (s':Shared):Prop:=
 match r with
 | .ok (.ret u)=>CE outer P w H s Q u s'
 | .ok _=>False
 | .error e=>CX outer H s E e s'
structure qp (P:Program) (w:World) (K:PySem.W.Frag) (mg:Str->Option Value) (base:Heap) (CX:Vd) (k:Nat) (f:Addr) (fd:FuncData) (ps:List Str) (sp:Sp):Prop where
 len:∀vs H Q E,sp vs H Q E->vs.length=ps.length
 run:∀(A:Around) (outer:List Env) (s:Shared) (H:Hp) (args:Args) (us:List Value) (vs:List V) (Q:VK) (E:XK),q5 k A->V6 P w K mg base A outer s H->BindsTo s fd args (ps.zip us)->qF vs us->sp vs H Q E->
   codeAny (model P w) A (.call (.ref f) args) (CR CX outer P w H s Q E) s
theorem V6.make {P:Program} {w:World} {K:PySem.W.Frag} {mg:Str->Option Value} {base:Heap} {A:Around} {outer:List Env} {s:Shared} {H:Hp} (e:V6 P w K mg base A outer s H) (C:Addr) (us:List Value) (kw:List (Str×Value)):
   V6 P w K mg base (A.under (.builtin "type.__call__" ⟨.ref C::us,kw⟩)) outer s H:=⟨by first | exact e.frames | (simpa [Around.under,Code.envs,Code.isFrame,pushEnvs] using e.frames),e.mod,e.bs,e.bsz,e.funs,e.frf,e.hok,e.bare⟩
section
variable {X:Cx} {pins:List (Addr×Obj)} {σ:St} {H:Hp} {s s':Shared}
theorem qx.env0 (I:qx X pins σ H s):V6 X.prog X.w X.K X.mg X.base X.A X.stack s H:=
 ⟨I.ok.frames,I.ok.mod,I.bs,Nat.le_trans I.ok.bsz I.sz,I.stack,I.stkFree,I.hok,I.bare⟩
theorem qx.after {Q:VK} {u:Value} (I:qx X pins σ H s) (h:CE X.stack X.prog X.w H s Q u s'):EP X pins σ Q u s':=by
 obtain⟨v,H',os,bare,un,hok,r,q⟩:=h
 obtain⟨hh,g,d,t,os'⟩:=s'
 obtain rfl:os'=s.os:=os
 exact⟨v,H',I.call (h':=hh) (g':=g) (d':=d) (t':=t) (ch:=[]) un hok bare (λb z=>absurd z (by simp)),r,q⟩
end
def zQ (sp:Sp) (dvs:List V) (E:XK) (t:TA):TE:=λσ H Q=>t σ H λvs H1=>sp (vs++dvs) H1 Q E
def YZ (C:Addr) (m:Str) (sp:Sp) (dvs:List V) (E:XK) (ta:TE) (t:TA):TE:=λσ H Q=>ta σ H λx H1=>∃a dx fs,x=.ref a/\H1 a=some (.ins C dx fs)/\fs.lookup m=none/\
 t σ H1 λvs H2=>sp (x::(vs++dvs)) H2 Q E
def RF (C:Addr) (sp:Sp) (dvs:List V) (E:XK) (t:TA):TE:=λσ H Q=>t σ H λvs H1=>∀x dx,H1 x=none->H1 dx=none->dx≠x->
 sp (.ref x::(vs++dvs)) (upd (upd H1 dx (.own x)) x (.ins C dx [])) (λv H2=>v=.non/\Q (.ref x) H2) E
def jK (K:PySem.W.Frag) (fd:FuncData) (ps:List Str) (ds:List Value):Prop:=
 ∀(s:Shared) (us:List Value),K.In s.heap->(us++ds).length=ps.length->BindsTo s fd ⟨us,[]⟩ (ps.zip (us++ds))
theorem jK.all {K:PySem.W.Frag} {fd:FuncData} {ps:List Str} (h:∀us:List Value,us.length=ps.length->bindArgs fd ⟨us,[]⟩=pure (ps.zip us)):jK K fd ps []:=λs us _ hl=>by
 rw[List.append_nil]at hl ⊢
 exact .of_eq (h us hl)
def Qj (CX:Vd) (X:Cx) (E:XK):Prop:=∀(pins:List (Addr×Obj)) (σ:St) (H:Hp) (s:Shared) (e:Value) (s':Shared),qx X pins σ H s->CX X.stack H s E e s'->X.xe e s'
section
variable {X:Cx} {CX:Vd} {k:Nat} {f C:Addr} {fd:FuncData} {ps:List Str} {sp:Sp} {dvs:List V} {ds:List Value} {E:XK} {x m:Str} {p pos apos:Pos} {e o:Expr} {es:List Expr} {ta:TE} {t:TA}
theorem Ye {pins:List (Addr×Obj)} {σ:St} {H:Hp} {s:Shared} {Q:VK} {us:List Value} {vs:List V} (F:qp X.prog X.w X.K X.mg X.base CX k f fd ps sp) (hr:q5 k X.A) (hb:jK X.K fd ps ds) (hd:qF dvs ds) (hx:Qj CX X E)
   (I:qx X pins σ H s) (r:qF vs us) (h:sp (vs++dvs) H Q E):wpAny (model X.prog X.w) X.A (call (.ref f) us) (EP X pins σ Q) X.xe s:=by
 have r2:qF (vs++dvs) (us++ds):=r.append hd
 have hl:(us++ds).length=ps.length:=by rw[<-r2.length];exact F.len _ _ _ _ h
 refine wpAny_call (codeAny_mono (F.run X.A X.stack s H ⟨us,[]⟩ (us++ds) (vs++dvs) Q E hr I.env0 (hb s us I.kIn hl) r2 h) λr s' hq=>?_)
 cases r with
 | error e=>exact hx pins σ H s e s' I hq
 | ok fl=>
   cases fl with
   | ret u=>exact I.after hq
   | next=>exact False.elim hq
   | brk=>exact False.elim hq
   | cont=>exact False.elim hq
theorem UC (F:qp X.prog X.w X.K X.mg X.base CX k f fd ps sp) (hr:q5 k X.A) (hg:Gl X x) (hm:X.mg x=some (.ref f)) (hk:PySem.W.keepIn X.K (.ref f)=true) (hb:jK X.K fd ps ds) (hd:qF dvs ds) (hx:Qj CX X E)
   (ha:PA X (e::es) t) (hdb:(x==("__debug__":Str))=false:=by decide) (he:starEach (e::es) X.env=(false,eval e X.env)::starEach es X.env:=by rfl) (hpl:(backTo pos (starEach es X.env)).any (·.1)=false:=by rfl):
   PE X (.Call (.Name x p) (e::es) [] pos) (zQ sp dvs E t):=by
 intro pins s σ H Q I h
 refine wpAny_Call_Name_kw (ZH I hg hm ?_ hdb)
 refine PySem.W.callWith_K (h₀:=X.base) I.ok.mod.kin hk (jf (ha pos pins s σ H _ I h) λus s1 ⟨vs,H1,I1,r,q⟩=>⟨I1.kIn,?_⟩) he hpl
 exact Ye F hr hb hd hx I1 r q
theorem w4 {pl:Sem Bool} (he:PE X o ta) (c:YL X.K C) (hm:Va X.K C m f) (F:qp X.prog X.w X.K X.mg X.base CX k f fd ps sp) (hr:q5 k X.A) (hb:jK X.K fd ps ds) (hd:qF dvs ds) (hx:Qj CX X E) (ha:PA X (e::es) t)
   (hst:starEach (e::es) X.env=(false,eval e X.env)::starEach es X.env:=by rfl) (hpl:(backTo pos (starEach es X.env)).any (·.1)=false:=by rfl)
   (ht:eval (.Call (.Attribute o m apos) (e::es) [] pos) X.env=(do
     let ov <-eval o X.env
     standAt apos.atName
     let (f,first) <-holding [ov] (getMethod ov m pl)
     callWith pos f first (backTo pos (starEach (e::es) X.env)) (backToKw pos (keywordEach [] X.env))):=by rfl):
   PE X (.Call (.Attribute o m apos) (e::es) [] pos) (YZ C m sp dvs E ta t):=by
 intro pins s σ H Q I h
 refine PySem.W.methodCall_KW (pl:=pl) (jf (he pins s σ H _ I h) λu s1 ⟨x,H1,I1,rx,a,dx,fs,ex,ea,l,q⟩=>?_) ht
 subst ex
 obtain rfl:u=Value.ref a:=rx
 refine Jn I1 ea c hm l ?_
 refine PySem.W.callWith_K (first:=[.ref a]) (h₀:=X.base) I.ok.mod.kin hm.kp (jf (ha pos pins s1 σ H1 _ I1 q) λus s2 ⟨vs,H2,I2,r,q2⟩=>⟨I2.kIn,?_⟩) hst hpl
 exact Ye (us:=.ref a::us) (vs:=.ref a::vs) F hr hb hd hx I2 (.cons rfl r) q2
theorem uI {pl:Sem Bool} (he:JE X o ta) (c:YL X.K C) (hm:Va X.K C m f) (F:qp X.prog X.w X.K X.mg X.base CX k f fd ps sp) (hr:q5 k X.A) (hb:jK X.K fd ps ds) (hd:qF dvs ds) (hx:Qj CX X E) (ha:JA X (e::es) t) (hst:starEach (e::es) X.env=(false,eval e X.env)::starEach es X.env:=by rfl) (hpl:(backTo pos (starEach es X.env)).any (·.1)=false:=by rfl) (ht:eval (.Call (.Attribute o m apos) (e::es) [] pos) X.env=(do
     let ov <-eval o X.env
     standAt apos.atName
     let (f,first) <-holding [ov] (getMethod ov m pl)
     callWith pos f first (backTo pos (starEach (e::es) X.env)) (backToKw pos (keywordEach [] X.env))):=by rfl):JE X (.Call (.Attribute o m apos) (e::es) [] pos) (YZ C m sp dvs E ta t):=.of (w4 he.to c hm F hr hb hd hx ha.to hst hpl ht)
theorem yB {pl:Sem Bool} (he:PE X o ta) (c:YL X.K C) (hm:Va X.K C m f) (F:qp X.prog X.w X.K X.mg X.base CX k f fd ps sp) (hr:q5 k X.A) (hb:jK X.K fd ps ds) (hd:qF dvs ds) (hx:Qj CX X E)
   (ht:eval (.Call (.Attribute o m apos) [] [] pos) X.env=(do
     let ov <-eval o X.env
     standAt apos.atName
     let (f,first) <-holding [ov] (getMethod ov m pl)
     callWith pos f first (backTo pos (starEach [] X.env)) (backToKw pos (keywordEach [] X.env))):=by rfl):
   PE X (.Call (.Attribute o m apos) [] [] pos) (YZ C m sp dvs E ta Q0):=by
 intro pins s σ H Q I h
 refine PySem.W.methodCall_KW (pl:=pl) (jf (he pins s σ H _ I h) λu s1 ⟨x,H1,I1,rx,a,dx,fs,ex,ea,l,q⟩=>?_) ht
 subst ex
 obtain rfl:u=Value.ref a:=rx
 refine Jn I1 ea c hm l ?_
 exact PySem.W.callWith_K0 (first:=[.ref a]) I1.kIn hm.kp (Ye (us:=[.ref a]) (vs:=[.ref a]) F hr hb hd hx I1 (.cons rfl .nil) q)
theorem xr {pl:Sem Bool} (he:JE X o ta) (c:YL X.K C) (hm:Va X.K C m f) (F:qp X.prog X.w X.K X.mg X.base CX k f fd ps sp) (hr:q5 k X.A) (hb:jK X.K fd ps ds) (hd:qF dvs ds) (hx:Qj CX X E) (ht:eval (.Call (.Attribute o m apos) [] [] pos) X.env=(do
     let ov <-eval o X.env
     standAt apos.atName
     let (f,first) <-holding [ov] (getMethod ov m pl)
     callWith pos f first (backTo pos (starEach [] X.env)) (backToKw pos (keywordEach [] X.env))):=by rfl):JE X (.Call (.Attribute o m apos) [] [] pos) (YZ C m sp dvs E ta Q0):=.of (yB he.to c hm F hr hb hd hx ht)
structure Mk (K:PySem.W.Frag) (C f:Addr):Prop where
 makes:PySem.W.makesIn K C=true
 init:PySem.W.findIn K (.ref C) "__init__"=some (some (.ref f))
 fn:PySem.W.isFn K (.ref f)=true
 kp:PySem.W.keepIn K (.ref C)=true
theorem yg {pins:List (Addr×Obj)} {σ:St} {H:Hp} {s:Shared} {Q:VK} {us:List Value} {vs:List V} (M:Mk X.K C f) (F:qp X.prog X.w X.K X.mg X.base CX k f fd ps sp) (hr:q5 (k+1) X.A) (hb:jK X.K fd ps ds) (hd:qF dvs ds)
   (hx:Qj CX X E) (I:qx X pins σ H s) (r:qF vs us)
   (h:∀x dx,H x=none->H dx=none->dx≠x->sp (.ref x::(vs++dvs)) (upd (upd H dx (.own x)) x (.ins C dx [])) (λv H2=>v=.non/\Q (.ref x) H2) E):
   wpAny (model X.prog X.w) X.A (call (.ref C) us) (EP X pins σ Q) X.xe s:=by
 have hq:=h (s.heap.objs.size+1) s.heap.objs.size (I.hok.fresh (Nat.le_succ _)) (I.hok.fresh (Nat.le_refl _)) (Nat.ne_of_lt (Nat.lt_succ_self _))
 have I2:=qx.made (C:=C) I
 have r2:qF (V.ref (s.heap.objs.size+1)::(vs++dvs)) (Value.ref (s.heap.objs.size+1)::(us++ds)):=.cons rfl (r.append hd)
 have hl:(Value.ref (s.heap.objs.size+1)::us++ds).length=ps.length:=by
   have e:=r2.length
   rw[F.len _ _ _ _ hq]at e
   exact e.symm
 refine wpAny_call (xc (f:=f) I.kIn M.makes M.init (beq_iff_eq.mp M.fn) (codeAny_mono (F.run _ X.stack _ _ ⟨Value.ref (s.heap.objs.size+1)::us,[]⟩ (Value.ref (s.heap.objs.size+1)::(us++ds)) _ _ E (hr.make C us [])
   (I2.env0.make C us []) (hb _ (Value.ref (s.heap.objs.size+1)::us) I2.kIn hl) r2 hq) λr s' hq'=>?_))
 cases r with
 | error e=>exact hx pins σ _ _ e s' I2 hq'
 | ok fl=>
   cases fl with
   | ret u=>
     obtain⟨v,H',I3,rv,ev,q3⟩:=I2.after hq'
     subst ev
     exact⟨rv,⟨V.ref (s.heap.objs.size+1),H',I3,rfl,q3⟩⟩
   | next=>exact False.elim hq'
   | brk=>exact False.elim hq'
   | cont=>exact False.elim hq'
theorem zG (M:Mk X.K C f) (F:qp X.prog X.w X.K X.mg X.base CX k f fd ps sp) (hr:q5 (k+1) X.A) (hg:Gl X x) (hm:X.mg x=some (.ref C)) (hb:jK X.K fd ps ds) (hd:qF dvs ds) (hx:Qj CX X E) (ha:JA X (e::es) t) (hdb:(x==("__debug__":Str))=false:=by decide) (he:starEach (e::es) X.env=(false,eval e X.env)::starEach es X.env:=by rfl) (hpl:(backTo pos (starEach es X.env)).any (·.1)=false:=by rfl):JE X (.Call (.Name x p) (e::es) [] pos) (RF C sp dvs E t):=.of (by
 have ha:=ha.to
 intro pins s σ H Q I h
 refine wpAny_Call_Name_kw (ZH I hg hm ?_ hdb)
 refine PySem.W.callWith_K (h₀:=X.base) I.ok.mod.kin M.kp (jf (ha pos pins s σ H _ I h) λus s1 ⟨vs,H1,I1,r,q⟩=>⟨I1.kIn,?_⟩) he hpl
 exact yg M F hr hb hd hx I1 r q)
end
section
variable {X:Cx} {CX:Vd} {k:Nat} {f C:Addr} {fd:FuncData} {ps ks:List Str} {sp:Sp} {E:XK} {x m:Str} {p pos apos kpos:Pos} {e o:Expr} {es:List Expr} {kws:List Keyword} {te ta:TE} {t tk:TA} {nm:Option Str}
structure MM (K:PySem.W.Frag) (fd:FuncData) (ps ks:List Str) (g:List Value->List Value->List Value) (gV:List V->List V->List V):Prop where
 to:∀(s:Shared) (us ws:List Value),K.In s.heap->(g us ws).length=ps.length->BindsTo s fd ⟨us,ks.zip ws⟩ (ps.zip (g us ws))
 rel:∀{vs:List V} {us:List Value} {zs:List V} {ws:List Value},qF vs us->qF zs ws->qF (gV vs zs) (g us ws)
variable {g:List Value->List Value->List Value} {gV:List V->List V->List V}
end
structure qv (N P:List Str) (sc:Scope):Prop where
 kind:sc.kind=.function
 co:sc.isCoroutine=false
 gen:sc.isGenerator=false
 nd:N.Nodup
 pre:N.take P.length=P
 par:∀x∈P,sc.names.lookup x=some .local\/sc.names.lookup x=some .cell
 nofree:∀y∈sc.names,y.2≠.free
theorem Xm {kindOf:Str->Option NameKind} {x:Str}:∀{binds:List (Str×Value)} {m:Str->Option Value},(∀v,(x,v)∉binds)->bindL kindOf binds m x=m x
 | [],_,_=>rfl
 | (n,v)::r,m,h=>by
   unfold bindL
   rw[Xm λw hw=>h w (List.mem_cons_of_mem _ hw)]
   split
   . have:x≠n:=by rintro rfl;exact h v List.mem_cons_self
     simp [this]
   . rfl
theorem Xo {kindOf:Str->Option NameKind} {x:Str}:∀{binds:List (Str×Value)} {m:Str->Option Value},(∀v,(x,v)∉binds)->bindC kindOf binds m x=m x
 | [],_,_=>rfl
 | (n,v)::r,m,h=>by
   unfold bindC
   rw[Xo λw hw=>h w (List.mem_cons_of_mem _ hw)]
   split
   . rfl
   . have:x≠n:=by rintro rfl;exact h v List.mem_cons_self
     simp [this]
theorem Xn {kindOf:Str->Option NameKind} {x:Str} {v:Value}:∀{P:List Str} {vs:List Value} {i:Nat} {m:Str->Option Value},P.Nodup->P[i]?=some x->vs[i]?=some v->kindOf x=some .local->
   bindL kindOf (P.zip vs) m x=some v
 | [],_,_,_,_,h,_,_=>by simp at h
 | _::_,[],_,_,_,_,h,_=>by simp at h
 | p::P,w::vs,0,m,nd,h1,h2,hk=>by
   simp at h1 h2;subst h1;subst h2
   show bindL kindOf ((p,w)::P.zip vs) m p=_
   unfold bindL
   rw[Xm λv hv=>(List.nodup_cons.mp nd).1 (List.of_mem_zip hv).1,if_pos hk]
   simp
 | p::P,w::vs,i+1,m,nd,h1,h2,hk=>by
   show bindL kindOf ((p,w)::P.zip vs) m x=_
   unfold bindL
   exact Xn (i:=i) (List.nodup_cons.mp nd).2 (by simpa using h1) (by simpa using h2) hk
theorem Xp {kindOf:Str->Option NameKind} {x:Str} {v:Value}:∀{P:List Str} {vs:List Value} {i:Nat} {m:Str->Option Value},P.Nodup->P[i]?=some x->vs[i]?=some v->kindOf x≠some .local->
   bindC kindOf (P.zip vs) m x=some v
 | [],_,_,_,_,h,_,_=>by simp at h
 | _::_,[],_,_,_,_,h,_=>by simp at h
 | p::P,w::vs,0,m,nd,h1,h2,hk=>by
   simp at h1 h2;subst h1;subst h2
   show bindC kindOf ((p,w)::P.zip vs) m p=_
   unfold bindC
   rw[Xo λv hv=>(List.nodup_cons.mp nd).1 (List.of_mem_zip hv).1,if_neg hk]
   simp
 | p::P,w::vs,i+1,m,nd,h1,h2,hk=>by
   show bindC kindOf ((p,w)::P.zip vs) m x=_
   unfold bindC
   exact Xp (i:=i) (List.nodup_cons.mp nd).2 (by simpa using h1) (by simpa using h2) hk
def J9 (N:List Str) (vs:List V):St:=vs.map some++List.replicate (N.length - vs.length) none
def Zn (CX:Vd) (P:Program) (w:World) (K:PySem.W.Frag) (mg:Str->Option Value) (base:Heap) (N:List Str) (qual:Str) (scope:Scope) (f:Addr) (cd:Value) (A:Around) (outer:List Env) (s:Shared) (H:Hp) (E:XK):Cx where
 prog:=P
 w:=w
 K:=K
 mg:=mg
 base:=base
 A:=A.deeper (envOfC qual scope s.heap.objs.size f cd)
 N:=N
 s₀:=s
 H₀:=H
 env:=envOfC qual scope s.heap.objs.size f cd
 outer:=outer
 stack:=envOfC qual scope s.heap.objs.size f cd::outer
 ex:=[]
 calm:=true
 fn:=λ_=>true
 pn:=[]
 xe:=λe s'=>wpAny (model P w) (A.deeper (envOfC qual scope s.heap.objs.size f cd)) (leaving (envOfC qual scope s.heap.objs.size f cd) e) (λ_ s''=>CX outer H s E e s'') (λe' s''=>CX outer H s E e' s'') s'
theorem W4 {sc:Scope} {n:Nat} {x:Str} (h:sc.names.lookup x=some .cell):∃c,(cellsFrom n sc.names []).lookup x=some c:=by
 have q:=PySem.W.cellsFrom_some sc.names n [] (.inl h)
 exact Option.isSome_iff_exists.mp q
theorem ki {CX:Vd} {P:Program} {w:World} {K:PySem.W.Frag} {mg:Str->Option Value} {base:Heap} {N ps:List Str} {qual:Str} {scope:Scope} {f:Addr} {cd:Value} {A:Around} {outer:List Env} {s s1:Shared} {H:Hp} {E:XK} {us:List Value} {vs:List V}
   (S:qv N ps scope) (hd:A.handled=none) (e0:V6 P w K mg base A outer s H) (hl:vs.length=ps.length) (r:qF vs us)
   (x:InCallC s s.heap.objs.size (bindL (envOfC qual scope s.heap.objs.size f cd).kindOf (ps.zip us) λ_=>none) (cellsFrom (s.heap.objs.size+1) scope.names []) (bindC (envOfC qual scope s.heap.objs.size f cd).kindOf (ps.zip us) λ_=>none) s1):
   qx (Zn CX P w K mg base N qual scope f cd A outer s H E) [] (J9 N vs) H s1:=by
 have hpl:ps.length<=N.length:=by have:=congrArg List.length S.pre;rw[List.length_take]at this;omega
 obtain⟨h1,tk,rfl,hk⟩:=x.done
 have noA:∀b:Addr,b∉(Zn CX P w K mg base N qual scope f cd A outer s H E).ex:=λb z=>absurd (show b∈([]:List Addr) from z) (by simp)
 refine⟨⟨e0.mod,S.kind,rfl,rfl,Nat.le_refl _,λy z c h1 h2=>?_,λy hy=>?_,λy c _ h=>?_,λ_=>hd,Around.frames_deeper e0.frames,.inr ⟨rfl,rfl⟩,λb z=>absurd z (noA b),e0.bs,e0.bsz,λb _ _=>noA b,λb z=>absurd z (noA b),e0.funs,e0.frf⟩,
   rfl,e0.bare,Un.kept hk,⟨_,x.toInCall.ns,λi y v h1 h2 h3=>?_⟩,λy c h=>⟨_,x.cell y c h⟩,e0.hok.fresh (Nat.le_refl _),λy c h=>?_,λp hp=>absurd (show p∈([]:List (Addr×Obj)) from hp) (by simp),e0.hok.kept hk,?_⟩
 . exact name_of_addr x.apart (PySem.mem_of_lookup h1) (PySem.mem_of_lookup h2)
 . have hy:scope.names.lookup y=some .cell\/scope.names.lookup y=some .free:=hy
   rcases hy with hy | hy
   . exact W4 hy
   . exact absurd rfl (S.nofree _ (PySem.mem_of_lookup hy))
 . exact Nat.le_of_lt (x.above y c (PySem.mem_of_lookup h))
 . have hi:i < vs.length:=by
     unfold J9 at h2
     by_cases hi:i < vs.length
     . exact hi
     . rw[List.getElem?_append_right (by simpa using hi)]at h2
       rw[List.getElem?_replicate]at h2
       split at h2<;>cases h2
   have ha:vs[i]?=some v:=by
     unfold J9 at h2
     rw[List.getElem?_append_left (by simpa using hi),List.getElem?_map]at h2
     cases e:vs[i]? with
     | none=>rw[e]at h2;cases h2
     | some a=>rw[e]at h2;cases h2;rfl
   obtain⟨u,hu,rv⟩:=r.get ha
   have hp:ps[i]?=some y:=by
     rw[<-S.pre,List.getElem?_take_of_lt (by omega)];exact h1
   have ndP:ps.Nodup:=by rw[<-S.pre];exact S.nd.sublist (List.take_sublist _ _)
   refine⟨u,rv,?_⟩
   rcases S.par y (List.mem_of_getElem? hp) with k | k
   . exact .inl ⟨k,Xn ndP hp hu k⟩
   . obtain⟨c,e⟩:=W4 (n:=s.heap.objs.size+1) k
     refine .inr ⟨.inl k,c,e,?_⟩
     have q:=x.cell y c e
     rw[Xp ndP hp hu (by show scope.names.lookup y≠_;rw[k];decide)]at q
     exact q
 . exact e0.hok.fresh (Nat.le_of_lt (x.above y c (PySem.mem_of_lookup h)))
 . unfold J9
   show _=N.length
   rw[List.length_append,List.length_map,List.length_replicate]
   omega
theorem KE {CX:Vd} {P:Program} {w:World} {K:PySem.W.Frag} {mg:Str->Option Value} {base:Heap} {k:Nat} {f:Addr} {name qual:Str} {params:Arguments} {body:List Stmt} {scope:Scope} {dV kV doc pm cdv ct oc:Value} {an od:Option Addr}
   {osl:Array (Option Value)} {N ps:List Str} {sp:Sp} (lk:K.lookup f=some ⟨oc,od,.func (PySem.W.fnOf name qual params body scope dV kV doc pm an cdv ct),osl⟩) (hcd:PySem.W.codeIn K cdv qual=true) (S:qv N ps scope)
   (len:∀vs H Q E,sp vs H Q E->vs.length=ps.length)
   (hbody:∀(A:Around) (outer:List Env) (s:Shared) (H:Hp) (vs:List V) (Q:VK) (E:XK),q5 k (A.deeper (envOfC qual scope s.heap.objs.size f cdv))->sp vs H Q E->
     ∃t,wa (Zn CX P w K mg base N qual scope f cdv A outer s H E) body t/\t {nx:=λ_ H'=>Q .non H',rt:=Q} (J9 N vs) H):
   qp P w K mg base CX (k+1) f (PySem.W.fnOf name qual params body scope dV kV doc pm an cdv ct) ps sp:=by
 refine⟨len,λA outer s H args us vs Q E hr e0 hb r hsp=>?_⟩
 have hl:=len _ _ _ _ hsp
 have KX:K.In s.heap:=e0.mod.kin.keeps λb o e=>(e0.bs b o e).1
 have lim:s.heap.NoLimit:=e0.mod.nolimit.keeps λb o e=>(e0.bs b o e).1
 have hkind:∀y∈ps.zip us,scope.names.lookup y.1=some .local\/(scope.names.lookup y.1=some .cell/\((cellsFrom (s.heap.objs.size+1) scope.names []).lookup y.1).isSome=true):=λ⟨n,v⟩ hy=>by
   rcases S.par n (List.of_mem_zip hy).1 with q | q
   . exact .inl q
   . exact .inr ⟨q,PySem.W.cellsFrom_some _ _ _ (.inl q)⟩
 refine codeAny_call_function hr.depth (KX _ _ lk) rfl S.co S.gen rfl (PySem.W.codeRec_of KX hcd) (hb _ _ _ _ ?_)
 refine wpAny_newFunctionEnv_cells S.kind hkind λenv he s1 x=>?_
 subst he
 refine⟨lim.keeps x.toInCall.keep,codeAny_func ?_⟩
 obtain⟨t,ht,hq⟩:=hbody A outer s H vs Q E (hr.deeper _) hsp
 have I:qx (Zn CX P w K mg base N qual scope f cdv A outer s H E) [] (J9 N vs) H s1:=ki S hr.hd e0 hl r x
 refine wpAny_mono (ht [] s1 (J9 N vs) H _ I hq) (λfl s' hs=>?_) λe s' hs=>hs
 have fin:∀{σ':St} {H':Hp} {v:V} {u:Value},qx (Zn CX P w K mg base N qual scope f cdv A outer s H E) [] σ' H' s'->qK v u->Q v H'->CE outer P w H s Q u s':=
   λ{σ' H' v u} J rv q=>⟨v,H',J.os,J.bare,J.base,J.hok,rv,q⟩
 cases fl with
 | ret u=>
   obtain⟨v,σ',H',J,rv,q⟩:=hs
   exact fin J rv q
 | next=>
   obtain⟨σ',H',J,q⟩:=hs
   exact fin (v:=V.non) (u:=Value.none) J rfl q
 | brk=>
   obtain⟨_,_,_,q⟩:=hs
   exact False.elim q
 | cont=>
   obtain⟨_,_,_,q⟩:=hs
   exact False.elim q
end L2
namespace L2
open PySem PySem.Spec PyProof.Rows
section
variable {X:Cx} {x:Str} {p pos:Pos} {e:Expr} {es:List Expr} {t:TA} {id T:String} {r:List V->Hp->VK->Prop}
def Rv (r:List V->Hp->VK->Prop) (t:TA):TE:=λσ H Q=>t σ H λvs H1=>r vs H1 Q
theorem qE (hc:Qe X (.builtin id) r) (hg:Gl X x) (hm:X.mg x=none) (hv:bootBuiltins x=some (.builtin id)) (ha:JA X (e::es) t) (hn:x≠"__name__":=by decide) (hdb:(x==("__debug__":Str))=false:=by decide) (he:starEach (e::es) X.env=(false,eval e X.env)::starEach es X.env:=by rfl) (hpl:(backTo pos (starEach es X.env)).any (·.1)=false:=by rfl):JE X (.Call (.Name x p) (e::es) [] pos) (Rv r t):=.of (by
 have ha:=ha.to
 intro pins s σ H Q I h
 refine wpAny_Call_Name_kw (QW I hg hm hv ?_ hn hdb)
 exact PyProof.Rows.callWith_builtin1 (jf (ha pos pins s σ H _ I h) λus s1 ⟨vs,H1,I1,r1,q1⟩=>hc pins s1 σ H1 vs us Q I1 r1 q1) he hpl)
theorem jC (hc:Qe X (.type T) r) (hg:Gl X x) (hm:X.mg x=none) (hv:bootBuiltins x=some (.type T)) (ha:JA X (e::es) t) (hn:x≠"__name__":=by decide) (hdb:(x==("__debug__":Str))=false:=by decide) (he:starEach (e::es) X.env=(false,eval e X.env)::starEach es X.env:=by rfl) (hpl:(backTo pos (starEach es X.env)).any (·.1)=false:=by rfl):JE X (.Call (.Name x p) (e::es) [] pos) (Rv r t):=.of (by
 have ha:=ha.to
 intro pins s σ H Q I h
 refine wpAny_Call_Name_kw (QW I hg hm hv ?_ hn hdb)
 exact PyProof.Rows.callWith_type1 (jf (ha pos pins s σ H _ I h) λus s1 ⟨vs,H1,I1,r1,q1⟩=>hc pins s1 σ H1 vs us Q I1 r1 q1) he hpl)
end
end L2
namespace HT
open PySem PyProof.Rows
section
open PySem.SeqAt
open PySem.AutoSeq1 (wpAny_loadPart')
open PySem.MeetsSeq PySem.MeetsSeq2 PySem.MeetsSeq3
end
section
variable {prog:Program} {w:World} {A:Around} {E:Value->Shared->Prop} {s:Shared}
theorem cat_tup {t b:Addr} {vs ws:List Value} {Q:Value->Shared->Prop} (ht:IsTup s.heap t vs.toArray) (hb:IsTup s.heap b ws.toArray) (hv:vs≠[])
   (h1:ws=[]->Q (.ref t) s) (h2:ws≠[]->Q (.ref s.heap.objs.size) {s with heap:=s.heap.push {cls:=.type "tuple",data:=.seq (vs++ws).toArray}})
   (hsz:vs.length+ws.length<=sizeLine):wpAny (model prog w) A (binaryOp .Add (.ref t) (.ref b)) Q E s:=by
 obtain⟨⟨cls,dd,data,sl⟩,ho,hc,n,hd⟩:=id ht
 obtain⟨⟨cls2,dd2,data2,sl2⟩,ho2,hc2,n2,hd2⟩:=id hb
 simp only at hc hd hc2 hd2
 subst hc hd hc2 hd2
 have e:vs.toArray++ws.toArray=(vs++ws).toArray:=by simp
 by_cases hw:ws=[]
 . exact concat_meets ⟨_,ho,rfl⟩ ⟨_,ho2,rfl⟩ noFill_tuple_add seq_tuple_add PySem.F.slot_tuple_add PySem.F.entry_tuple_add (PySem.F.args_tuple_add_2 _ _)
     (tuple_addW1 t b vs.toArray ws.toArray n n2 dd dd2 sl sl2 (by simpa using hv) (by simp [hw])) ⟨ho,ho2,h1 hw⟩
 . refine concat_meets ⟨_,ho,rfl⟩ ⟨_,ho2,rfl⟩ noFill_tuple_add seq_tuple_add PySem.F.slot_tuple_add PySem.F.entry_tuple_add (PySem.F.args_tuple_add_2 _ _)
     (tuple_addW2 t b vs.toArray ws.toArray n n2 dd dd2 sl sl2 (by simpa using hv) (by simpa using hw) (by rw[List.size_toArray,List.size_toArray];exact hsz)) ⟨ho,ho2,?_⟩
   rw[e]
   exact h2 hw
def sIx (n d:Nat):Option Int->Nat
 | none=>d
 | some v=>if v < 0 then (v+(n:Int)).toNat else min v.toNat n
theorem K2 (n d:Nat) (hd:d<=n) (o:Option Int):sIx n d o<=n:=by
 cases o with
 | none=>exact hd
 | some v=>
   show (if v < 0 then (v+(n:Int)).toNat else min v.toNat n)<=n
   by_cases hv:v < 0
   . rw[if_pos hv];omega
   . rw[if_neg hv];exact Nat.min_le_right _ _
theorem UX (v:Int) (n d:Nat):(if v < 0 then max (v+(n:Int)) 0 else min v (n:Int))=((sIx n d (some v):Nat):Int):=by
 show (if v < 0 then max (v+(n:Int)) 0 else min v (n:Int))=(((if v < 0 then (v+(n:Int)).toNat else min v.toNat n):Nat):Int)
 by_cases hv:v < 0
 . simp only[if_pos hv];omega
 . simp only[if_neg hv];omega
theorem V1 (lo hi:Option Int) (n:Nat):Builtin.Slice.sliceAdjust lo hi 1 (n:Int)=(((sIx n 0 lo:Nat):Int),((sIx n n hi:Nat):Int)):=by
 have h1:¬((1:Int) < 0):=by omega
 unfold Builtin.Slice.sliceAdjust
 simp only[h1,if_false]
 refine Prod.ext ?_ ?_
 . cases lo with
   | none=>rfl
   | some v=>exact UX v n 0
 . cases hi with
   | none=>rfl
   | some v=>exact UX v n n
theorem Vx (i j:Nat):Builtin.Slice.slicePlaces (i:Int) (j:Int) 1=j - i:=by
 unfold Builtin.Slice.slicePlaces
 have h1:(1:Int) > 0:=by omega
 simp only[h1,if_true,Int.ediv_one]
 split<;>omega
theorem zV {v:Value} {o:Option Int} {Q:Option Int->Shared->Prop} (p:IsPart v o) (h:Q o s):wpAny (model prog w) A (Builtin.Slice.slicePartIndex v) Q E s:=by
 cases p with
 | none=>exact slicePart_none h
 | int i t=>exact slicePart_int h
theorem Q3 {sl:Addr} {vl vu:Value} {lo hi:Option Int} {n:Nat} {Q:Int×Int×Nat->Shared->Prop} (hs:s.heap.IsSliceOf sl vl vu .none) (pl:IsPart vl lo) (pu:IsPart vu hi)
   (h:Q (((sIx n 0 lo:Nat):Int),1,sIx n n hi - sIx n 0 lo) s):wpAny (model prog w) A (Builtin.Slice.sliceApplied (.ref sl) (pure (n:Int))) Q E s:=by
 obtain⟨os,hos,hcs,hds⟩:=id hs
 unfold Builtin.Slice.sliceApplied Builtin.Slice.sliceFields
 refine wpAny_bind (wpAny_bind (wpAny_field hos hds (x:=vl) rfl (wpAny_bind (wpAny_field hos hds (x:=vu) rfl (wpAny_bind (wpAny_field hos hds (x:=.none) rfl (wpAny_pure ?_)))))))
 refine wpAny_bind (slicePart_none ?_)
 show wpAny _ _ (if ((1:Int)==0)=true then _ else _) _ _ s
 rw[if_neg (by decide)]
 refine wpAny_bind (zV pl (wpAny_bind (zV pu (wpAny_bind (wpAny_pure ?_)))))
 show wpAny _ _ (match Builtin.Slice.sliceAdjust lo hi 1 (n:Int) with | (lo,hi)=>pure (lo,(1:Int),Builtin.Slice.slicePlaces lo hi 1)) _ _ s
 rw[V1 lo hi n]
 show wpAny _ _ (pure (((sIx n 0 lo:Nat):Int),(1:Int),Builtin.Slice.slicePlaces ((sIx n 0 lo:Nat):Int) ((sIx n n hi:Nat):Int) 1)) _ _ s
 rw[Vx]
 exact wpAny_pure h
theorem yA (xs:Array Value) (i k:Nat):((List.range k).filterMap λ(m:Nat)=>xs[((i:Int)+(m:Int)*1).toNat]?).toArray=((xs.toList.drop i).take k).toArray:=by
 have e:(λ(m:Nat)=>xs[((i:Int)+(m:Int)*1).toNat]?)=λm=>xs[i+m]?:=by
   funext m
   have:((i:Int)+(m:Int)*1).toNat=i+m:=by omega
   rw[this]
 rw[e]
 have:=pick_run xs i k
 rw[List.filterMap_map]at this
 have e2:((λx=>xs[x]?) ∘ λx=>i+x)=λm=>xs[i+m]?:=rfl
 rw[e2]at this
 rw[this]
theorem getItem_tuple_cut {t sl:Addr} {items:Array Value} {vl vu:Value} {lo hi:Option Int} {Q:Value->Shared->Prop} (ht:IsTup s.heap t items) (hs:s.heap.IsSliceOf sl vl vu .none) (pl:IsPart vl lo) (pu:IsPart vu hi)
   (hw:¬(sIx items.size 0 lo=0/\sIx items.size items.size hi=items.size))
   (h:Q (.ref s.heap.objs.size) {s with heap:=s.heap.push {cls:=.type "tuple",data:=.seq ((items.toList.drop (sIx items.size 0 lo)).take (sIx items.size items.size hi - sIx items.size 0 lo)).toArray}})
   (hsz:items.size<=sizeLine):wpAny (model prog w) A (getItem (.ref t) (.ref sl)) Q E s:=by
 have htake:sizeOk (.seq ((items.toList.drop (sIx items.size 0 lo)).take (sIx items.size items.size hi - sIx items.size 0 lo)).toArray):=by
   show ((items.toList.drop (sIx items.size 0 lo)).take (sIx items.size items.size hi - sIx items.size 0 lo)).toArray.size<=sizeLine
   rw[List.size_toArray,List.length_take,List.length_drop,Array.length_toList]
   omega
 have hj:sIx items.size items.size hi<=items.size:=K2 _ _ (Nat.le_refl _) hi
 obtain⟨os,hos,hcs,hds⟩:=id hs
 have hTs:s.TypeIs (.ref sl) "slice":=⟨os,hos,hcs⟩
 unfold getItem
 try with_reducible refine wpAny_holding ?_
 first | refine wpAny_bind (wpAny_pure ?_) | skip
 refine wpAny_bind (wpAny_sequenceKey ht.typeIs (by decide) ?_)
 refine wpAny_bind (wpAny_callSpecial?_slot (name:=Str.ofString "__getitem__") ht.typeIs PyProof.Rows.slot_tuple_getitem
   (wpAny_call_entry PyProof.Rows.slot_tuple_getitem ht.typeIs entry_tuple_getitem ?_ (args_tuple_getitem _ _)))
 show wpAny _ _ (Builtin.Tuple.tupleItemsOf (.ref t) >>= _) _ _ s
 refine wpAny_bind (tupleItemsOf_ ht ?_)
 refine wpAny_bind (wpAny_typeOf hTs ?_)
 rw[if_pos (by decide)]
 refine wpAny_bind (Q3 hs pl pu ?_)
 have hno:¬((((sIx items.size 0 lo:Nat):Int)==0&&(1:Int)==1&&(sIx items.size items.size hi - sIx items.size 0 lo)==items.size)=true):=by
   intro q
   rw[Bool.and_eq_true,Bool.and_eq_true]at q
   have q1:((sIx items.size 0 lo:Nat):Int)=0:=eq_of_beq q.1.1
   have q2:sIx items.size items.size hi - sIx items.size 0 lo=items.size:=eq_of_beq q.2
   exact hw ⟨by omega,by omega⟩
 show wpAny _ _ (if (((sIx items.size 0 lo:Nat):Int)==0&&(1:Int)==1&&(sIx items.size items.size hi - sIx items.size 0 lo)==items.size)=true then _ else _) _ _ s
 rw[if_neg hno,yA]
 first
   | exact wpAny_bind (m:=Builtin.Tuple.tupleExact _) (wpAny_newObj_type (wpAny_pure ⟨_,rfl,wpAny_pure h⟩) htake)
   | exact wpAny_bind (m:=Builtin.Tuple.tupleExact _) (wpAny_newObj_type (wpAny_bind (wpAny_pure (wpAny_pure ⟨_,rfl,wpAny_pure h⟩))) htake)
   | exact wpAny_bind (wpAny_bind (m:=Builtin.Tuple.tupleExact _) (wpAny_newObj_type (wpAny_pure (wpAny_pure ⟨_,rfl,wpAny_pure h⟩)) htake))
   | exact wpAny_bind (wpAny_bind (m:=Builtin.Tuple.tupleExact _) (wpAny_newObj_type (wpAny_pure ⟨_,rfl,wpAny_pure h⟩) htake))
end
end HT
namespace L2
open PySem PySem.Spec PyProof.Rows
abbrev TO:=St->Hp->(Option Int->Hp->Prop)->Prop
def PO (X:Cx) (e:Option Expr) (t:TO):Prop:=
 ∀(pins:List (Addr×Obj)) (s:Shared) (σ:St) (H:Hp) (Q:Option Int->Hp->Prop),qx X pins σ H s->t σ H Q->
   wpAny (model X.prog X.w) X.A (evalPart e X.env) (λu s'=>∃o H',qx X pins σ H' s'/\IsPart u o/\Q o H') X.xe s
@[irreducible] def JO (X:Cx) (e:Option Expr) (t:TO):Prop:=PO X e t
theorem JO.of {X:Cx} {e:Option Expr} {t:TO} (h:PO X e t):JO X e t:=by unfold JO;exact h
theorem JO.to {X:Cx} {e:Option Expr} {t:TO} (h:JO X e t):PO X e t:=by unfold JO at h;exact h
def wq:TO:=λ_ H Q=>Q none H
def RD (t:TE):TO:=λσ H Q=>t σ H λx H1=>∃i,x=.int i/\Q (some i) H1
theorem VS {ns:List Int}:∀{us:List Value},qF (ns.map V.int) us->IntsAre us ns:=by
 induction ns with
 | nil=>intro us r;rw[List.map_nil]at r;cases r;exact .nil
 | cons n ns ih=>
   intro us r
   rw[List.map_cons]at r
   cases r with
   | cons r1 r2=>
     obtain⟨t,e⟩:=r1
     subst e
     exact .cons n t (ih r2)
section
variable {X:Cx} {e:Expr} {te:TE} {lo hi:Option Expr} {tl th:TO} {pos p2:Pos}
theorem ZJ:JO X none wq:=.of (by
 intro pins s σ H Q I h
 rw[evalPart_none]
 exact wpAny_pure ⟨none,H,I,.none,h⟩)
theorem ZI (h:JE X e te):JO X (some e) (RD te):=.of (by
 have h:=h.to
 intro pins s σ H Q I hw
 rw[evalPart_some]
 refine jf (h pins s σ H _ I hw) λu s1 ⟨x,H1,I1,r1,q1⟩=>?_
 obtain⟨i,rfl,q⟩:=q1
 obtain⟨t,rfl⟩:=r1
 exact⟨some i,H1,I1,.int i t,q⟩)
def NE (X:Cx) (r:V->Option Int->Option Int->Hp->VK->Prop):Prop:=
 ∀(pins:List (Addr×Obj)) (s:Shared) (σ:St) (H:Hp) (x:V) (v vl vu:Value) (lo hi:Option Int) (sl:Addr) (Q:VK),qx X pins σ H s->qK x v->s.heap.IsSliceOf sl vl vu .none->IsPart vl lo->IsPart vu hi->r x lo hi H Q->
   ∃T id,typeLookup (.type T) "__getitem__"=pure (some (.builtin id))/\s.TypeIs v T/\wpAny (model X.prog X.w) X.A (getItem v (.ref sl)) (EP X pins σ Q) X.xe s
def tSl (r:V->Option Int->Option Int->Hp->VK->Prop) (te:TE) (tl th:TO):TE:=λσ H Q=>te σ H λx H1=>tl σ H1 λl H2=>th σ H2 λu H3=>r x l u H3 Q
theorem JP {r:V->Option Int->Option Int->Hp->VK->Prop} (hr:NE X r) (he:JE X e te) (hl:JO X lo tl) (hu:JO X hi th):JE X (.Subscript e (.Slice lo hi none p2) pos) (tSl r te tl th):=.of (by
 have he:=he.to
 have hl:=hl.to
 have hu:=hu.to
 intro pins s σ H Q I h
 refine Subscript_ (jf (he pins s σ H _ I h) λv s1 ⟨x,H1,I1,r1,q1⟩=>?_)
 refine wpAny_Slice (jf (hl pins s1 σ H1 _ I1 q1) λvl s2 ⟨l,H2,I2,pl,q2⟩=>jf (hu pins s2 σ H2 _ I2 q2) λvu s3 ⟨u,H3,I3,pu,q3⟩=>?_)
 rw[evalPart_none]
 refine wpAny_pure ?_
 have I4:qx X pins σ H3 {s3 with heap:=s3.heap.push {cls:=.type "slice",data:=.fields #[vl,vu,.none]}}:=I3.kept (t':=s3.toks) λb ob q=>Heap.get?_push_of_some _ q
 obtain⟨T,id,hT,ht,hg⟩:=hr pins {s3 with heap:=s3.heap.push {cls:=.type "slice",data:=.fields #[vl,vu,.none]}} σ H3 x v vl vu l u s3.heap.objs.size Q I4 r1 (Heap.IsSliceOf.new ..) pl pu q3
 show wpAny (model X.prog X.w) X.A (subscriptTail e (.Slice lo hi none p2) v (.ref s3.heap.objs.size)) (EP X pins σ Q) X.xe {s3 with heap:=s3.heap.push {cls:=.type "slice",data:=.fields #[vl,vu,.none]}}
 exact tail_any (ops:=[.ref s3.heap.objs.size,v]) ht hT hg (by with_unfolding_all rfl))
def W3 (xs:List V) (lo hi:Option Int):List V:=(xs.drop (HT.sIx xs.length 0 lo)).take (HT.sIx xs.length xs.length hi - HT.sIx xs.length 0 lo)
theorem zj (xs:List V) (lo hi:Option Int):(W3 xs lo hi).length<=xs.length:=by
 unfold W3
 rw[List.length_take,List.length_drop]
 omega
def R4 (K:PySem.W.Frag):V->Option Int->Option Int->Hp->VK->Prop:=λx lo hi H Q=>∃a xs,x=.ref a/\SqT K H a xs/\
 ¬(HT.sIx xs.length 0 lo=0/\HT.sIx xs.length xs.length hi=xs.length)/\∀p,H p=none->Q (.ref p) (upd H p (.tup (W3 xs lo hi)))
theorem k6:NE X (R4 X.K):=by
 intro pins s σ H x v vl vu lo hi sl Q I rx hs pl pu h
 obtain⟨a,xs,rfl,hx,hw,q⟩:=h
 cases rx
 obtain⟨its,r,ht,hz⟩:=I.tuple hx
 have hlen:its.toArray.size=xs.length:=by rw[List.size_toArray];exact r.length.symm
 refine⟨"tuple",_,PyProof.Rows.slot_tuple_getitem.lookup,ht.typeIs,?_⟩
 refine HT.getItem_tuple_cut ht hs pl pu (by rw[hlen];exact hw) ?_ (by rw[hlen];exact hz)
 rw[hlen]
 refine⟨.ref s.heap.objs.size,_,I.laid (t':=s.toks) (o:=.tup (W3 xs lo hi)) (λb ob q=>Heap.get?_push_of_some _ q) (Nat.le_refl _) ?_,rfl,q _ (I.hok.fresh (Nat.le_refl _))⟩
 exact⟨Nat.le_trans (zj xs lo hi) hz,_,(r.drop (HT.sIx xs.length 0 lo)).take (HT.sIx xs.length xs.length hi - HT.sIx xs.length 0 lo),IsTup.new _ _⟩
theorem qF.nil_iff {xs:List V} {us:List Value} (r:qF xs us):us=[]↔xs=[]:=by
 cases r with
 | nil=>simp
 | cons _ _=>simp
end
end L2
namespace L2
open PySem PySem.Spec PyProof.Rows
def KC (n:Nat) (i:Int):Option Nat:=if 0<=i then (if i < n then some i.toNat else none) else if -(n:Int)<=i then some (i+n).toNat else none
def Vc {α:Type} (xs:List α) (i:Int):Option α:=(KC xs.length i).bind λj=>xs[j]?
theorem uM {n:Nat} {i:Int} {j:Nat} (h:KC n i=some j):seqIndex? i n=some j/\j < n/\-(n:Int)<=i/\i < n:=by
 unfold KC at h
 by_cases h0:0<=i
 . rw[if_pos h0]at h
   by_cases h1:i < n
   . rw[if_pos h1]at h
     have e:i.toNat=j:=Option.some.inj h
     exact⟨by rw[seqIndex_of h0 h1,e],by omega,by omega,h1⟩
   . rw[if_neg h1]at h;cases h
 . rw[if_neg h0]at h
   by_cases h1:-(n:Int)<=i
   . rw[if_pos h1]at h
     have e:(i+n).toNat=j:=Option.some.inj h
     exact⟨by rw[seqIndex_neg (by omega) h1,e],by omega,h1,by omega⟩
   . rw[if_neg h1]at h;cases h
theorem Wh {α:Type} {xs:List α} {i:Int} {v:α} (h:Vc xs i=some v):∃j,seqIndex? i xs.length=some j/\xs[j]?=some v/\j < xs.length/\-(xs.length:Int)<=i/\i < xs.length:=by
 unfold Vc at h
 cases e:KC xs.length i with
 | none=>rw[e]at h;cases h
 | some j=>
   rw[e]at h
   obtain⟨h1,h2,h3,h4⟩:=uM e
   exact⟨j,h1,h,h2,h3,h4⟩
theorem QS {α:Type} {xs:List α} {j:Nat} {v:α} (h:xs[j]?=some v):Vc xs (j:Int)=some v:=by
 have hj:j < xs.length:=(List.getElem?_eq_some_iff.mp h).1
 have e:KC xs.length (j:Int)=some j:=by
   unfold KC
   rw[if_pos (by omega),if_pos (by omega)];simp
 unfold Vc;rw[e];exact h
theorem xW {α:Type} (xs:List α) (v:α):Vc (xs++[v]) (-1)=some v:=by
 have hl:(xs++[v]).length=xs.length+1:=by simp
 have e:KC (xs++[v]).length (-1)=some xs.length:=by
   unfold KC
   rw[hl,if_neg (by decide),if_pos (by omega)]
   congr 1
   omega
 unfold Vc
 rw[e]
 show (xs++[v])[xs.length]?=some v
 simp
def Ka (b:Expr):Prop:=∀o i,subscripted b false o i=operate [o,i] (getItem o i)
def NX (X:Cx) (r:R2):Prop:=
 ∀(value slice:Expr) (pins:List (Addr×Obj)) (s:Shared) (σ:St) (H:Hp) (x y:V) (v u:Value) (Q:VK),qx X pins σ H s->qK x v->qK y u->r x y H Q->
   subscripted slice false v u=operate [v,u] (getItem v u)->wpAny (model X.prog X.w) X.A (subscriptTail value slice v u) (EP X pins σ Q) X.xe s
def Ry (X:Cx) (id:String) (r:V->List V->Hp->VK->Prop):Prop:=
 ∀(pins:List (Addr×Obj)) (s:Shared) (σ:St) (H:Hp) (x:V) (xs:List V) (v:Value) (us:List Value) (Q:VK),qx X pins σ H s->qK x v->qF xs us->r x xs H Q->
   wpAny (model X.prog X.w) X.A (call (.builtin id) (v::us)) (EP X pins σ Q) X.xe s
section
variable {X:Cx} {a b:Expr} {ta tb:TE} {pos:Pos}
theorem qN {r:R2} (hr:NX X r) (ha:JE X a ta) (hb:JE X b tb) (hs:Ka b):JE X (.Subscript a b pos) (Xv r ta tb):=.of (by
 have ha:=ha.to
 have hb:=hb.to
 intro pins s σ H Q I h
 exact Subscript_ (Ri ha hb I h λv u s2 x y H2 I2 rx ry q=>hr a b pins s2 σ H2 x y v u Q I2 rx ry q (hs _ _)))
def K5 (K:PySem.W.Frag):R2:=λx y H Q=>∃p xs i v,x=.ref p/\y=.int i/\SqL K H p xs/\Vc xs i=some v/\Q v H
def XR (K:PySem.W.Frag):R2:=λx y H Q=>∃p xs i v,x=.ref p/\y=.int i/\SqT K H p xs/\Vc xs i=some v/\Q v H
def Ml:R2:=λx y H Q=>∃z i c,x=.str z/\y=.int i/\z.length<=sizeLine/\Vc z.cps.toList i=some c/\Q (.str ⟨#[c]⟩) H
theorem jU:NX X (K5 X.K):=by
 intro value slice pins s σ H x y v u Q I rx ry h hs
 obtain⟨p,xs,i,z,rfl,rfl,hq,he,q⟩:=h
 cases rx
 obtain⟨t,rfl⟩:=ry
 obtain⟨its,r,pl,hz⟩:=I.list hq
 obtain⟨j,h1,h2,h3,h4,h5⟩:=Wh he
 obtain⟨w,ew,rw'⟩:=r.get h2
 have hl:=r.length
 have hn:=Yr
 have fin:EP X pins σ Q w s:=⟨z,H,I,rw',q⟩
 by_cases h0:0<=i
 . have hj:i.toNat=j:=by
     rw[seqIndex_of h0 h5]at h1
     exact Option.some.inj h1
   exact item_listR pl.isList h0 (by omega) (by rw[hj];simpa using ew) fin hs
 . have hj:(i+(its.toArray.size:Int)).toNat=j:=by
     rw[seqIndex_neg (by omega) h4]at h1
     rw[List.size_toArray,<-hl]
     exact Option.some.inj h1
   exact subscriptTail_builtinR (x:=w) pl.isList.typeIs slot_list_getitem.lookup
     (wpAny_getItem_list_neg (Q:=λr s'=>r=w/\EP X pins σ Q r s') pl.isList (by omega) (by rw[List.size_toArray]<;>omega) (by omega) (by rw[hj];simpa using ew) ⟨rfl,fin⟩) hs
theorem qU:NX X (XR X.K):=by
 intro value slice pins s σ H x y v u Q I rx ry h hs
 obtain⟨p,xs,i,z,rfl,rfl,hq,he,q⟩:=h
 cases rx
 obtain⟨t,rfl⟩:=ry
 obtain⟨its,r,pl,hz⟩:=I.tuple hq
 obtain⟨j,h1,h2,h3,h4,h5⟩:=Wh he
 obtain⟨w,ew,rw'⟩:=r.get h2
 have hl:=r.length
 have hn:=Yr
 have fin:EP X pins σ Q w s:=⟨z,H,I,rw',q⟩
 exact subscriptTail_builtinR (x:=w) pl.typeIs slot_tuple_getitem.lookup
   (getItem_tuple (j:=j) (Q:=λr s'=>r=w/\EP X pins σ Q r s') pl (by omega) (by omega) (by rw[List.size_toArray,<-hl];exact h1) (by simpa using ew) ⟨rfl,fin⟩) hs
theorem xw:NX X Ml:=by
 intro value slice pins s σ H x y v u Q I rx ry h hs
 obtain⟨z,i,c,rfl,rfl,hz,he,q⟩:=h
 obtain⟨t,rfl⟩:=rx
 obtain⟨t',rfl⟩:=ry
 obtain⟨j,h1,h2,h3,h4,h5⟩:=Wh he
 have hl:z.cps.toList.length=z.length:=by simp [Str.length]
 rw[hl]at h1 h4 h5
 have hn:=Yr
 exact tail_any (typeIs_str s z t) slot_str_getitem.lookup (getItem_str (c:=c) (by
   have e1:decide (i < -(2^63:Int))=false:=decide_eq_false (by omega)
   have e2:decide (i ≥ 2^63)=false:=decide_eq_false (by omega)
   rw[e1,e2,Bool.or_false]) (by rw[h1];simpa using h2) ⟨.str ⟨#[c]⟩,H,I.tok _,⟨_,rfl⟩,q⟩) hs
theorem XG (lo hi:Option Int) (n:Nat):(sliceBounds lo hi none n).1=((HT.sIx n 0 lo:Nat):Int)/\(sliceBounds lo hi none n).2.1=((HT.sIx n n hi:Nat):Int)/\(sliceBounds lo hi none n).2.2=1:=by
 refine⟨?_,?_,rfl⟩
 . cases lo with
   | none=>simp [sliceBounds,HT.sIx]
   | some i=>
     simp only[sliceBounds,HT.sIx,Option.getD_none,show (1:Int) > 0 by decide,if_true]
     by_cases h:i < 0
     . simp only[h,if_true]<;>omega
     . simp only[h,if_false]<;>omega
 . cases hi with
   | none=>simp [sliceBounds,HT.sIx]
   | some i=>
     simp only[sliceBounds,HT.sIx,Option.getD_none,show (1:Int) > 0 by decide,if_true]
     by_cases h:i < 0
     . simp only[h,if_true]<;>omega
     . simp only[h,if_false]<;>omega
theorem YO (its:List Value) (lo hi:Option Int):slicePick its.toArray lo hi none=((its.drop (HT.sIx its.length 0 lo)).take (HT.sIx its.length its.length hi - HT.sIx its.length 0 lo)).toArray:=by
 obtain⟨h1,h2,h3⟩:=XG lo hi its.toArray.size
 unfold slicePick
 rw[h1,h2,h3]
 simp only[sliceRange_one,pick_run,List.size_toArray]<;>rfl
def Mj (K:PySem.W.Frag):V->Option Int->Option Int->Hp->VK->Prop:=λx lo hi H Q=>∃a xs,x=.ref a/\SqL K H a xs/\∀p,H p=none->Q (.ref p) (upd H p (.lst (W3 xs lo hi)))
theorem wE:NE X (Mj X.K):=by
 intro pins s σ H x v vl vu lo hi sl Q I rx hs pl pu h
 obtain⟨a,xs,rfl,hx,q⟩:=h
 cases rx
 obtain⟨its,r,ht,hz⟩:=I.list hx
 have hlen:=r.length
 refine⟨"list",_,slot_list_getitem.lookup,ht.isList.typeIs,?_⟩
 refine wpAny_getItem_list_slice ht.isList hs pl pu .none (by simp) ?_ (by rw[List.size_toArray]<;>omega)
 rw[YO,<-hlen]
 refine⟨.ref s.heap.objs.size,_,I.laid (t':=s.toks) (o:=.lst (W3 xs lo hi)) (λb ob q=>Heap.get?_push_of_some _ q) (Nat.le_refl _) ?_,rfl,q _ (I.hok.fresh (Nat.le_refl _))⟩
 exact⟨Nat.le_trans (zj xs lo hi) hz,_,0,(r.drop (HT.sIx xs.length 0 lo)).take (HT.sIx xs.length xs.length hi - HT.sIx xs.length 0 lo),Heap.get?_push_size _ rfl⟩
def JU:V->Bool
 | .non=>true
 | .bl _=>true
 | .int _=>true
 | .str _=>true
 | _=>false
def uX:V->V->Bool
 | .non,.non=>true
 | .bl a,.bl b=>a==b
 | .bl a,.int b=>(if a then 1 else 0)==b
 | .int a,.bl b=>a==(if b then 1 else 0)
 | .int a,.int b=>a==b
 | .str a,.str b=>a==b
 | _,_=>false
theorem Rf {A:Around} {s:Shared} {y x:V} {u v:Value} (ry:qK y u) (rx:qK x v) (fy:JU y=true) (fx:JU x=true):SeqAt.EqAt A s u v (uX y x):=by
 cases y with
 | non=>
   cases ry
   cases x with
   | non=>cases rx;exact SeqAt.EqAt.same _
   | bl b=>cases rx;exact SeqAt.EqAt.none_bool b
   | int b=>obtain⟨t,rfl⟩:=rx;exact SeqAt.EqAt.none_int b t
   | str b=>obtain⟨t,rfl⟩:=rx;exact SeqAt.EqAt.none_str b t
   | _=>exact absurd (show false=true from fx) Bool.false_ne_true
 | bl a=>
   cases ry
   cases x with
   | non=>cases rx;exact SeqAt.EqAt.bool_none a
   | bl b=>cases rx;exact SeqAt.EqAt.bool_bool a b
   | int b=>obtain⟨t,rfl⟩:=rx;exact SeqAt.EqAt.bool_int a b t
   | str b=>obtain⟨t,rfl⟩:=rx;exact SeqAt.EqAt.bool_str a b t
   | _=>exact absurd (show false=true from fx) Bool.false_ne_true
 | int a=>
   obtain⟨t',rfl⟩:=ry
   cases x with
   | non=>cases rx;exact SeqAt.EqAt.int_none a t'
   | bl b=>cases rx;exact SeqAt.EqAt.int_bool a t' b
   | int b=>obtain⟨t,rfl⟩:=rx;exact SeqAt.EqAt.int_int a t' b t
   | str b=>obtain⟨t,rfl⟩:=rx;exact SeqAt.EqAt.int_str a t' b t
   | _=>exact absurd (show false=true from fx) Bool.false_ne_true
 | str a=>
   obtain⟨t',rfl⟩:=ry
   cases x with
   | non=>cases rx;exact SeqAt.EqAt.str_none a t'
   | bl b=>cases rx;exact SeqAt.EqAt.str_bool a t' b
   | int b=>obtain⟨t,rfl⟩:=rx;exact SeqAt.EqAt.str_int a t' b t
   | str b=>obtain⟨t,rfl⟩:=rx;exact SeqAt.EqAt.str_str a t' b t
   | _=>exact absurd (show false=true from fx) Bool.false_ne_true
 | _=>exact absurd (show false=true from fy) Bool.false_ne_true
def VY (x:V) (u:Value):Bool:=match u with
 | .none=>uX .non x
 | .bool b=>uX (.bl b) x
 | .int i _=>uX (.int i) x
 | .str z _=>uX (.str z) x
 | _=>false
theorem xM {x y:V} {u:Value} (r:qK y u) (f:JU y=true):VY x u=uX y x:=by
 cases y with
 | non=>cases r;rfl
 | bl b=>cases r;rfl
 | int i=>obtain⟨t,rfl⟩:=r;rfl
 | str z=>obtain⟨t,rfl⟩:=r;rfl
 | _=>exact absurd (show false=true from f) Bool.false_ne_true
theorem ZP {x:V}:∀{xs:List V} {us:List Value},qF xs us->xs.all JU=true->us.any (VY x)=xs.any λy=>uX y x
 | _,_,.nil,_=>rfl
 | y::xs,u::us,.cons r t,f=>by
   rw[List.all_cons,Bool.and_eq_true]at f
   rw[List.any_cons,List.any_cons,xM r f.1,ZP t f.2]
theorem JF {A:Around} {s:Shared} {x:V} {v:Value} (rx:qK x v) (fx:JU x=true):∀{xs:List V} {us:List Value},qF xs us->xs.all JU=true->∀u∈us,SeqAt.EqAt A s u v (VY x u)
 | _,_,.nil,_=>λu hu=>by cases hu
 | y::xs,u::us,.cons r t,f=>λu' hu=>by
   rw[List.all_cons,Bool.and_eq_true]at f
   rcases List.mem_cons.mp hu with rfl | hu
   . rw[xM r f.1];exact Rf r rx f.1 fx
   . exact JF rx fx t f.2 u' hu
def Z3 (x:V) (xs:List V):Bool:=xs.any λy=>uX y x
def Na (K:PySem.W.Frag) (neg:Bool):R2:=λx y H Q=>∃p xs,y=.ref p/\(SqL K H p xs\/SqT K H p xs)/\JU x=true/\xs.all JU=true/\Q (.bl (if neg then !Z3 x xs else Z3 x xs)) H
theorem J1:Jv X (compareOp .In) (Na X.K false):=by
 intro pins s σ H x y v u Q I rx ry h
 obtain⟨p,xs,rfl,hq,fx,fs,q⟩:=h
 cases ry
 rcases hq with hq | hq
 . obtain⟨its,r,pl,hz⟩:=I.list hq
   refine SeqAt.in_listAt (VY x) pl.isList (λw hw=>JF rx fx r fs w (by simpa using hw)) ⟨.bl _,H,I,rfl,?_⟩
   rw[show its.toArray.any (VY x)=its.any (VY x) by simp,ZP r fs]
   exact q
 . obtain⟨its,r,pl,hz⟩:=I.tuple hq
   refine SeqAt.in_tupleAt (VY x) pl (λw hw=>JF rx fx r fs w (by simpa using hw)) ⟨.bl _,H,I,rfl,?_⟩
   rw[show its.toArray.any (VY x)=its.any (VY x) by simp,ZP r fs]
   exact q
theorem Qy:Jv X (compareOp .NotIn) (Na X.K true):=by
 intro pins s σ H x y v u Q I rx ry h
 obtain⟨p,xs,rfl,hq,fx,fs,q⟩:=h
 cases ry
 rcases hq with hq | hq
 . obtain⟨its,r,pl,hz⟩:=I.list hq
   refine SeqAt.notIn_listAt (VY x) pl.isList (λw hw=>JF rx fx r fs w (by simpa using hw)) ⟨.bl _,H,I,rfl,?_⟩
   rw[show its.toArray.any (VY x)=its.any (VY x) by simp,ZP r fs]
   exact q
 . obtain⟨its,r,pl,hz⟩:=I.tuple hq
   refine SeqAt.notIn_tupleAt (VY x) pl (λw hw=>JF rx fx r fs w (by simpa using hw)) ⟨.bl _,H,I,rfl,?_⟩
   rw[show its.toArray.any (VY x)=its.any (VY x) by simp,ZP r fs]
   exact q
theorem jp:Qe X (.builtin "len") (λxs H Q=>∃p ys,xs=[.ref p]/\(SqL X.K H p ys\/SqT X.K H p ys)/\Q (.int ys.length) H):=by
 intro pins s σ H xs us Q I r h
 obtain⟨p,ys,rfl,hq,q⟩:=h
 obtain⟨u,rfl,rx⟩:=Qv r
 cases rx
 have hn:=Yr
 rcases hq with hq | hq
 . obtain⟨its,r',pl,hz⟩:=I.list hq
   have hlen:=r'.length
   exact Calls.call_len_list pl.isList (by simp only[List.size_toArray]<;>omega) ⟨.int ys.length,H,I.tok _,⟨s.toks+1,by rw[List.size_toArray,hlen]⟩,q⟩
 . obtain⟨its,r',pl,hz⟩:=I.tuple hq
   have hlen:=r'.length
   exact len_tuple pl (by simp only[List.size_toArray]<;>omega) ⟨.int ys.length,H,I.tok _,⟨s.toks+1,by rw[List.size_toArray,hlen]⟩,q⟩
theorem Jp:Qe X (.builtin "len") (λxs H Q=>∃z,xs=[.str z]/\z.length<=sizeLine/\Q (.int z.length) H):=by
 intro pins s σ H xs us Q I r h
 obtain⟨z,rfl,hz,q⟩:=h
 obtain⟨u,rfl,t,rfl⟩:=Qv r
 have hn:=Yr
 exact len_str (by omega) ⟨.int z.length,H,I.tok _,⟨_,rfl⟩,q⟩
theorem QA:Qe X (.type "list") (λxs H Q=>∃p ys,xs=[.ref p]/\(SqL X.K H p ys\/SqT X.K H p ys)/\∀l,H l=none->Q (.ref l) (upd H l (.lst ys))):=by
 intro pins s σ H xs us Q I r h
 obtain⟨p,ys,rfl,hq,q⟩:=h
 obtain⟨u,rfl,rx⟩:=Qv r
 cases rx
 have fin:∀(its:List Value),qF ys its->ys.length<=sizeLine->∀(h':Heap) (c':Nat),(∀b o',s.heap.get? b=some o'->h'.get? b=some o')->
     h'.get? s.heap.objs.size=some {cls:=.type "list",dict:=none,data:=.seq its.toArray c',slots:=#[]}->EP X pins σ Q (.ref s.heap.objs.size) {s with heap:=h'}:=λits r' hz h' c' kp e=>
   ⟨.ref s.heap.objs.size,_,I.laid (t':=s.toks) kp (Nat.le_refl _) (show qH X.prog X.w _ h' _ (.lst ys) from⟨hz,its,c',r',e⟩),rfl,q _ (I.hok.fresh (Nat.le_refl _))⟩
 rcases hq with hq | hq
 . obtain⟨its,r',pl,hz⟩:=I.list hq
   have hlen:=r'.length
   obtain⟨o,ho,hc,n,hd⟩:=pl.isList
   exact call_list_seq p (.inl rfl) ho hc hd (λh' c' kp e=>fin its r' hz h' c' kp e) (by simp only[List.size_toArray]<;>omega)
 . obtain⟨its,r',pl,hz⟩:=I.tuple hq
   have hlen:=r'.length
   obtain⟨o,ho,hc,n,hd⟩:=pl
   exact call_list_seq p (.inr rfl) ho hc hd (λh' c' kp e=>fin its r' hz h' c' kp e) (by simp only[List.size_toArray]<;>omega)
theorem YQ:Qe X (.type "tuple") (λxs H Q=>∃p ys,xs=[.ref p]/\((SqL X.K H p ys/\∀l,H l=none->Q (.ref l) (upd H l (.tup ys)))\/(SqT X.K H p ys/\Q (.ref p) H))):=by
 intro pins s σ H xs us Q I r h
 obtain⟨p,ys,rfl,h⟩:=h
 obtain⟨u,rfl,rx⟩:=Qv r
 cases rx
 rcases h with ⟨hq,q⟩ | ⟨hq,q⟩
 . obtain⟨its,r',pl,hz⟩:=I.list hq
   have hlen:=r'.length
   refine call_tuple_list pl.isList (λh' kp=>?_) (by simp only[List.size_toArray]<;>omega)
   have I1:qx X pins σ H {s with heap:=h'}:=I.kept (t':=s.toks) kp
   have I2:qx X pins σ (upd H h'.objs.size (.tup ys)) {s with heap:=h'.push {cls:=.type "tuple",data:=.seq its.toArray}}:=
     I1.laid (t':=s.toks) (λb o e=>Heap.get?_push_of_some _ e) (Nat.le_refl _) (show qH X.prog X.w _ _ _ (.tup ys) from⟨hz,its,r',IsTup.new _ _⟩)
   exact⟨.ref h'.objs.size,_,I2,rfl,q _ (I1.hok.fresh (Nat.le_refl _))⟩
 . obtain⟨its,r',pl,hz⟩:=I.tuple hq
   exact call_tuple_same pl ⟨.ref p,H,I,rfl,q⟩
def NZ (K:PySem.W.Frag) (T:String) (x:V) (H:Hp):Prop:=match x with
 | .str _=>T="str"
 | .int _=>T="int"
 | .ref p=>(T="list"/\∃xs,SqL K H p xs)\/(T="tuple"/\∃o,K.lookup p=some o/\o.cls=.type "tuple"/\o.dict=none)\/
     (T="dict"/\((∃kvs,H p=some (.dK kvs))\/∃kvs,H p=some (.dT kvs)))\/(T="set"/\∃S n,H p=some (.set S n))
 | _=>False
theorem kI {pins:List (Addr×Obj)} {σ:St} {H:Hp} {s:Shared} {T:String} {x:V} {v:Value} (I:qx X pins σ H s) (r:qK x v) (ty:NZ X.K T x H):
   s.TypeIs v T/\∀a,v=.ref a->∃ob,s.heap.get? a=some ob/\ob.dict=none:=by
 cases x with
 | str z=>
   obtain⟨t,rfl⟩:=r
   cases (show T="str" from ty)
   exact⟨typeIs_str s z t,λ_ e=>nomatch e⟩
 | int i=>
   obtain⟨t,rfl⟩:=r
   cases (show T="int" from ty)
   exact⟨typeIs_int s i t,λ_ e=>nomatch e⟩
 | ref p=>
   cases r
   rcases ty with ⟨rfl,xs,hq⟩ | ⟨rfl,o,hk,hc,hd⟩ | ⟨rfl,hk⟩ | ⟨rfl,S,n,hk⟩
   . obtain⟨its,_,pl,_⟩:=I.list hq
     refine⟨pl.isList.typeIs,λa e=>?_⟩
     cases e
     obtain⟨o,n,e,c,hd,_⟩:=pl
     exact⟨o,e,hd⟩
   . refine⟨⟨o,I.kIn p o hk,hc⟩,λa e=>?_⟩
     cases e
     exact⟨o,I.kIn _ o hk,hd⟩
   . have z:∃o,s.heap.get? p=some o/\o.ExactDict:=by
       rcases hk with ⟨kvs,hk⟩ | ⟨kvs,hk⟩
       . obtain⟨_,_,_,_,o,_,_,e,ex,_⟩:=I.hok p _ hk
         exact⟨o,e,ex⟩
       . obtain⟨_,_,_,_,o,_,_,e,ex,_⟩:=I.hok p _ hk
         exact⟨o,e,ex⟩
     obtain⟨o,e,ex⟩:=z
     refine⟨⟨o,e,ex.1⟩,λa e2=>?_⟩
     cases e2
     exact⟨o,e,ex.2.1⟩
   . obtain⟨o,_,_,_,e,ex,_⟩:=I.hok p _ hk
     refine⟨⟨o,e,ex.1⟩,λa e2=>?_⟩
     cases e2
     exact⟨o,e,ex.2.1⟩
 | _=>exact False.elim ty
def N7 (K:PySem.W.Frag) (T:String) (r:V->List V->Hp->VK->Prop) (to:TE):TE:=λσ H Q=>to σ H λx H1=>NZ K T x H1/\r x [] H1 Q
def tBM (K:PySem.W.Frag) (T:String) (r:V->List V->Hp->VK->Prop) (to:TE) (t:TA):TE:=λσ H Q=>to σ H λx H1=>NZ K T x H1/\t σ H1 λxs H2=>r x xs H2 Q
variable {o e:Expr} {es:List Expr} {to:TE} {t:TA} {name:Str} {apos cpos:Pos} {T id:String} {r:V->List V->Hp->VK->Prop}
theorem X8 (pa:PlainAttrs T) (slot:Slot T name id) (hty:typeOf (.builtin id)=pure (.type "method_descriptor")) (hm:Ry X id r) (ho:JE X o to) (hbase:attributeBase o name X.env (eval o X.env)=eval o X.env:=by rfl) (hline:(apos.endLine==cpos.line)=true:=by rfl):JE X (.Call (.Attribute o name apos) [] [] cpos) (N7 X.K T r to):=.of (by
 have ho:=ho.to
 intro pins s σ H Q I h
 refine wpAny_Call_method0_late hbase hline (jf (ho pins s σ H _ I h) λv s1 ⟨x,H1,I1,r1,ty,q1⟩=>?_)
 obtain⟨h1,h2⟩:=kI I1 r1 ty
 exact⟨T,id,pa,slot,hty,h1,h2,Calls.callWith_builtin rfl (PySem.evalArgs_none (hm pins s1 σ H1 x [] v [] Q I1 r1 .nil q1))⟩)
theorem Nf (pa:PlainAttrs T) (slot:Slot T name id) (hty:typeOf (.builtin id)=pure (.type "method_descriptor")) (hm:Ry X id r) (ho:PE X o to) (ha:PA X (e::es) t)
   (hbase:attributeBase o name X.env (eval o X.env)=eval o X.env:=by rfl)
   (hfew:((backTo cpos (starEach (e::es) X.env)).all (λx=> !x.1)&&(backToKw cpos (keywordEach [] X.env)).all (λx=>x.1.isSome)
     &&decide ((e::es).length+([]:List Keyword).length+(if ([]:List Keyword).isEmpty then 0 else 1) < 30))=true:=by rfl)
   (hline:(apos.endLine==cpos.line)=true:=by rfl) (hs:starEach (e::es) X.env=(false,eval e X.env)::starEach es X.env:=by rfl) (hplain:(backTo cpos (starEach es X.env)).any (·.1)=false:=by rfl):
   PE X (.Call (.Attribute o name apos) (e::es) [] cpos) (tBM X.K T r to t):=by
 intro pins s σ H Q I h
 refine wpAny_Call_method_late hbase hfew hline rfl (jf (ho pins s σ H _ I h) λv s1 ⟨x,H1,I1,r1,ty,q1⟩=>?_)
 obtain⟨h1,h2⟩:=kI I1 r1 ty
 refine⟨T,id,pa,slot,hty,h1,h2,?_⟩
 have hA:=ha cpos pins s1 σ H1 _ I1 q1
 rw[hs]at hA ⊢
 refine Calls.callWith_builtin (by show (false || (backTo cpos (starEach es X.env)).any (·.1))=false;rw[hplain]<;>rfl) (Calls.evalArgs_plain ?_)
 exact jf hA λus s2 ⟨vs,H2,I2,r2,q2⟩=>hm pins s2 σ H2 x vs v us Q I2 r1 r2 q2
theorem zg (pa:PlainAttrs T) (slot:Slot T name id) (hty:typeOf (.builtin id)=pure (.type "method_descriptor")) (hm:Ry X id r) (ho:JE X o to) (ha:JA X (e::es) t) (hbase:attributeBase o name X.env (eval o X.env)=eval o X.env:=by rfl) (hfew:((backTo cpos (starEach (e::es) X.env)).all (λx=> !x.1)&&(backToKw cpos (keywordEach [] X.env)).all (λx=>x.1.isSome)
     &&decide ((e::es).length+([]:List Keyword).length+(if ([]:List Keyword).isEmpty then 0 else 1) < 30))=true:=by rfl) (hline:(apos.endLine==cpos.line)=true:=by rfl) (hs:starEach (e::es) X.env=(false,eval e X.env)::starEach es X.env:=by rfl) (hplain:(backTo cpos (starEach es X.env)).any (·.1)=false:=by rfl):JE X (.Call (.Attribute o name apos) (e::es) [] cpos) (tBM X.K T r to t):=.of (Nf pa slot hty hm ho.to ha.to hbase hfew hline hs hplain)
end
end L2
namespace L2
open PySem PySem.Spec PyProof.Rows
def NW (X:Cx) (id:String) (r:V->List V->Hp->VK->Prop):Prop:=
 ∀(pins:List (Addr×Obj)) (s:Shared) (σ:St) (H:Hp) (x:V) (xs:List V) (v:Value) (us:List Value) (Q:VK),qx X pins σ H s->qK x v->qF xs us->r x xs H Q->
   wpAny (model X.prog X.w) X.A (call (.builtin id) (v::us)) (EP X pins σ Q) X.xe s
theorem qF.one:∀{x:V} {us:List Value},qF [x] us->∃u,us=[u]/\qK x u
 | _,_,.cons r .nil=>⟨_,rfl,r⟩
theorem qF.zero:∀{us:List Value},qF [] us->us=[]
 | _,.nil=>rfl
theorem qF.reverse {xs:List V} {us:List Value} (h:qF xs us):qF xs.reverse us.reverse:=by
 induction h with
 | nil=>exact .nil
 | cons r t ih=>rw[List.reverse_cons,List.reverse_cons];exact qF.append ih (.cons r .nil)
section
variable {X:Cx} {pins:List (Addr×Obj)} {σ:St} {H:Hp} {s:Shared} {l b:Addr} {xs ys zs:List V}
theorem qx.lset {its its':List Value} {n:Nat} {f:Array Value->Array Value} {t':Nat} (I:qx X pins σ H s) (hH:H l=some (.lst xs))
   (e:s.heap.get? l=some {cls:=.type "list",data:=.seq its.toArray n}) (hf:f its.toArray=its'.toArray) (hv:qF ys its') (hz:ys.length<=sizeLine):
   qx X pins σ (upd H l (.lst ys)) {s with heap:=s.heap.update l (Obj.mapSeq f),toks:=t'}:=by
 have q:=PySem.IsL.update e f
 rw[hf]at q
 refine I.write (x:=l) (e:=l) (by rw[hH];exact trivial) (.inl rfl) (λb' u hb hu=>(Heap.get?_update_other s.heap (Obj.mapSeq f) (Ne.symm hb)).trans hu) ⟨_,q⟩ ?_
 exact⟨hz,its',_,hv,q⟩
theorem qx.lstM (I:qx X pins σ H s) (hH:H l=some (.lst xs)):xs.length<=sizeLine/\∃(its:List Value) (n:Nat),qF xs its/\xs.length=its.length/\s.heap.get? l=some {cls:=.type "list",data:=.seq its.toArray n}:=by
 obtain⟨z,its,n,r,e⟩:=I.hok l _ hH
 exact⟨z,its,n,r,r.length,e⟩
theorem y6 {n:Nat} (h:n<=sizeLine):Builtin.List.listTooLong n=false:=by
 unfold Builtin.List.listTooLong
 exact decide_eq_false (by omega)
end
section
variable {X:Cx}
def wZ:V->List V->Hp->VK->Prop:=λx vs H Q=>∃l xs y,x=.ref l/\vs=[y]/\H l=some (.lst xs)/\xs.length < sizeLine/\Q .non (upd H l (.lst (xs++[y])))
theorem Qg:NW X "list.append" wZ:=by
 intro pins s σ H x vs v us Q I rx rv h
 obtain⟨l,xs,y,rfl,rfl,hH,hz,q⟩:=h
 cases rx
 obtain⟨u,rfl,ru⟩:=rv.one
 obtain⟨z,its,n,r,hl,e⟩:=I.lstM hH
 refine call_meets F.slot_list_append ⟨_,e,rfl⟩ F.entry_list_append (F.args_list_append_2 _ _) (PySem.list_append l its.toArray n u (by rw[List.size_toArray];omega)) ⟨e,?_⟩
 refine⟨.non,_,I.lset (its':=its++[u]) hH e (by simp) (r.append (.cons ru .nil)) ?_,rfl,q⟩
 rw[List.length_append,List.length_singleton]
 omega
def wY:V->List V->Hp->VK->Prop:=λx vs H Q=>∃l b xs zs,x=.ref l/\vs=[.ref b]/\H l=some (.lst xs)/\H b=some (.lst zs)/\xs.length+zs.length<=sizeLine/\Q .non (upd H l (.lst (xs++zs)))
theorem vR:NW X "list.extend" wY:=by
 intro pins s σ H x vs v us Q I rx rv h
 obtain⟨l,b,xs,zs,rfl,rfl,hH,hB,hz,q⟩:=h
 cases rx
 obtain⟨u,rfl,ru⟩:=rv.one
 cases ru
 obtain⟨z,its,n,r,hl,e⟩:=I.lstM hH
 obtain⟨z2,its2,n2,r2,hl2,e2⟩:=I.lstM hB
 have hsz:its.toArray.size+its2.toArray.size<=sizeLine:=by rw[List.size_toArray,List.size_toArray];omega
 have hlong:¬(!its.toArray.isEmpty&&Builtin.List.listTooLong (its.toArray.size+its2.toArray.size))=true:=by
   rw[y6 hsz,Bool.and_false]
   exact Bool.false_ne_true
 refine call_meets F.slot_list_extend ⟨_,e,rfl⟩ F.entry_list_extend (F.args_list_extend_2 _ _)
   (AutoSeq1.list_extend_list_list_0 l its.toArray n b its2.toArray n2 hlong (by rw[List.size_toArray];omega) (by omega)) ⟨e,e2,?_⟩
 refine⟨.non,_,I.lset (its':=its++its2) hH e (by simp) (r.append r2) ?_,rfl,q⟩
 rw[List.length_append]
 omega
def yt:V->List V->Hp->VK->Prop:=λx vs H Q=>∃l xs,x=.ref l/\vs=[]/\H l=some (.lst xs)/\Q .non (upd H l (.lst xs.reverse))
theorem VJ:NW X "list.reverse" yt:=by
 intro pins s σ H x vs v us Q I rx rv h
 obtain⟨l,xs,rfl,rfl,hH,q⟩:=h
 cases rx
 have hus:=rv.zero
 subst hus
 obtain⟨z,its,n,r,hl,e⟩:=I.lstM hH
 refine call_meets F.slot_list_reverse ⟨_,e,rfl⟩ F.entry_list_reverse (F.args_list_reverse_1 _) (AutoSeq1.list_reverse_list_0 l its.toArray n (by rw[List.size_toArray];omega)) ⟨e,?_⟩
 refine⟨.non,_,I.lset (its':=its.reverse) hH e (by simp) r.reverse ?_,rfl,q⟩
 rw[List.length_reverse]
 omega
def K7:V->List V->Hp->VK->Prop:=λx vs H Q=>∃l xs,x=.ref l/\vs=[]/\H l=some (.lst xs)/\Q .non (upd H l (.lst []))
theorem xb:NW X "list.clear" K7:=by
 intro pins s σ H x vs v us Q I rx rv h
 obtain⟨l,xs,rfl,rfl,hH,q⟩:=h
 cases rx
 have hus:=rv.zero
 subst hus
 obtain⟨z,its,n,r,hl,e⟩:=I.lstM hH
 refine call_meets F.slot_list_clear ⟨_,e,rfl⟩ F.entry_list_clear (F.args_list_clear_1 _) (AutoSeq1.list_clear_list_0 l its.toArray n (by rw[List.size_toArray];omega)) ⟨e,?_⟩
 exact⟨.non,_,I.lset (its':=[]) (ys:=[]) hH e rfl .nil (Nat.zero_le _),rfl,q⟩
end
section
variable {prog:Program} {w:World} {A:Around} {E:Value->Shared->Prop} {s:Shared}
set_option maxRecDepth 100000 in
end
section
variable {X:Cx}
end
end L2
namespace L2
open PySem PySem.Spec PyProof.Rows
section
variable {κ:Type} [DecidableEq κ]
def qQ (kvs:List (κ×V)) (k:κ):Option V:=(kvs.find? λkv=>decide (kv.1=k)).map (·.2)
def jy (kvs:List (κ×V)) (k:κ) (v:V):List (κ×V):=
 if (kvs.any λkv=>decide (kv.1=k))=true then kvs.map (λkv=>if kv.1=k then (kv.1,v) else kv) else kvs++[(k,v)]
theorem ji {p:κ×V} {r:List (κ×V)} {k:κ} (e:p.1=k):qQ (p::r) k=some p.2:=by simp [qQ,List.find?_cons,e]
theorem jk {p:κ×V} {r:List (κ×V)} {k:κ} (e:¬p.1=k):qQ (p::r) k=qQ r k:=by simp [qQ,List.find?_cons,e]
theorem Qm (k:κ):∀kvs:List (κ×V),(kvs.any λkv=>decide (kv.1=k))=(qQ kvs k).isSome
 | []=>rfl
 | p::r=>by
   rw[List.any_cons]
   by_cases e:p.1=k
   . simp only[ji e,decide_eq_true e,Bool.true_or,Option.isSome_some]
   . rw[jk e,decide_eq_false e,Bool.false_or];exact Qm k r
theorem Wo (k j:κ) (y:V):∀kvs:List (κ×V),qQ (kvs.map λkv=>if kv.1=k then (kv.1,y) else kv) j=(qQ kvs j).map λx=>if j=k then y else x
 | []=>rfl
 | p::r=>by
   have ih:=Wo k j y r
   rw[List.map_cons]
   by_cases h:p.1=k
   . rw[if_pos h]
     by_cases e:p.1=j
     . rw[ji (p:=(p.1,y)) e,ji e,Option.map_some,if_pos (e.symm.trans h)]
     . rw[jk (p:=(p.1,y)) e,jk e,ih]
   . rw[if_neg h]
     by_cases e:p.1=j
     . rw[ji (p:=p) e,ji e,Option.map_some,if_neg (λz=>h (e.trans z))]
     . rw[jk (p:=p) e,jk e,ih]
theorem YW (k j:κ) (y:V):∀kvs:List (κ×V),qQ kvs k=none->qQ (kvs++[(k,y)]) j=if j=k then some y else qQ kvs j
 | [],_=>by
   by_cases e:k=j
   . rw[if_pos e.symm];exact ji (p:=(k,y)) e
   . rw[if_neg (λz=>e z.symm)];exact jk (p:=(k,y)) e
 | p::r,hn=>by
   rw[List.cons_append]
   have hk:¬p.1=k:=λz=>by rw[ji z]at hn;cases hn
   rw[jk hk]at hn
   have ih:=YW k j y r hn
   by_cases e:p.1=j
   . rw[ji e,ji e,if_neg (λz=>hk (e.trans z))]
   . rw[jk e,jk e,ih]
theorem jL (kvs:List (κ×V)) (k j:κ) (y:V):qQ (jy kvs k y) j=if j=k then some y else qQ kvs j:=by
 unfold jy
 by_cases a:(kvs.any λkv=>decide (kv.1=k))=true
 . rw[if_pos a,Wo]
   rw[Qm]at a
   by_cases e:j=k
   . obtain⟨x,hx⟩:=Option.isSome_iff_exists.mp a
     rw[if_pos e,e,hx,Option.map_some,if_pos rfl]
   . rw[if_neg e]
     cases qQ kvs j with
     | none=>rfl
     | some x=>rw[Option.map_some,if_neg e]
 . rw[if_neg a]
   refine YW k j y kvs ?_
   rw[Qm]at a
   cases q:qQ kvs k with
   | none=>rfl
   | some x=>rw[q]at a;exact(a rfl).elim
theorem QO (kvs:List (κ×V)) (k:κ) (v:V):(jy kvs k v).length<=kvs.length+1:=by
 unfold jy
 split
 . rw[List.length_map];omega
 . rw[List.length_append,List.length_cons,List.length_nil];omega
theorem Qn {kvs:List (κ×V)} {k:κ} (v:V) (h:qQ kvs k=none):jy kvs k v=kvs++[(k,v)]:=by
 unfold jy
 rw[Qm,h]
 exact if_neg (by decide)
theorem Jt.isSome_eq {o:Option V} {u:Option Value} (r:Jt o u):o.isSome=u.isSome:=by
 cases o with
 | none=>cases u with
   | none=>rfl
   | some _=>exact(show False from r).elim
 | some _=>cases u with
   | none=>exact(show False from r).elim
   | some _=>rfl
theorem KV.val {kvs:List (κ×V)} {vs:List (κ×Value)} (r:KV kvs vs) (k:κ):Jt (qQ kvs k) (valueAt vs k):=by
 unfold KV at r
 induction r with
 | nil=>exact True.intro
 | @cons p q ps qs h t ih=>
   obtain⟨h1,h2⟩:=h
   by_cases e:p.1=k
   . have e':q.1=k:=h1.symm.trans e
     have b:valueAt (q::qs) k=some q.2:=by simp [valueAt,List.find?_cons,e']
     rw[ji e,b];exact h2
   . have e':¬q.1=k:=λz=>e (h1.trans z)
     have b:valueAt (q::qs) k=valueAt qs k:=by simp [valueAt,List.find?_cons,e']
     rw[jk e,b];exact ih
theorem KV.any {kvs:List (κ×V)} {vs:List (κ×Value)} (r:KV kvs vs) (k:κ):(kvs.any λkv=>decide (kv.1=k))=vs.any λkv=>decide (kv.1=k):=by
 unfold KV at r
 induction r with
 | nil=>rfl
 | cons h t ih=>rw[List.any_cons,List.any_cons,ih,h.1]
theorem KV.repl {kvs:List (κ×V)} {vs:List (κ×Value)} (r:KV kvs vs) (k:κ) {y:V} {u:Value} (ry:qK y u):
   KV (kvs.map λkv=>if kv.1=k then (kv.1,y) else kv) (vs.map λkv=>if kv.1=k then (kv.1,u) else kv):=by
 unfold KV at r ⊢
 induction r with
 | nil=>exact .nil
 | @cons p q ps qs h t ih=>
   rw[List.map_cons,List.map_cons]
   refine .cons ?_ ih
   obtain⟨h1,h2⟩:=h
   by_cases e:p.1=k
   . rw[if_pos e,if_pos (h1.symm.trans e)];exact⟨h1,ry⟩
   . rw[if_neg e,if_neg (λz=>e (h1.trans z))];exact⟨h1,h2⟩
theorem KV.put {kvs:List (κ×V)} {vs:List (κ×Value)} (r:KV kvs vs) (k:κ) {y:V} {u:Value} (ry:qK y u):KV (jy kvs k y) (stored vs k u):=by
 unfold jy stored
 rw[r.any k]
 by_cases e:(vs.any λkv=>decide (kv.1=k))=true
 . rw[if_pos e,if_pos e];exact r.repl k ry
 . rw[if_neg e,if_neg e];exact Paired.snoc r ⟨rfl,ry⟩
theorem KV.length {kvs:List (κ×V)} {vs:List (κ×Value)} (r:KV kvs vs):kvs.length=vs.length:=Paired.length r
end
theorem Yw {P:Program} {w:World} {k:qD} {u:Value} (r:qK (kV k) u):(qR P w).is k u=true:=by
 cases k with
 | inl i=>obtain⟨t,e⟩:=(show ∃t,u=Value.int i t from r);subst e;exact WQ P w i t
 | inr x=>obtain⟨t,e⟩:=(show ∃t,u=Value.str x t from r);subst e;exact WP P w x t
theorem Xe {P:Program} {w:World}:∀{ks:List qD} {us:List Value},qF (ks.map kV) us->ItemsAre (qR P w) ks us
 | [],_,r=>by rw[List.map_nil]at r;cases r;exact .nil
 | k::ks,_,r=>by
   rw[List.map_cons]at r
   cases r with
   | cons h t=>exact .cons (Yw h) (Xe t)
abbrev KT (H:Hp):List (List qD×V)->List (List qD×Addr×Value)->Prop:=Paired λp q=>p.1=q.1/\H q.2.1=some (.tup (p.1.map kV))/\qK p.2 q.2.2
theorem KT.val {H:Hp} {kvs:List (List qD×V)} {xs:List (List qD×Addr×Value)} (r:KT H kvs xs) (k:List qD):Jt (qQ kvs k) ((atKey xs k).map (·.2)):=by
 induction r with
 | nil=>exact True.intro
 | @cons p q ps qs h t ih=>
   obtain⟨h1,_,h2⟩:=h
   by_cases e:p.1=k
   . have e':q.1=k:=h1.symm.trans e
     have b:atKey (q::qs) k=some q.2:=by simp [atKey,List.find?_cons,e']
     rw[ji e,b];exact h2
   . have e':¬q.1=k:=λz=>e (h1.trans z)
     have b:atKey (q::qs) k=atKey qs k:=by simp [atKey,List.find?_cons,e']
     rw[jk e,b];exact ih
theorem KT.repl {H:Hp} {kvs:List (List qD×V)} {xs:List (List qD×Addr×Value)} (r:KT H kvs xs) (k:List qD) {y:V} {u:Value} (ry:qK y u):
   KT H (kvs.map λkv=>if kv.1=k then (kv.1,y) else kv) (xs.map (putAt k u)):=by
 induction r with
 | nil=>exact .nil
 | @cons p q ps qs h t ih=>
   rw[List.map_cons,List.map_cons]
   refine .cons ?_ ih
   obtain⟨h1,h2,h3⟩:=h
   unfold putAt
   by_cases e:p.1=k
   . rw[if_pos e,if_pos (h1.symm.trans e)];exact⟨h1,h2,ry⟩
   . rw[if_neg e,if_neg (λz=>e (h1.trans z))];exact⟨h1,h2,h3⟩
theorem KT.put {H:Hp} {kvs:List (List qD×V)} {xs:List (List qD×Addr×Value)} (r:KT H kvs xs) (k:List qD) {b:Addr} {y:V} {u:Value} (hb:H b=some (.tup (k.map kV))) (ry:qK y u):
   KT H (jy kvs k y) (storedH xs k b u):=by
 have e:(kvs.any λkv=>decide (kv.1=k))=(atKey xs k).isSome:=by
   rw[Qm,(r.val k).isSome_eq,Option.isSome_map]
 unfold jy storedH
 rw[e]
 by_cases q:(atKey xs k).isSome=true
 . rw[if_pos q,if_pos q];exact r.repl k ry
 . rw[if_neg q,if_neg q];exact Paired.snoc r ⟨rfl,hb,ry⟩
theorem KT.keeps {H H':Hp} {kvs:List (List qD×V)} {xs:List (List qD×Addr×Value)} (r:KT H kvs xs) (ht:∀b ys,H b=some (.tup ys)->H' b=some (.tup ys)):KT H' kvs xs:=
 Paired.mapP r λ_ _ z=>⟨z.1,ht _ _ z.2.1,z.2.2⟩
section
variable {P:Program} {w:World} {H:Hp} {h:Heap} {a:Addr}
theorem Kt {u:HO} (ok:Jd P w H h) (e:Rd H a u):qH P w H h a u:=e.ok ok
theorem WZ {kvs:List (qD×V)} (ok:Jd P w H h) (e:Rd H a (.dK kvs)):kvs.length<=sizeLine/\(a==sysModules)=false/\∃vs,KV kvs vs/\h.DictOf (qR P w) a vs:=
 show qH P w H h a (.dK kvs) from Kt ok e
theorem xR {kvs:List (qD×V)} (ok:Jd P w H h) (e:H a=some (.dK kvs)):kvs.length<=sizeLine/\(a==sysModules)=false/\∃vs,KV kvs vs/\h.DictOf (qR P w) a vs:=WZ ok (.inl e)
theorem Yu {ks:List qD} (ok:Jd P w H h) (e:H a=some (.tup (ks.map kV))):(tupleKind (qR P w)).is h ks a:=by
 obtain⟨_,its,r,o,h1,h2,n,h3⟩:=(show qH P w H h a (.tup (ks.map kV)) from ok a _ e)
 exact⟨o,its.toArray,n,h1,h2,h3,by simpa using Xe r⟩
theorem WY {kvs:List (List qD×V)} (ok:Jd P w H h) (e:Rd H a (.dT kvs)):kvs.length<=sizeLine/\(a==sysModules)=false/\
   ∃xs,KT H kvs xs/\h.DictOfH (tupleKind (qR P w)) a xs:=by
 obtain⟨z,y,xs,r,o,es,ep,h1,h2,h3,h4,h5⟩:=(show qH P w H h a (.dT kvs) from Kt ok e)
 refine⟨z,y,xs,r,o,es,ep,h1,h2,h3,h4,λx hx=>?_,h5⟩
 have all:∀{l:List (List qD×V)} {m:List (List qD×Addr×Value)},KT H l m->∀x∈m,(tupleKind (qR P w)).is h x.1 x.2.1:=by
   intro l m q
   induction q with
   | nil=>intro x hx;exact nomatch hx
   | @cons p q ps qs hq t ih=>
     intro x hx
     rcases List.mem_cons.mp hx with e | hx
     . subst e
       exact Yu ok (by rw[<-hq.1];exact hq.2.1)
     . exact ih x hx
 exact all r x hx
theorem Ny {kvs:List (List qD×V)} (ok:Jd P w H h) (e:H a=some (.dT kvs)):kvs.length<=sizeLine/\(a==sysModules)=false/\
   ∃xs,KT H kvs xs/\h.DictOfH (tupleKind (qR P w)) a xs:=WY ok (.inl e)
end
def jB (H:Hp) (a:Addr) (y:V) (r:Option V):Prop:=
 (∃kvs k,Rd H a (.dK kvs)/\y=kV k/\r=qQ kvs k)\/∃kvs k b,Rd H a (.dT kvs)/\y=.ref b/\H b=some (.tup (k.map kV))/\r=qQ kvs k
def QM (H:Hp) (a:Addr) (y v:V) (H':Hp):Prop:=
 (∃kvs k,H a=some (.dK kvs)/\y=kV k/\kvs.length < sizeLine/\H'=upd H a (.dK (jy kvs k v)))\/
 ∃kvs k b,H a=some (.dT kvs)/\y=.ref b/\H b=some (.tup (k.map kV))/\kvs.length < sizeLine/\H'=upd H a (.dT (jy kvs k v))
theorem jB.k {H:Hp} {a:Addr} {kvs:List (qD×V)} {k:qD} (e:H a=some (.dK kvs)):jB H a (kV k) (qQ kvs k):=.inl ⟨kvs,k,.inl e,rfl,rfl⟩
theorem QM.k {H:Hp} {a:Addr} {kvs:List (qD×V)} {k:qD} {v:V} (e:H a=some (.dK kvs)) (hl:kvs.length < sizeLine):QM H a (kV k) v (upd H a (.dK (jy kvs k v))):=.inl ⟨kvs,k,e,rfl,hl,rfl⟩
theorem QM.t {H:Hp} {a b:Addr} {kvs:List (List qD×V)} {k:List qD} {v:V} (e:H a=some (.dT kvs)) (eb:H b=some (.tup (k.map kV))) (hl:kvs.length < sizeLine):
   QM H a (.ref b) v (upd H a (.dT (jy kvs k v))):=.inr ⟨kvs,k,b,e,rfl,eb,hl,rfl⟩
section
variable {X:Cx} {pins:List (Addr×Obj)} {σ:St} {H:Hp} {s:Shared} {a:Addr} {y v:V} {u r:Value} {o:Option V} {A:Around} {E:Value->Shared->Prop}
theorem qx.big (I:qx X pins σ H s):sysModules < s.heap.objs.size:=by
 have h:mainGlobals < s.heap.objs.size:=(I.mod.glob.keeps I.bk).lt
 exact Nat.lt_trans (by decide) h
theorem kA {Q:Value->Shared->Prop} (hu:A.units+1 < cLine) (I:qx X pins σ H s) (g:jB H a y (some v)) (ry:qK y u) (h:∀w' s',qx X pins σ H s'->qK v w'->Q w' s'):
   wpAny (model X.prog X.w) A (getItem (.ref a) u) Q E s:=by
 rcases g with ⟨kvs,k,e,ey,l⟩ | ⟨kvs,k,b,e,ey,eb,l⟩
 . subst ey
   obtain⟨z,hd,vs,rel,dd⟩:=WZ I.hok e
   obtain⟨w',hw,rw'⟩:=Jt.some_of (v:=v) (o:=valueAt vs k) (by rw[l];exact rel.val k)
   exact wpAny_getItem_of (Yw ry) dd.mapOf hw (h w' _ (I.tok _) rw')
 . subst ey
   cases (show u=Value.ref b from ry)
   obtain⟨z,hd,xs,rel,dd⟩:=WY I.hok e
   obtain⟨w',hw,rw'⟩:=Jt.some_of (v:=v) (o:=(atKey xs k).map (·.2)) (by rw[l];exact rel.val k)
   obtain⟨p,hp,hp2⟩:=Option.map_eq_some_iff.mp hw
   refine wpAny_getItem_heap (tupleKind_room_in1 hu) (Yu I.hok eb) dd hp ?_
   rw[hp2]
   exact h w' _ (I.tok _) rw'
theorem MH {Q:Value->Shared->Prop} (hu:A.units+1 < cLine) (I:qx X pins σ H s) (g:jB H a y o) (ry:qK y u) (h:∀s',qx X pins σ H s'->Q (.bool o.isSome) s'):
   wpAny (model X.prog X.w) A (compareOp .In u (.ref a)) Q E s:=by
 rcases g with ⟨kvs,k,e,ey,l⟩ | ⟨kvs,k,b,e,ey,eb,l⟩
 . subst ey
   obtain⟨z,hd,vs,rel,dd⟩:=WZ I.hok e
   refine wpAny_in_of (Yw ry) hd dd.mapOf ?_
   rw[<-(rel.val k).isSome_eq,<-l]
   exact h _ (I.tok _)
 . subst ey
   cases (show u=Value.ref b from ry)
   obtain⟨z,hd,xs,rel,dd⟩:=WY I.hok e
   refine wpAny_in_heap (tupleKind_room_in1 hu) (Yu I.hok eb) hd dd ?_
   have q:=(rel.val k).isSome_eq
   rw[Option.isSome_map]at q
   rw[<-q,<-l]
   exact h _ (I.tok _)
theorem uZ {Q:Value->Shared->Prop} (hu:A.units+1 < cLine) (I:qx X pins σ H s) (g:jB H a y o) (ry:qK y u) (h:∀s',qx X pins σ H s'->Q (.bool (!o.isSome)) s'):
   wpAny (model X.prog X.w) A (compareOp .NotIn u (.ref a)) Q E s:=by
 rcases g with ⟨kvs,k,e,ey,l⟩ | ⟨kvs,k,b,e,ey,eb,l⟩
 . subst ey
   obtain⟨z,hd,vs,rel,dd⟩:=WZ I.hok e
   refine wpAny_notIn_of (Yw ry) hd dd.mapOf ?_
   rw[<-(rel.val k).isSome_eq,<-l]
   exact h _ (I.tok _)
 . subst ey
   cases (show u=Value.ref b from ry)
   obtain⟨z,hd,xs,rel,dd⟩:=WY I.hok e
   refine wpAny_notIn_heap (tupleKind_room_in1 hu) (Yu I.hok eb) hd dd ?_
   have q:=(rel.val k).isSome_eq
   rw[Option.isSome_map]at q
   rw[<-q,<-l]
   exact h _ (I.tok _)
theorem zO {h':Heap} {t':Nat} {ob:HO} (I:qx X pins σ H s) (mu:Rn (H a)) (hs:Heap.SameBut a s.heap h') (he:∃q,h'.get? a=some q) (new:qH X.prog X.w (upd H a ob) h' a ob):
   qx X pins σ (upd H a ob) {s with heap:=h',toks:=t'}:=
 I.write (x:=a) (e:=a) mu (.inl rfl) (λb q hb z=>(hs.2 b hb).trans z) he new
theorem Wd {P:Program} {w:World} {H':Hp} {h':Heap} {kvs:List (qD×V)} {vs:List (qD×Value)} (z:kvs.length<=sizeLine) (hd:(a==sysModules)=false) (rel:KV kvs vs) (dd:h'.DictOf (qR P w) a vs):
   qH P w H' h' a (.dK kvs):=⟨z,hd,vs,rel,dd⟩
theorem kz {H':Hp} {Q:Unit->Shared->Prop} (hu:A.units+1 < cLine) (I:qx X pins σ H s) (g:QM H a y v H') (ry:qK y u) (rv:qK v r) (h:∀s',qx X pins σ H' s'->Q () s'):
   wpAny (model X.prog X.w) A (setItem (.ref a) u r) Q E s:=by
 rcases g with ⟨kvs,k,e,ey,l,eH⟩ | ⟨kvs,k,b,e,ey,eb,l,eH⟩
 . subst ey eH
   obtain⟨z,hd,vs,rel,dd⟩:=xR I.hok e
   have hz:vs.length<=sizeLine:=by rw[<-rel.length];exact z
   have hl:(jy kvs k v).length<=sizeLine:=by have:=QO kvs k v;omega
   refine wpAny_setItem_pairs (hsz:=hz) (Yw ry) dd λh' dd' hs=>h _ ?_
   have he:∃q,h'.get? a=some q:=let ⟨q,_,_,hq,_⟩:=dd';⟨q,hq⟩
   exact zO I (by rw[e];exact True.intro) hs he (Wd hl hd (rel.put k rv) dd')
 . subst ey eH
   cases (show u=Value.ref b from ry)
   obtain⟨z,hd,xs,rel,dd⟩:=Ny I.hok e
   have hz:xs.length<=sizeLine:=by rw[<-Paired.length rel];exact z
   have hl:(jy kvs k v).length<=sizeLine:=by have:=QO kvs k v;omega
   refine wpAny_setItem_heap (hsz:=hz) (tupleKind_room_in1 hu) (Yu I.hok eb) dd λh' dd' hs=>h _ ?_
   obtain⟨q,es,ep,hq,h2,h3,h4,_,h5⟩:=dd'
   refine zO I (by rw[e];exact True.intro) hs ⟨q,hq⟩ ⟨hl,hd,_,(rel.put k eb rv).keeps λc ys ec=>?_,q,es,ep,hq,h2,h3,h4,h5⟩
   rw[qg (Ni ec e (λz=>nomatch z))]
   exact ec
end
section
variable {X:Cx} {pins:List (Addr×Obj)} {σ:St} {H:Hp} {s:Shared} {a:Addr} {kvs:List (qD×V)} {k:qD} {u:Value} {A:Around} {E:Value->Shared->Prop}
end
def NG (i:Expr):Prop:=∀ov iv,subscripted i false ov iv=operate [ov,iv] (getItem ov iv)
theorem wy {prog:Program} {w:World} {A:Around} {E:Value->Shared->Prop} {s:Shared} {env:Env} {value slice:Expr} {pos:Pos} {T id:String} {Q:Value->Shared->Prop}
   (hl:typeLookup (.type T) "__getitem__"=pure (some (.builtin id))) (hs:NG slice)
   (h:wpAny (model prog w) A (eval value env) (λo s₁=>wpAny (model prog w) A (eval slice env) (λi s₂=>s₂.TypeIs o T/\wpAny (model prog w) A (getItem o i) Q E s₂) E s₁) E s):
   wpAny (model prog w) A (eval (.Subscript value slice pos) env) Q E s:=by
 refine Subscript_ (wpAny_mono h (λo s₁ h₁=>wpAny_mono h₁ (λi s₂ h₂=>?_) λ_ _ x=>x) λ_ _ x=>x)
 obtain⟨hT,h₂⟩:=h₂
 unfold subscriptTail
 refine wpAny_bind ?_
 rw[getitemInPython_of_ne hT.not_modules]
 refine wpAny_bind (wpAny_specialOf hT hl ?_)
 have fin:wpAny (model prog w) A (subscripted slice false o i) (λr s₃=>wpAny (model prog w) A (letTemporaryGo value o r >>= λ_=>pure r) Q E s₃) E s₂:=by
   rw[hs o i]
   exact wpAny_operating (wpAny_mono h₂ (λr s₃ h₃=>wpAny_bind (wpAny_letTemporaryGo (wpAny_pure h₃))) λ_ _ x=>x)
 first
   | exact wpAny_pure (wpAny_bind fin)
   | exact wpAny_bind (wpAny_pure (wpAny_bind fin))
   | exact wpAny_bind fin
theorem W1 {X:Cx} {pins:List (Addr×Obj)} {σ:St} {H:Hp} {s:Shared} {a:Addr} {y:V} {o:Option V} (I:qx X pins σ H s) (g:jB H a y o):s.TypeIs (.ref a) "dict":=by
 rcases g with ⟨kvs,k,e,_,_⟩ | ⟨kvs,k,b,e,_,_,_⟩
 . obtain⟨_,_,vs,_,dd⟩:=WZ I.hok e
   exact dd.typeIs
 . obtain⟨_,_,xs,_,dd⟩:=WY I.hok e
   exact dd.typeIs
def Ud (td ty:TE):TE:=λσ H Q=>td σ H λx H1=>ty σ H1 λy H2=>∃a v,x=.ref a/\jB H2 a y (some v)/\Q v H2
def RI (ty td:TE):TE:=λσ H Q=>ty σ H λy H1=>td σ H1 λx H2=>∃a o,x=.ref a/\jB H2 a y o/\Q (.bl o.isSome) H2
def wu (ty td:TE):TE:=λσ H Q=>ty σ H λy H1=>td σ H1 λx H2=>∃a o,x=.ref a/\jB H2 a y o/\Q (.bl (!o.isSome)) H2
def Ks (td ty tv:TE):TS:=λD σ H=>tv σ H λv H1=>td σ H1 λx H2=>ty σ H2 λy H3=>∃a H4,x=.ref a/\QM H3 a y v H4/\D.nx σ H4
section
variable {X:Cx} {o i e value:Expr} {pos pos' tpos:Pos} {td ty tv:TE}
theorem qG (hu:X.A.units+1 < cLine) (ho:JE X o td) (hi:JE X i ty) (hs:NG i):JE X (.Subscript o i pos) (Ud td ty):=.of (by
 have ho:=ho.to
 have hi:=hi.to
 intro pins s σ H Q I h
 refine wy PySem.F.slot_dict_getitem.lookup hs (jf (ho pins s σ H _ I h) λu s1 ⟨x,H1,I1,rx,q1⟩=>jf (hi pins s1 σ H1 _ I1 q1) λiv s2 ⟨y,H2,I2,ry,a,v,ex,g,q2⟩=>?_)
 subst ex
 obtain rfl:u=Value.ref a:=rx
 exact⟨W1 I2 g,kA hu I2 g ry λw' s3 I3 rw'=>⟨v,H2,I3,rw',q2⟩⟩)
theorem QX (hu:X.A.units+1 < cLine) (hi:JE X i ty) (ho:JE X o td):JC X .In i o (RI ty td):=.of (by
 have hi:=hi.to
 have ho:=ho.to
 intro pins s σ H Q I h
 refine jf (hi pins s σ H _ I h) λiv s1 ⟨y,H1,I1,ry,q1⟩=>jf (ho pins s1 σ H1 _ I1 q1) λu s2 ⟨x,H2,I2,rx,a,ov,ex,g,q2⟩=>?_
 subst ex
 obtain rfl:u=Value.ref a:=rx
 exact MH hu I2 g ry λs3 I3=>⟨.bl ov.isSome,H2,I3,rfl,q2⟩)
theorem Q8 (hu:X.A.units+1 < cLine) (hi:JE X i ty) (ho:JE X o td):JC X .NotIn i o (wu ty td):=.of (by
 have hi:=hi.to
 have ho:=ho.to
 intro pins s σ H Q I h
 refine jf (hi pins s σ H _ I h) λiv s1 ⟨y,H1,I1,ry,q1⟩=>jf (ho pins s1 σ H1 _ I1 q1) λu s2 ⟨x,H2,I2,rx,a,ov,ex,g,q2⟩=>?_
 subst ex
 obtain rfl:u=Value.ref a:=rx
 exact uZ hu I2 g ry λs3 I3=>⟨.bl (!ov.isSome),H2,I3,rfl,q2⟩)
theorem jl (hu:X.A.units+1 < cLine) (ho:JE X o td) (hi:JE X i ty) (hv:JE X value tv) (hs:swapsWith value (some (.Subscript o i pos')) pos.line X.env=pure false):JS X (.Assign [.Subscript o i pos'] value pos) (Ks td ty tv):=.of (by
 have ho:=ho.to
 have hi:=hi.to
 have hv:=hv.to
 intro pins s σ H D I h
 refine wpAny_Assign_Subscript (jf (hv pins s σ H _ I h) λr s1 ⟨v,H1,I1,rv,q1⟩=>jf (ho pins s1 σ H1 _ I1 q1) λu s2 ⟨x,H2,I2,rx,q2⟩=>jf (hi pins s2 σ H2 _ I2 q2) λiv s3 ⟨y,H3,I3,ry,a,H4,ex,g,q3⟩=>?_) hs
 subst ex
 obtain rfl:u=Value.ref a:=rx
 exact kz hu I3 g ry rv λs4 I4=>⟨σ,H4,I4,q3⟩)
end
theorem W0 {P:Program} {w:World} {H:Hp} (h:Heap) (hb:sysModules < h.objs.size):qH P w H (h.push {cls:=.type "dict",data:=.dict #[]}) h.objs.size (.dK []):=
 ⟨Nat.zero_le _,beq_eq_false_iff_ne.mpr (Ne.symm (Nat.ne_of_lt hb)),[],.nil,Heap.DictOf.new h⟩
theorem xQ {P:Program} {w:World} {H:Hp} (h:Heap) (hb:sysModules < h.objs.size):qH P w H (h.push {cls:=.type "dict",data:=.dict #[]}) h.objs.size (.dT []):=
 ⟨Nat.zero_le _,beq_eq_false_iff_ne.mpr (Ne.symm (Nat.ne_of_lt hb)),[],.nil,_,#[],0,Heap.get?_push_size _ rfl,⟨rfl,rfl,rfl⟩,rfl,rfl,List.nodup_nil⟩
def kO:TE:=λ_ H Q=>∀p,H p=none->Q (.ref p) (upd H p (.dK []))
def kN:TE:=λ_ H Q=>∀p,H p=none->Q (.ref p) (upd H p (.dT []))
section
variable {X:Cx} {pos:Pos}
theorem yD:PE X (.Dict [] [] pos) kO:=λpins s σ H Q I h=>
 wpAny_Dict_empty ⟨.ref s.heap.objs.size,_,I.laid (a:=s.heap.objs.size) (o:=.dK []) (t':=s.toks) (λ_ _ q=>Heap.get?_push_of_some _ q) (Nat.le_refl _) (W0 s.heap I.big),rfl,h _ (I.hok.fresh (Nat.le_refl _))⟩
theorem jO:JE X (.Dict [] [] pos) kO:=.of (yD)
theorem yC:PE X (.Dict [] [] pos) kN:=λpins s σ H Q I h=>
 wpAny_Dict_empty ⟨.ref s.heap.objs.size,_,I.laid (a:=s.heap.objs.size) (o:=.dT []) (t':=s.toks) (λ_ _ q=>Heap.get?_push_of_some _ q) (Nat.le_refl _) (xQ s.heap I.big),rfl,h _ (I.hok.fresh (Nat.le_refl _))⟩
theorem xv:JE X (.Dict [] [] pos) kN:=.of (yC)
end
def Vm:List (TE×TE)->St->Hp->(List (V×V)->Hp->Prop)->Prop
 | [],_,H,Q=>Q [] H
 | (tk,tv)::r,σ,H,Q=>tk σ H λx H1=>tv σ H1 λy H2=>Vm r σ H2 λps H3=>Q ((x,y)::ps) H3
abbrev VV:List (V×V)->List (Value×Value)->Prop:=Paired λp q=>qK p.1 q.1/\qK p.2 q.2
def NF (X:Cx) (pos:Pos) (keys:List (Option Expr)) (values:List Expr) (trs:List (TE×TE)):Prop:=
 ∀(pins:List (Addr×Obj)) (s:Shared) (σ:St) (H:Hp) (Q:List (V×V)->Hp->Prop),qx X pins σ H s->Vm trs σ H Q->
   wpAny (model X.prog X.w) X.A (evalPairs (pairTrees keys values X.env pos)) (λvs s'=>∃ps H',qx X pins σ H' s'/\VV ps vs/\Q ps H') X.xe s
@[irreducible] def we (X:Cx) (pos:Pos) (keys:List (Option Expr)) (values:List Expr) (trs:List (TE×TE)):Prop:=NF X pos keys values trs
theorem we.of {X:Cx} {pos:Pos} {keys:List (Option Expr)} {values:List Expr} {trs:List (TE×TE)} (h:NF X pos keys values trs):we X pos keys values trs:=by unfold we;exact h
theorem we.to {X:Cx} {pos:Pos} {keys:List (Option Expr)} {values:List Expr} {trs:List (TE×TE)} (h:we X pos keys values trs):NF X pos keys values trs:=by unfold we at h;exact h
theorem uG {X:Cx} {pos:Pos}:we X pos [] [] []:=.of (by
 exact λpins s σ H Q I h=>pairTrees_nil_walk ⟨[],H,I,.nil,h⟩)
theorem yz {X:Cx} {pos:Pos} {k v:Expr} {ks:List (Option Expr)} {vs:List Expr} {tk tv:TE} {trs:List (TE×TE)} (hk:PE X k tk) (hv:PE X v tv) (hr:NF X pos ks vs trs):
   NF X pos (some k::ks) (v::vs) ((tk,tv)::trs):=λpins s σ H Q I h=>
 pairTrees_cons_walk (jf (hk pins s σ H _ I h) λu s1 ⟨x,H1,I1,rx,q1⟩=>jf (hv pins s1 σ H1 _ I1 q1) λw2 s2 ⟨y,H2,I2,ry,q2⟩=>
   jf (hr pins s2 σ H2 _ I2 q2) λws s3 ⟨ps,H3,I3,rel,q3⟩=>⟨(x,y)::ps,H3,I3,.cons ⟨rx,ry⟩ rel,q3⟩)
theorem Yx {X:Cx} {pos:Pos} {k v:Expr} {ks:List (Option Expr)} {vs:List Expr} {tk tv:TE} {trs:List (TE×TE)} (hk:JE X k tk) (hv:JE X v tv) (hr:we X pos ks vs trs):we X pos (some k::ks) (v::vs) ((tk,tv)::trs):=.of (yz hk.to hv.to hr.to)
def Qs (kvs more:List (qD×V)):List (qD×V):=more.foldl (λacc kv=>jy acc kv.1 kv.2) kvs
theorem KV.merge:∀{more:List (qD×V)} {rs:List (qD×Value)} {kvs:List (qD×V)} {vs:List (qD×Value)},KV more rs->KV kvs vs->KV (Qs kvs more) (merged vs rs):=by
 intro more rs kvs vs r
 unfold KV at r
 induction r generalizing kvs vs with
 | nil=>intro q;exact q
 | @cons p q ps qs h t ih=>
   intro r0
   have e:KV (jy kvs p.1 p.2) (stored vs q.1 q.2):=by
     have:=r0.put p.1 h.2
     rw[<-h.1];exact this
   exact ih e
theorem QV:∀(more kvs:List (qD×V)),(Qs kvs more).length<=kvs.length+more.length
 | [],kvs=>by show kvs.length<=kvs.length+0;omega
 | p::r,kvs=>by
   have h1:=QV r (jy kvs p.1 p.2)
   have h2:=QO kvs p.1 p.2
   show (Qs (jy kvs p.1 p.2) r).length<=_
   rw[List.length_cons];omega
theorem YD {P:Program} {w:World}:∀{kvs:List (qD×V)} {ws:List (Value×Value)},VV (kvs.map λkv=>(kV kv.1,kv.2)) ws->∃rs,Carries (qR P w) ws rs/\KV kvs rs
 | [],_,r=>by rw[List.map_nil]at r;cases r;exact⟨[],True.intro,.nil⟩
 | p::kvs,_,r=>by
   rw[List.map_cons]at r
   cases r with
   | @cons a b as bs h t=>
     obtain⟨rs,c,q⟩:=YD (P:=P) (w:=w) t
     obtain⟨b1,b2⟩:=b
     exact⟨(p.1,b2)::rs,⟨Yw h.1,rfl,c⟩,.cons ⟨rfl,h.2⟩ q⟩
def RH (trs:List (TE×TE)):TE:=λσ H Q=>∀p,H p=none->Vm trs σ (upd H p (.dK [])) λps H2=>H2 p=some (.dK [])/\∃kvs:List (qD×V),ps=kvs.map (λkv=>(kV kv.1,kv.2))/\kvs.length<=15/\Q (.ref p) (upd H2 p (.dK (Qs [] kvs)))
theorem uK {X:Cx} {pos:Pos} {keys:List (Option Expr)} {values:List Expr} {trs:List (TE×TE)} (h:we X pos keys values trs) (hall:keys.all (·.isSome)=true) (hl:keys.length=values.length) (h0:keys≠[]) (h15:keys.length<=15):JE X (.Dict keys values pos) (RH trs):=.of (by
 have h:=h.to
 intro pins s σ H Q I q
 have hn:=I.hok.fresh (Nat.le_refl s.heap.objs.size)
 have I1:=I.laid (a:=s.heap.objs.size) (o:=.dK []) (h':=s.heap.push {cls:=.type "dict",data:=.dict #[]}) (t':=s.toks) (λ_ _ q=>Heap.get?_push_of_some _ q) (Nat.le_refl _) (W0 s.heap I.big)
 refine wpAny_Dict_walk (knd:=qR X.prog X.w) hall hl h0 h15 (jf (h pins _ σ _ _ I1 (q _ hn)) λws s2 ⟨ps,H2,I2,rel,e,kvs,ep,lk,q2⟩=>?_)
 subst ep
 obtain⟨rs,c,rk⟩:=YD (P:=X.prog) (w:=X.w) rel
 obtain⟨z,hd,vs0,r0,dd⟩:=xR I2.hok e
 cases r0
 refine⟨rs,c,dd,λh' dd' hs=>⟨.ref s.heap.objs.size,_,?_,rfl,q2⟩⟩
 have hz:(Qs [] kvs).length<=sizeLine:=by
   have h1:=QV kvs []
   rw[List.length_nil]at h1
   rw[sizeLine_eq];omega
 have he:∃q,h'.get? s.heap.objs.size=some q:=let ⟨q,_,_,hq,_⟩:=dd';⟨q,hq⟩
 exact zO I2 (by rw[e];exact True.intro) hs he (Wd hz hd (rk.merge .nil) dd'))
structure M1 (X:Cx) (o:Expr) (m:Str) (apos:Pos) (e:Expr) (cpos:Pos):Prop where
 base:attributeBase o m X.env (eval o X.env)=eval o X.env
 few:((backTo cpos (starEach [e] X.env)).all (λx=> !x.1)&&(backToKw cpos (keywordEach [] X.env)).all (λx=>x.1.isSome)
   &&decide (([e]:List Expr).length+([]:List Keyword).length+(if ([]:List Keyword).isEmpty then 0 else 1) < 30))=true
 line:(apos.endLine==cpos.line)=true
 trees:backTo cpos (starEach [e] X.env)=[(false,eval e X.env)]
structure M2 (X:Cx) (o:Expr) (m:Str) (apos:Pos) (e f:Expr) (cpos:Pos):Prop where
 base:attributeBase o m X.env (eval o X.env)=eval o X.env
 few:((backTo cpos (starEach [e,f] X.env)).all (λx=> !x.1)&&(backToKw cpos (keywordEach [] X.env)).all (λx=>x.1.isSome)
   &&decide (([e,f]:List Expr).length+([]:List Keyword).length+(if ([]:List Keyword).isEmpty then 0 else 1) < 30))=true
 line:(apos.endLine==cpos.line)=true
 trees:backTo cpos (starEach [e,f] X.env)=[(false,eval e X.env),(false,eval f X.env)]
section
variable {X:Cx} {pins:List (Addr×Obj)} {σ:St} {H:Hp} {s:Shared} {a:Addr} {y d:V} {u r:Value} {o:Option V} {A:Around} {E:Value->Shared->Prop}
end
section
variable {X:Cx} {o e f:Expr} {apos cpos:Pos} {td ty tx:TE}
end
section
variable {X:Cx} {pins:List (Addr×Obj)} {σ:St} {H:Hp} {s:Shared} {a:Addr} {kvs:List (qD×V)} {A:Around} {E:Value->Shared->Prop}
end
section
variable {X:Cx} {pins:List (Addr×Obj)} {σ:St} {H:Hp} {s:Shared} {a:Addr} {y:V} {u:Value} {A:Around} {E:Value->Shared->Prop}
end
end L2
namespace Att
open PySem PySem.W PySem.Calls PyProof.Rows
theorem zo {P:Params} {h:Heap}:∀(ns:List Int) (vs:List Value),WellAll P h vs (ns.map WData.int)->IntsAre vs ns:=by
 intro ns
 induction ns with
 | nil=>
   intro vs w
   rw[List.map_nil]at w
   cases w
   exact .nil
 | cons n ns ih=>
   intro vs w
   rw[List.map_cons]at w
   cases w with
   | cons a b=>
     cases a
     exact .cons _ _ (ih _ b)
theorem vo {l:OpenLaw} {n:Nat} (hn:l.most=some n) {P:Params} {h:Heap} {args:List WData} {vals:List Value}
   (hpre:l.row.toRowW.claim.pre args=true) (hwl:WellAll P h vals args):
   ∃a vs ns,vals=[Value.ref a]/\args=[WData.list (ns.map WData.int)]/\h.get? a=some {cls:=.type "list",data:=.seq vs.toArray}/\IntsAre vs ns/\ns.length<=n:=by
 have hsh:WShape.hasAll [] args [.list .int]=true:=(pre_splitW hpre).1
 have hc:l.pre.holds [] {args:=args}=true:=(pre_splitW hpre).2
 obtain⟨d,r,rfl,h1,h2⟩:=hasAllW_cons hsh
 obtain rfl:=hasAllW_nil h2
 obtain⟨xs,rfl,h3⟩:=hasW_list h1
 obtain⟨ns,rfl⟩:=items_int h3
 have hlen:ns.length<=n:=by
   unfold OpenLaw.pre at hc
   have h4:(WTm.not (.lt (.lit (.int (n:Int))) (.len (.arg 0)))).holds [] {args:=[.list (ns.map .int)]}=true:=by
     have h4:=(holds_andW hc).1
     rw[hn]at h4
     exact h4
   have h5:=condW_of h4 (w_not (w_lt w_lit (w_len_list (w_arg rfl))))
   rw[List.length_map]at h5
   refine Nat.le_of_not_lt λq=>?_
   have q':(n:Int) < ((ns.length:Nat):Int):=by omega
   first
     | (rw[decide_eq_true q']at h5;exact absurd h5 (by decide))
     | (simp at h5;omega)
 cases hwl with
 | cons w1 w2=>
   cases w2
   cases w1 with
   | list ho hall=>exact⟨_,_,ns,rfl,rfl,ho,zo ns _ hall,hlen⟩
theorem vB (l:OpenLaw) (args:List WData):l.row.toRowW.claim.post args (.bool true) args=true:=
 postW_of (r:=l.row.toRowW) (X:=(true==true))
   (show WShape.has [] (.bool true) .bool=true by first | rfl | decide | simp [WShape.has,WShape.arms,WShape.armsAll])
   (show (WTm.eq .res (.lit (.bool true))).value [] {args:=args,res:=some (.bool true),after:=args}=some (.bool (true==true)) from w_eq_bool (w_res rfl) w_lit) rfl
theorem attach_call {l:OpenLaw} {n:Nat} {q:Program} {loose:List Str} {XP:(Str->Option Value)->Heap->Prop} {YP:World->Heap->Prop} {d:DefRec}
   (hn:l.most=some n) (hdf:d.params.defaults=[])
   (call:∀(w:World) (s₀ s₁:Shared) (mg mb:Str->Option Value) (fa:Addr) (o:Obj) (pm cd doc:Value) (a:Addr) (vs:List Value) (ns:List Int),
     Ground q loose [] XP w s₀ mg mb s₁.heap->YP w s₁.heap->
     s₁.heap.get? fa=some o->o.data=.func (docDef d.name d.params d.body d.scope pm cd doc)->s₁.heap.CodeRec cd d.name->mg d.name=some (.ref fa)->
     s₁.heap.get? a=some {cls:=.type "list",data:=.seq vs.toArray}->IntsAre vs ns->ns.length<=n->s₁.gens=#[]->
     codeAny (model l.prog w) callerA (.call (.ref fa) ⟨[.ref a],[]⟩) (λr s'=>r=.ok (.ret (.bool true))/\OldK s₁.heap s'.heap/\s'.os=s₁.os/\AllBare s'.gens) s₁):
   WalkO q loose XP YP l.row.toRowW d [] (λf vs=>PySem.call f vs):=by
 intro w s₀ s₁ mg mb G Y fa o pm cd doc dV kV ho hd hcd hD hmg hg args vals as hpre hlay hrd hwl hlo
 obtain rfl:dV=.none:=Dflts.none hD hdf
 obtain rfl:kV=.none:=Dflts.noKw hD
 obtain⟨a,vs,ns,rfl,rfl,hobj,hints,hlen⟩:=vo hn hpre hwl
 refine enter_call (codeAny_mono (call w s₀ s₁ mg mb fa o pm cd doc a vs ns G Y ho (fd_plain hd) hcd hmg hobj hints hlen hg) λr s' hq=>?_)
 obtain⟨rfl,h2,h3,h4⟩:=hq
 exact⟨.inl ⟨.bool true,.bool true,[],rfl,λ_=>rfl,.bool true,vB l _,λ_=>⟨List.Pairwise.nil,λ_ hm=>(nomatch hm)⟩⟩,h2,h3,h4⟩
section
variable {prog:Program} {w:World} {A:Around} {E:Value->Shared->Prop} {s:Shared} {K:Frag}
end
end Att
namespace L2
open PySem PySem.Spec PyProof.Rows
theorem YV:∀{vs:List Value} {ns:List Int},IntsAre vs ns->qF (ns.map V.int) vs
 | _,_,.nil=>.nil
 | _,_,.cons n t h=>.cons ⟨t,rfl⟩ (YV h)
def Rm (H:Hp):Prop:=∀b,H b=none\/∃o xs,H b=some (.frz o (.lst xs))
theorem xi {P:Program} {w:World} {K:PySem.W.Frag} {mg mb:Str->Option Value} {CX:Vd} {k:Nat} {fa a:Addr} {fd:FuncData} {x:Str} {sp:Sp} {s₁:Shared} {vs:List Value} {ns:List Int}
   (KX:K.In s₁.heap) (hns:s₁.heap.Ns mainGlobals mg) (hb:s₁.heap.Ns builtinsNs mb) (hbb:∀x:Str,x≠"__name__"->mb x=bootBuiltins x) (hlim:s₁.heap.NoLimit) (hg:s₁.gens=#[])
   (ha:s₁.heap.get? a=some {cls:=.type "list",data:=.seq vs.toArray}) (hi:IntsAre vs ns) (hl:ns.length<=sizeLine) (hr:q5 k callerA)
   (F:∀base:Heap,K.In base->base.Ns mainGlobals mg->qp P w K mg base CX k fa fd [x] sp) (hbind:∀(s:Shared) (u:Value),BindsTo s fd ⟨[u],[]⟩ [(x,u)])
   (hsp:∀H:Hp,Rm H->SqL K H a (ns.map V.int)->sp [.ref a] H (λv _=>v=.bl true) λ_ _ _=>False)
   (hCX:∀H e s',CX [] H s₁ (λ_ _ _=>False) e s'->False):
   codeAny (model P w) callerA (.call (.ref fa) ⟨[.ref a],[]⟩) (λr s'=>r=.ok (.ret (.bool true))/\OldK s₁.heap s'.heap/\s'.os=s₁.os/\AllBare s'.gens) s₁:=by
 have rv:=YV hi
 have lenV:=hi.length
 have core:∀H:Hp,Rm H->SqL K H a (ns.map V.int)->Jd P w H s₁.heap->(∀b,H b≠none->b=a)->(H a≠none->K.lookup a=none)->
     codeAny (model P w) callerA (.call (.ref fa) ⟨[.ref a],[]⟩) (λr s'=>r=.ok (.ret (.bool true))/\OldK s₁.heap s'.heap/\s'.os=s₁.os/\AllBare s'.gens) s₁:=by
   intro H hO hS hok hA hK
   have base_of:∀{b:Addr} {o:Obj},s₁.heap.get? b=some o->H b=none->(Wb s₁.heap H).get? b=some o:=λe n=>xE e n
   have noA:∀{b:Addr} {o:Obj} {es:Array DictEntry} {ep:Nat},s₁.heap.get? b=some o->o.data=.dict es ep->H b=none:=λ{b o es ep} e d=>by
     cases q:H b with
     | none=>rfl
     | some u=>
       have e':b=a:=hA b (by rw[q];simp)
       subst e'
       rw[ha]at e;cases e
       have d':Data.seq vs.toArray _=Data.dict es ep:=d
       cases d'
   have nsK:∀{b:Addr} {m:Str->Option Value},s₁.heap.Ns b m->(Wb s₁.heap H).Ns b m:=λ{b m} ⟨o,es,ep,e,d,r⟩=>⟨o,es,ep,base_of e (noA e d),d,r⟩
   have hKb:K.In (Wb s₁.heap H):=λb o e=>base_of (KX b o e) (by
     cases q:H b with
     | none=>rfl
     | some u=>
       have e':b=a:=hA b (by rw[q];simp)
       subst e'
       rw[hK (by rw[q];simp)]at e;cases e)
   have hM:Mod K mg (Wb s₁.heap H):=⟨hKb,nsK hns,⟨mb,nsK hb,hbb⟩,let ⟨mc,h1,h2⟩:=hlim;⟨mc,nsK h1,h2⟩⟩
   have e0:V6 P w K mg (Wb s₁.heap H) callerA [] s₁ H:=⟨rfl,hM,λb o e=>ur e,Nat.le_of_eq (kl _ _),trivial,λb hb=>absurd (show b∈([]:List Addr) from hb) (by simp),hok,.of_eq hg⟩
   refine codeAny_mono ((F _ hKb (nsK hns)).run callerA [] s₁ H ⟨[.ref a],[]⟩ [.ref a] [.ref a] _ _ hr e0 (hbind s₁ (.ref a)) (.cons rfl .nil) (hsp H hO hS)) λr s' h=>?_
   cases r with
   | error e=>exact(hCX H e s' h).elim
   | ok fl=>
     cases fl with
     | next=>exact False.elim h
     | brk=>exact False.elim h
     | cont=>exact False.elim h
     | ret u=>
       obtain⟨v,H',os,bare,un,hok',r',q⟩:=h
       have q':v=.bl true:=q
       subst q'
       obtain rfl:u=Value.bool true:=r'
       refine⟨rfl,OldK.of_keep λb o e=>?_,os,bare⟩
       cases q:H b with
       | none=>exact un.keep b o e q (by intro z;exact absurd (show b∈([]:List Addr) from z) (by simp)) (by simp)
       | some u=>
         rcases hO b with z | ⟨ob,xs,z⟩
         . rw[q]at z;cases z
         . have z2:=un.frzs b ob _ z
           obtain⟨e1,_⟩:=hok b _ z
           obtain⟨e2,_⟩:=hok' b _ z2
           rw[e]at e1;cases e1
           exact e2
 cases hk:K.lookup a with
 | some o=>
   have e:=KX a o hk
   rw[ha]at e
   cases e
   refine core (λ_=>none) (λ_=>.inl rfl) (.inr ⟨_,vs.toArray,_,hk,rfl,rfl,rfl,by rw[List.size_toArray,lenV];exact hl,by simpa using rv⟩) (λb u z=>by have z':(none:Option HO)=some u:=z;cases z') (λb z=>absurd rfl z) λz=>absurd rfl z
 | none=>
   refine core (λb=>if b=a then some (.frz {cls:=.type "list",data:=.seq vs.toArray} (.lst (ns.map V.int))) else none) (λb=>?_) (.inl (.inr ⟨{cls:=.type "list",data:=.seq vs.toArray},if_pos rfl⟩)) (λb u z=>?_) (λb z=>?_) λ_=>hk
   . by_cases hb:b=a
     . exact .inr ⟨_,_,if_pos hb⟩
     . exact .inl (if_neg hb)
   . by_cases hb:b=a
     . have z':=(if_pos hb).symm.trans z
       cases z'
       subst hb
       exact⟨ha,by rw[List.length_map];exact hl,vs,_,rv,ha⟩
     . have z':=(if_neg hb).symm.trans z
       cases z'
   . by_cases hb:b=a
     . exact hb
     . exact absurd (if_neg hb) z
end L2
namespace L2
open PySem PySem.Spec PyProof.Rows
theorem walk_of {l:PySem.W.OpenLaw} {n k:Nat} {q:Program} {loose:List Str} {XP:(Str->Option Value)->Heap->Prop} {YP:World->Heap->Prop} {d:DefRec} {K:Params->PySem.W.Frag} {CX:World->Vd} {sp:World->Sp} {x:Str}
   (hn:l.most=some n) (hn2:n<=sizeLine) (hdf:d.params.defaults=[]) (hr:q5 k callerA)
   (hY:∀(w:World) (h:Heap),YP w h->(K w.params).In h)
   (F:∀(w:World) (mg:Str->Option Value) (fa:Addr) (h:Heap),(K w.params).In h->h.Ns mainGlobals mg->mg d.name=some (.ref fa)->
     ∃fd:FuncData,(∀(s:Shared) (u:Value),BindsTo s fd ⟨[u],[]⟩ [(x,u)])/\
      ∀base:Heap,(K w.params).In base->base.Ns mainGlobals mg->qp l.prog w (K w.params) mg base (CX w) k fa fd [x] (sp w))
   (hsp:∀(w:World) (H:Hp) (a:Addr) (ns:List Int),ns.length<=n->Rm H->SqL (K w.params) H a (ns.map V.int)->sp w [.ref a] H (λv _=>v=.bl true) λ_ _ _=>False)
   (hCX:∀(w:World) (H:Hp) (s:Shared) (e:Value) (s':Shared),CX w [] H s (λ_ _ _=>False) e s'->False):
   PySem.W.WalkO q loose XP YP l.row.toRowW d [] (λf vs=>PySem.call f vs):=by
 refine Att.attach_call hn hdf λw s₀ s₁ mg mb fa o pm cd doc a vs ns G Y ho hd hcd hmg hobj hints hlen hg=>?_
 have KX:=hY w _ Y
 obtain⟨fd,hb,hF⟩:=F w mg fa _ KX G.T.g hmg
 exact xi KX G.T.g G.T.b G.T.builtins G.T.nolimit hg hobj hints (Nat.le_trans hlen hn2) hr hF hb (λH hO hS=>hsp w H a ns hlen hO hS) λH e s'=>hCX w H s₁ e s'
end L2
namespace L2
open PySem PySem.Spec PyProof.Rows
def QP (s:Stmt) (j:Nat):Stmt:=match s with
 | .ClassDef _ _ _ body _ _ _ _ _ _ _=>body.getD j (.Pass ⟨0,0,0,0⟩)
 | _=>.Pass ⟨0,0,0,0⟩
def QR (s:Stmt):Arguments:=match s with
 | .FunctionDef _ a _ _ _ _ _ _ _ _=>a
 | _=>{posonlyargs:=[],args:=[],vararg:=none,kwonlyargs:=[],kw_defaults:=[],kwarg:=none,defaults:=[]}
def Qc (s:Stmt):List Stmt:=match s with
 | .FunctionDef _ _ b _ _ _ _ _ _ _=>b
 | _=>[]
def qk (s:Stmt):Scope:=match s with
 | .FunctionDef _ _ _ _ _ _ sc _ _ _=>sc
 | _=>{kind:=.function,names:=[],isGenerator:=false,isCoroutine:=false}
abbrev qM:Vd:=λ_ _ _ _ _ _=>False
abbrev E0:XK:=λ_ _ _=>False
theorem Zb {X:Cx}:Qj qM X E0:=λ_ _ _ _ _ _ _ h=>h.elim
structure jQ (K:PySem.W.Frag) (x qual:Str) (st:Stmt) (f:Addr) (fd:FuncData):Prop where
 ex:∃(oc:Value) (od:Option Addr) (kV doc pm:Value) (an:Option Addr) (cdv ct:Value) (osl:Array (Option Value)),
   fd=PySem.W.fnOf x qual (QR st) (Qc st) (qk st) .none kV doc pm an cdv ct/\K.lookup f=some ⟨oc,od,.func fd,osl⟩/\PySem.W.codeIn K cdv qual=true
 kp:PySem.W.keepIn K (.ref f)=true
section
variable {P:Program} {w:World} {K:PySem.W.Frag} {mg:Str->Option Value} {base:Heap}
theorem jQ.ok {x qual:Str} {st:Stmt} {f:Addr} {fd:FuncData} {N ps:List Str} {k:Nat} {sp:Sp} (F:jQ K x qual st f fd) (S:qv N ps (qk st)) (len:∀vs H Q E,sp vs H Q E->vs.length=ps.length)
   (hbody:∀(cdv:Value) (A:Around) (outer:List Env) (s:Shared) (H:Hp) (vs:List V) (Q:VK) (E:XK),q5 k (A.deeper (envOfC qual (qk st) s.heap.objs.size f cdv))->sp vs H Q E->
     ∃t,wa (Zn qM P w K mg base N qual (qk st) f cdv A outer s H E).nox (Qc st) t/\t {nx:=λ_ H'=>Q .non H',rt:=Q} (J9 N vs) H):qp P w K mg base qM (k+1) f fd ps sp:=by
 obtain⟨oc,od,kV,doc,pm,an,cdv,ct,osl,rfl,lk,hcd⟩:=F.ex
 refine KE lk hcd S len λA outer s H vs Q E hr hsp=>?_
 obtain⟨t,h,q⟩:=hbody cdv A outer s H vs Q E hr hsp
 exact⟨t,h.nox,q⟩
theorem jQ.okJ {x qual:Str} {st:Stmt} {f:Addr} {fd:FuncData} {N ps:List Str} {k:Nat} {sp:Sp} (F:jQ K x qual st f fd) (S:qv N ps (qk st)) (len:∀vs H Q E,sp vs H Q E->vs.length=ps.length)
   (hbody:∀(cdv:Value) (A:Around) (outer:List Env) (s:Shared) (H:Hp) (vs:List V) (Q:VK) (E:XK),q5 k (A.deeper (envOfC qual (qk st) s.heap.objs.size f cdv))->sp vs H Q E->
     ∃t,Wi (Zn qM P w K mg base N qual (qk st) f cdv A outer s H E).nox (Qc st) t/\t {nx:=λ_ H'=>Q .non H',rt:=Q} (J9 N vs) H):qp P w K mg base qM (k+1) f fd ps sp:=
 F.ok S len λcdv A outer s H vs Q E hr h=>let ⟨t,a,b⟩:=hbody cdv A outer s H vs Q E hr h;⟨t,a.to,b⟩
theorem jQ.binds {x qual:Str} {st:Stmt} {f:Addr} {fd:FuncData} {ps:List Str} (F:jQ K x qual st f fd)
   (h:∀(kV doc pm:Value) (an:Option Addr) (cdv ct:Value) (us:List Value),us.length=ps.length->bindArgs (PySem.W.fnOf x qual (QR st) (Qc st) (qk st) .none kV doc pm an cdv ct) ⟨us,[]⟩=pure (ps.zip us)):jK K fd ps []:=by
 obtain⟨oc,od,kV,doc,pm,an,cdv,ct,osl,rfl,lk,hcd⟩:=F.ex
 exact .all (h kV doc pm an cdv ct)
theorem VW {x qual:Str} {st:Stmt} {f:Addr} {oc:Value} {od an:Option Addr} {osl:Array (Option Value)} {kV doc pm cdv ct:Value} (l:K.lookup f=some ⟨oc,od,.func (PySem.W.fnOf x qual (QR st) (Qc st) (qk st) .none kV doc pm an cdv ct),osl⟩)
   (c:PySem.W.codeIn K cdv qual=true) (k:PySem.W.keepIn K (.ref f)=true):jQ K x qual st f (PySem.W.fnOf x qual (QR st) (Qc st) (qk st) .none kV doc pm an cdv ct):=⟨⟨oc,od,kV,doc,pm,an,cdv,ct,osl,rfl,l,c⟩,k⟩
end
theorem jA {A:Around} {k:Nat} (hr:q5 k A):A.units+1 < cLine:=Nat.lt_of_le_of_lt (Nat.add_le_add_left (by decide:1<=64) _) hr.units
theorem qo {n:Nat} (h:n<=1000):n < sizeLine:=Nat.lt_of_le_of_lt h (by decide)
section
variable {X:Cx}
theorem pv (i:Nat) {x:Str} {pos:Pos} (hN:X.N[i]?=some x:=by rfl) (hv:Rw X.env.scope x:=by first | exact Or.inl rfl | exact Or.inr (Or.inl rfl) | exact Or.inr (Or.inr rfl)) (hd:(x==("__debug__":Str))=false:=by decide)
   (hcd:(x==("__classdict__":Str))=false:=by decide):PE X (.Name x pos) (jm i):=K9 hN hv hd hcd
theorem jv (i:Nat) {x:Str} {pos:Pos} (hN:X.N[i]?=some x:=by rfl) (hv:Rw X.env.scope x:=by first | exact Or.inl rfl | exact Or.inr (Or.inl rfl) | exact Or.inr (Or.inr rfl)) (hd:(x==("__debug__":Str))=false:=by decide) (hcd:(x==("__classdict__":Str))=false:=by decide):JE X (.Name x pos) (jm i):=.of (pv i hN hv hd hcd)
end
theorem qZ {A B:Prop} (h:B):if false=true then A else B:=by
 rw[if_neg Bool.false_ne_true]
 exact h
theorem jY {A B:Prop} (h:A):if true=true then A else B:=by
 rw[if_pos rfl]
 exact h
theorem ka {c A B:Prop} [Decidable c] (h1:c->A) (h2:¬c->B):if c then A else B:=by
 by_cases h:c
 . rw[if_pos h]
   exact h1 h
 . rw[if_neg h]
   exact h2 h
def Same (H H':Hp):Prop:=∀b o,H b=some o->H' b=some o
theorem Same.refl (H:Hp):Same H H:=λ_ _ h=>h
theorem Same.trans {H H1 H2:Hp} (a:Same H H1) (b:Same H1 H2):Same H H2:=λc o h=>b c o (a c o h)
theorem Same.seq {K:PySem.W.Frag} {H H':Hp} {a:Addr} {xs:List V} (e:Same H H') (h:SqL K H a xs):SqL K H' a xs:=by
 rcases h with (h | ⟨o,h⟩) | h
 . exact .inl (.inl (e _ _ h))
 . exact .inl (.inr ⟨o,e _ _ h⟩)
 . exact .inr h
section
variable {X:Cx}
end
section
variable {κ:Type} [DecidableEq κ]
theorem Wn {kvs:List (κ×V)} {k:κ} (h:qQ kvs k=none):¬k∈kvs.map (·.1):=by
 intro m
 obtain⟨p,hp,e⟩:=List.mem_map.mp m
 have q:(kvs.any λkv=>decide (kv.1=k))=true:=List.any_eq_true.mpr ⟨p,hp,decide_eq_true e⟩
 rw[Qm,h]at q
 exact absurd q (by simp)
theorem V9 {kvs:List (κ×V)} {k:κ} {v:V} (h:qQ kvs k=some v):k∈kvs.map (·.1):=by
 have q:(kvs.any λkv=>decide (kv.1=k))=true:=by
   rw[Qm,h]
   all_goals rfl
 obtain⟨p,hp,e⟩:=List.any_eq_true.mp q
 exact List.mem_map.mpr ⟨p,hp,of_decide_eq_true e⟩
theorem UI:∀{l:List κ} {k:κ},l.Nodup->¬k∈l->(l++[k]).Nodup
 | [],k,_,_=>by simp
 | a::r,k,h,hk=>by
   obtain⟨h1,h2⟩:=List.nodup_cons.mp h
   show (a::(r++[k])).Nodup
   refine List.nodup_cons.mpr ⟨λm=>?_,UI h2 λm=>hk (List.mem_cons.mpr (Or.inr m))⟩
   rcases List.mem_append.mp m with q | q
   . exact h1 q
   . exact hk (List.mem_cons.mpr (Or.inl (List.mem_singleton.mp q).symm))
theorem uy {kvs:List (κ×V)} {k:κ} (v:V) (hn:(kvs.map (·.1)).Nodup) (h:qQ kvs k=none):((jy kvs k v).map (·.1)).Nodup:=by
 rw[Qn v h,List.map_append]
 exact UI hn (Wn h)
end
end L2
set_option Elab.async false
set_option linter.all false
set_option maxRecDepth 100000
set_option maxHeartbeats 4000000
namespace L2
open PySem PySem.Spec PyProof.Rows
theorem UR:(NameKind.free==NameKind.free)=true:=rfl
def jS (env:Env):List (Str×NameKind)->List (Str×Addr)->List (Str×Addr)
 | [],cs=>cs
 | (n,k)::r,cs=>jS env r (if k==.free then (n,(env.cells.lookup n).getD 0)::cs else cs)
theorem Ze {scope:Scope} {env:Env} (h:∀x∈scope.names,x.2=.free->∃c,env.cells.lookup x.1=some c):closureFor scope env=pure (jS env scope.names []):=by
 simp only[closureFor]
 have key:∀(l:List (Str×NameKind)) (cs:List (Str×Addr)),(∀x∈l,x.2=.free->∃c,env.cells.lookup x.1=some c)->
     (forIn l cs λx (r:List (Str×Addr))=>if (x.snd==NameKind.free)=true then (do let a <-cellOf env x.fst;pure (ForInStep.yield ((x.fst,a)::r)):Sem (ForInStep (List (Str×Addr)))) else pure (ForInStep.yield r))=(pure (jS env l cs):Sem (List (Str×Addr))):=by
   intro l
   induction l with
   | nil=>intro cs _;rfl
   | cons x l ih=>
     intro cs hl
     obtain⟨n,k⟩:=x
     have ihl:=λcs'=>ih cs' λy hy=>hl y (List.mem_cons_of_mem _ hy)
     rw[List.forIn_cons]
     by_cases hk:k=.free
     . subst hk
       obtain⟨c,hc⟩:=hl (n,.free) List.mem_cons_self rfl
       have e1:cellOf env n=pure c:=by
         unfold cellOf
         have hc':env.cells.lookup n=some c:=hc
         rw[hc']
       have e2:jS env ((n,NameKind.free)::l) cs=jS env l ((n,c)::cs):=by
         have hc':env.cells.lookup n=some c:=hc
         show jS env l (if (NameKind.free==NameKind.free)=true then (n,(env.cells.lookup n).getD 0)::cs else cs)=_
         rw[if_pos UR,hc']
         rfl
       rw[e2,<-ihl]
       dsimp only
       rw[if_pos UR,e1]
       rfl
     . have hb:(k==NameKind.free)=false:=by simpa using hk
       have e2:jS env ((n,k)::l) cs=jS env l cs:=by
         show jS env l (if (k==NameKind.free)=true then (n,(env.cells.lookup n).getD 0)::cs else cs)=_
         rw[if_neg (by rw[hb];decide)]
       rw[e2,<-ihl]
       dsimp only
       rw[if_neg (by rw[hb];decide)]
       rfl
 rw[key scope.names [] h]
 rfl
theorem zk {env:Env} {x:Str} {c:Addr}:∀{l:List (Str×NameKind)} {cs:List (Str×Addr)},(jS env l cs).lookup x=some c->cs.lookup x=some c\/((x,NameKind.free)∈l/\c=(env.cells.lookup x).getD 0)
 | [],cs,h=>.inl h
 | (n,k)::r,cs,h=>by
   rcases zk (l:=r) h with h | ⟨h1,h2⟩
   . by_cases hk:k=.free
     . subst hk
       rw[if_pos UR,List.lookup_cons]at h
       by_cases hx:x=n
       . subst hx
         simp only[beq_self_eq_true]at h
         exact .inr ⟨List.mem_cons_self,(Option.some.inj h).symm⟩
       . have hb:(x==n)=false:=beq_eq_false_iff_ne.mpr hx
         simp only[hb]at h
         exact .inl h
     . have hb:(k==NameKind.free)=false:=by simpa using hk
       rw[if_neg (by rw[hb];decide)]at h
       exact .inl h
   . exact .inr ⟨List.mem_cons_of_mem _ h1,h2⟩
theorem Zp {env:Env} {x:Str}:∀{l:List (Str×NameKind)} {cs:List (Str×Addr)},((x,NameKind.free)∈l\/∃c,cs.lookup x=some c)->∃c,(jS env l cs).lookup x=some c
 | [],cs,h=>by
   rcases h with h | h
   . cases h
   . exact h
 | (n,k)::r,cs,h=>by
   show ∃c,(jS env r (if (k==NameKind.free)=true then (n,(env.cells.lookup n).getD 0)::cs else cs)).lookup x=some c
   refine Zp (l:=r) ?_
   rcases h with h | ⟨c,h⟩
   . rcases List.mem_cons.mp h with h | h
     . cases h
       refine .inr ⟨(env.cells.lookup x).getD 0,?_⟩
       rw[if_pos UR,List.lookup_cons]
       simp only[beq_self_eq_true]
     . exact .inl h
   . refine .inr ?_
     by_cases hk:(k==NameKind.free)=true
     . rw[if_pos hk,List.lookup_cons]
       cases hx:x==n with
       | true=>exact⟨_,rfl⟩
       | false=>exact⟨c,h⟩
     . rw[if_neg hk]
       exact⟨c,h⟩
theorem ZG {scope:Scope} {env:Env} {x:Str} {k:NameKind}:∀{names:List (Str×NameKind)},names.lookup x=some k->
   ∃k',(names.map λ(n,k)=>if (k==NameKind.free&&env.scope.kind==.function&&env.kindOf n==some .cell) then (n,NameKind.cell) else (n,k)).lookup x=some k'/\(k'=k\/(k=.free/\k'=.cell))
 | [],h=>by simp at h
 | (n,j)::r,h=>by
   rw[List.map_cons]
   by_cases hx:x=n
   . subst hx
     rw[List.lookup_cons]at h
     simp only[beq_self_eq_true]at h
     cases h
     dsimp only
     by_cases hc:(k==NameKind.free&&env.scope.kind==.function&&env.kindOf x==some .cell)=true
     . rw[if_pos hc,List.lookup_cons]
       simp only[beq_self_eq_true]
       refine⟨_,rfl,.inr ⟨?_,rfl⟩⟩
       simp only[Bool.and_eq_true,beq_iff_eq]at hc
       exact hc.1.1
     . rw[if_neg hc,List.lookup_cons]
       simp only[beq_self_eq_true]
       exact⟨_,rfl,.inl rfl⟩
   . have hb:(x==n)=false:=beq_eq_false_iff_ne.mpr hx
     rw[List.lookup_cons]at h
     simp only[hb]at h
     obtain⟨k',h1,h2⟩:=ZG (env:=env) (scope:=scope) h
     refine⟨k',?_,h2⟩
     dsimp only
     by_cases hc:(j==NameKind.free&&env.scope.kind==.function&&env.kindOf n==some .cell)=true
     . rw[if_pos hc,List.lookup_cons]
       simp only[hb]
       exact h1
     . rw[if_neg hc,List.lookup_cons]
       simp only[hb]
       exact h1
theorem mem_of_lookup {x:Str} {k:NameKind}:∀{l:List (Str×NameKind)},l.lookup x=some k->(x,k)∈l
 | [],h=>by simp at h
 | (n,j)::r,h=>by
   rw[List.lookup_cons]at h
   by_cases hx:x=n
   . subst hx
     simp only[beq_self_eq_true]at h
     cases h
     exact List.mem_cons_self
   . have hb:(x==n)=false:=beq_eq_false_iff_ne.mpr hx
     simp only[hb]at h
     exact List.mem_cons_of_mem _ (mem_of_lookup h)
theorem Zc {f:Str×NameKind->Str×NameKind} (hf:∀p,(f p).1=p.1) {x:Str} {k:NameKind}:∀{l:List (Str×NameKind)},(l.map f).lookup x=some k->∃j,l.lookup x=some j/\(f (x,j)).2=k
 | [],h=>by simp at h
 | (n,j)::r,h=>by
   rw[List.map_cons]at h
   have e:f (n,j)=(n,(f (n,j)).2):=by
     have:=hf (n,j)
     exact Prod.ext this rfl
   rw[e,List.lookup_cons]at h
   rw[List.lookup_cons]
   by_cases hx:x=n
   . subst hx
     simp only[beq_self_eq_true]at h ⊢
     exact⟨j,rfl,Option.some.inj h⟩
   . have hb:(x==n)=false:=beq_eq_false_iff_ne.mpr hx
     simp only[hb]at h ⊢
     exact Zc hf h
def zi (X:Cx) (N:List Str) (scope:Scope) (C:Addr) (s₂:Shared) (H₂:Hp) (fp:List Addr) (pins:List (Addr×Obj)):Cx where
 prog:=X.prog
 w:=X.w
 K:=X.K
 mg:=X.mg
 base:=X.base
 A:=X.A
 N:=N
 s₀:=s₂
 H₀:=H₂
 env:=compEnvC scope (jS X.env scope.names []) C X.env
 outer:=X.stack
 stack:=X.stack
 ex:=fp
 fn:=λ_=>false
 calm:=X.calm
 pn:=X.pn++pins
 xe:=λ_ _=>False
def KQ (ix:List (Option Nat)) (σ:St):St:=ix.map λo=>o.bind λj=>(σ[j]?).join
def GX (N' N:List Str) (sc esc:Scope) (ix:List (Option Nat)):Bool:=
 ix.length==N'.length&&(ix.zip N').all λp=>match p.1 with
   | none=>true
   | some j=>N[j]?==some p.2&&sc.names.lookup p.2==some .free&&(esc.names.lookup p.2==some .cell || esc.names.lookup p.2==some .free)
structure j3 (X:Cx) (N':List Str) (ix:List (Option Nat)) (scope:Scope):Prop where
 kind:scope.kind=.function
 nocell:(scope.names.all λx=>x.2 != .cell)=true
 locs:(scope.names.all λx=>x.2 != .local || scope.names.lookup x.1==some .local)=true
 frees:(scope.names.all λx=>x.2 != .free || (X.env.scope.names.lookup x.1==some .cell || X.env.scope.names.lookup x.1==some .free))=true
 ixs:GX N' X.N scope X.env.scope ix=true
section
variable {X:Cx} {N':List Str} {ix:List (Option Nat)} {scope:Scope} {pins:List (Addr×Obj)} {σ:St} {H:Hp} {s:Shared}
theorem j3.cellH (S:j3 X N' ix scope):∀y∈scope.names,y.2≠.cell:=λy hy e=>by
 have:=List.all_eq_true.mp S.nocell y hy
 rw[e]at this
 exact absurd this (by decide)
theorem j3.locH (S:j3 X N' ix scope):∀y∈scope.names,y.2=.local->scope.names.lookup y.1=some .local:=λy hy e=>by
 have:=List.all_eq_true.mp S.locs y hy
 simp only[e,Bool.or_eq_true,bne_self_eq_false,Bool.false_eq_true,false_or,beq_iff_eq]at this
 exact this
theorem j3.freeH (S:j3 X N' ix scope) (ok:X.Ok):∀x∈scope.names,x.2=.free->∃c,X.env.cells.lookup x.1=some c:=λx hx e=>by
 have:=List.all_eq_true.mp S.frees x hx
 simp only[e,Bool.or_eq_true,bne_self_eq_false,Bool.false_eq_true,false_or,beq_iff_eq]at this
 exact ok.has x.1 this
theorem j3.clook (S:j3 X N' ix scope) (ok:X.Ok) {x:Str} {c:Addr} (h:(jS X.env scope.names []).lookup x=some c):X.env.cells.lookup x=some c/\(x,NameKind.free)∈scope.names:=by
 rcases zk h with h | ⟨h1,h2⟩
 . simp at h
 . obtain⟨c',hc'⟩:=S.freeH ok _ h1 rfl
   have hc2:X.env.cells.lookup x=some c':=hc'
   rw[hc2]at h2
   subst h2
   exact⟨hc2,h1⟩
theorem NA {C:Addr} {fp:List Addr} (S:j3 X N' ix scope) (I:qx X pins σ H s) (hC:s.heap.objs.size<=C) (hf:∀b∈fp,Zq X pins H b) (hfo:∀b∈fp,b < s.heap.objs.size):(zi X N' scope C s H fp pins).Ok where
 mod:=I.ok.mod
 kind:=S.kind
 glob:=I.ok.glob
 blt:=I.ok.blt
 above:=hC
 inj:=λx y c h1 h2=>I.ok.inj x y c (S.clook I.ok h1).1 (S.clook I.ok h2).1
 has:=λx hx=>by
   have hx':(relabel scope X.env).names.lookup x=some .cell\/(relabel scope X.env).names.lookup x=some .free:=hx
   refine Zp (.inl ?_)
   have go:∀k,(k=NameKind.cell\/k=.free)->(relabel scope X.env).names.lookup x=some k->(x,NameKind.free)∈scope.names:=λk hk h=>by
     obtain⟨j,h1,h2⟩:=Zc (f:=λ(n,k)=>if (k==NameKind.free&&X.env.scope.kind==.function&&X.env.kindOf n==some .cell) then (n,NameKind.cell) else (n,k)) (λp=>by dsimp only;split<;>rfl) h
     have hm:=mem_of_lookup h1
     by_cases hj:j=.free
     . subst hj;exact hm
     . exfalso
       have hb:(j==NameKind.free)=false:=by simpa using hj
       dsimp only at h2
       rw[hb,Bool.false_and,Bool.false_and,if_neg (by decide)]at h2
       have h2':j=k:=h2
       rcases hk with e | e
       . exact S.cellH _ hm (h2'.trans e)
       . exact hj (h2'.trans e)
   rcases hx' with h | h
   . exact go _ (.inl rfl) h
   . exact go _ (.inr rfl) h
 cab:=λx c h _=>by cases h
 hd:=I.ok.hd
 frames:=I.ok.frames
 stk:=.inl rfl
 exf:=λb hb=>⟨Nat.ne_of_lt (Nat.lt_of_lt_of_le (hfo b hb) hC),λx c h=>(hf b hb).2.2.2.2.1 x c (S.clook I.ok h).1⟩
 bs:=I.bs
 bsz:=Nat.le_trans I.ok.bsz I.sz
 noex:=λb o e hb=>by
   rcases(hf b hb).2.2.2.1 with h | h
   . exact I.ok.noex b o e h
   . exact absurd (Nat.lt_of_lt_of_le (Heap.lt_size e) (Nat.le_trans I.ok.bsz h)) (Nat.lt_irrefl _)
 exfs:=λb hb hm=>by
   rcases List.mem_cons.mp (I.stkSub b hm) with e | e
   . exact(hf b hb).2.1 e
   . exact(hf b hb).2.2.1 e
 funs:=I.stack
 frf:=I.stkFree
theorem kj {C D:Addr} {fp:List Addr} {h₁:Heap} {m:Str->Option Value} {t':Nat} {n₀:Nat} (S:j3 X N' ix scope) (I:qx X pins σ H s) (hf:∀b∈fp,Zq X pins H b) (hfo:∀b∈fp,b < s.heap.objs.size)
   (hD:s.heap.objs.size<=D) (hC:s.heap.objs.size<=C) (hDC:D≠C) (kp:∀b o,s.heap.get? b=some o->h₁.get? b=some o) (hn:h₁.Ns C m) (hl:h₁.get? D=some {cls:=.type "list",data:=.seq #[] n₀}):
   qx (zi X N' scope C s H fp pins) [] (KQ ix σ) (upd H D (.lst [])) {s with heap:=h₁,toks:=t'} where
 ok:=NA S I hC hf hfo
 os:=rfl
 bare:=I.bare
 base:=Un.laid kp hD (I.hok.fresh hD)
 loc:=by
   refine⟨m,hn,λi x v e1 e2 e3=>?_⟩
   have hix:=S.ixs
   unfold GX at hix
   rw[Bool.and_eq_true]at hix
   obtain⟨hlen,hall⟩:=hix
   have hlen':ix.length=N'.length:=by simpa using hlen
   have e1':N'[i]?=some x:=e1
   unfold KQ at e2
   rw[List.getElem?_map]at e2
   cases ho:ix[i]? with
   | none=>rw[ho]at e2;cases e2
   | some o=>
     rw[ho]at e2
     cases o with
     | none=>cases e2
     | some j=>
       have e2':(σ[j]?).join=some v:=Option.some.inj e2
       have hz:(ix.zip N')[i]?=some (some j,x):=by
         rw[List.getElem?_zip_eq_some]
         exact⟨ho,e1'⟩
       have hm:=List.all_eq_true.mp hall _ (List.mem_of_getElem? hz)
       dsimp only at hm
       simp only[Bool.and_eq_true,beq_iff_eq,Bool.or_eq_true]at hm
       obtain⟨⟨hN,hfr⟩,hk⟩:=hm
       have e2'':σ[j]?=some (some v):=by
         cases q:σ[j]? with
         | none=>rw[q]at e2';cases e2'
         | some z=>
           rw[q]at e2'
           have:z=some v:=e2'
           rw[this]
       obtain⟨mX,hnX,hlX⟩:=I.loc
       have hvis:Rw X.env.scope x:=by
         rcases hk with h | h
         . exact .inr (.inl h)
         . exact .inr (.inr h)
       obtain⟨u,ru,lu⟩:=hlX j x v hN e2'' hvis
       refine⟨u,ru,?_⟩
       rcases lu with ⟨hk',_⟩ | ⟨_,c,hc,hcell⟩
       . exfalso
         have hk'':X.env.scope.names.lookup x=some .local:=hk'
         rcases hk with h | h<;>rw[h]at hk''<;>cases hk''
       . right
         obtain⟨k',r1,r2⟩:=ZG (scope:=scope) (env:=X.env) hfr
         refine⟨?_,?_⟩
         . rcases r2 with z | ⟨_,z⟩
           . right;rw[z]at r1;exact r1
           . left;rw[z]at r1;exact r1
         . obtain⟨c',hc'⟩:=Zp (env:=X.env) (cs:=[]) (.inl (mem_of_lookup hfr))
           have:=(S.clook I.ok hc').1
           rw[hc]at this
           cases this
           obtain⟨o,ho',hd⟩:=hcell
           exact⟨c,hc',o,kp _ _ ho',hd⟩
 cell:=λx c h=>by
   obtain⟨v,o,ho,hd⟩:=I.cell x c (S.clook I.ok h).1
   exact⟨v,o,kp _ _ ho,hd⟩
 free:=by
   show (upd H D _) C=none
   rw[qg (Ne.symm hDC)]
   exact I.hok.fresh hC
 freeC:=λx c h=>by
   have h1:=(S.clook I.ok h).1
   obtain⟨v,o,ho,hd⟩:=I.cell x c h1
   rw[qg (Nat.ne_of_lt (Nat.lt_of_lt_of_le (Heap.lt_size ho) hD))]
   exact I.freeC x c h1
 pin:=λp hp=>by
   have hp':p∈X.pn++pins:=by
     have:p∈(X.pn++pins)++[]:=hp
     simpa using this
   obtain⟨e,n,ne,nf,d⟩:=I.pin p hp'
   have hlt:=Heap.lt_size e
   refine⟨kp _ _ e,?_,Nat.ne_of_lt (Nat.lt_of_lt_of_le hlt hC),λhm=>?_,d⟩
   . rw[qg (Nat.ne_of_lt (Nat.lt_of_lt_of_le hlt hD))];exact n
   . rcases List.mem_cons.mp (I.stkSub p.1 hm) with z | z
     . exact ne z
     . exact nf z
 hok:=I.hok.laid kp hD ⟨Nat.zero_le _,[],n₀,.nil,hl⟩
 len:=by
   have hix:=S.ixs
   unfold GX at hix
   rw[Bool.and_eq_true]at hix
   have:ix.length=N'.length:=by simpa using hix.1
   show (KQ ix σ).length=N'.length
   unfold KQ
   rw[List.length_map,this]
theorem xA {C:Addr} {fp:List Addr} {σ':St} {H':Hp} {s':Shared} {pl:List (Addr×Obj)} (I:qx X pins σ H s) (hf:∀b∈fp,Zq X pins H b) (J:qx (zi X N' scope C s H fp pins) pl σ' H' s'):qx X pins σ H' s':=
 I.call' (ch:=fp) J.os J.base J.hok J.bare λb hb=>⟨(hf b hb).2.2.2.1,(hf b hb).2.1,(hf b hb).2.2.2.2.1,(hf b hb).2.2.2.2.2⟩
theorem xz {C:Addr} {H':Hp} {s₀ s':Shared} {h':Heap} (I₀:qx X pins σ H s₀) (I:qx X pins σ H' s') (hC:s₀.heap.objs.size<=C) (hn:H' C=none) (sb:Heap.SameBut C s'.heap h'):qx X pins σ H' {s' with heap:=h'}:=by
 refine I.turned (it:=C) (t':=s'.toks) (λb o hb e=>(sb.2 b hb).trans e) hn (Nat.ne_of_gt (Nat.lt_of_lt_of_le I₀.lt hC)) (.inr (Nat.le_trans I₀.sz hC)) (λx c e z=>?_) λp hp z=>?_
 . obtain⟨v,q⟩:=I₀.cell x c e
   exact absurd (Nat.lt_of_lt_of_le q.lt (by rw[z];exact hC)) (Nat.lt_irrefl _)
 . exact absurd (Nat.lt_of_lt_of_le (Heap.lt_size (I₀.pin p hp).1) (by rw[z];exact hC)) (Nat.lt_irrefl _)
end
def Rx (X:Cx) (ifs:List Expr) (t:TT):Prop:=
 ∀(pins:List (Addr×Obj)) (s:Shared) (σ:St) (H:Hp) (Q:Bool->Hp->Prop),qx X pins σ H s->t σ H Q->
   wpAny (model X.prog X.w) X.A (forIn ifs true λc r=>if r=true then do let ok <-isTrue c X.env (eval c X.env);pure (ForInStep.yield ok) else pure (ForInStep.yield r)) (TP X pins σ Q) X.xe s
@[irreducible] def wc (X:Cx) (ifs:List Expr) (t:TT):Prop:=Rx X ifs t
theorem wc.of {X:Cx} {ifs:List Expr} {t:TT} (h:Rx X ifs t):wc X ifs t:=by unfold wc;exact h
theorem wc.to {X:Cx} {ifs:List Expr} {t:TT} (h:wc X ifs t):Rx X ifs t:=by unfold wc at h;exact h
def N0:TT:=λ_ H Q=>Q true H
theorem Qa {X:Cx}:wc X [] N0:=.of (by
 exact λ_ _ _ H _ I h=>wpAny_tests_nil ⟨H,I,h⟩)
theorem j9 {X:Cx} {c:Expr} {t:TT} (h:JT X c t):wc X [c] t:=.of (by
 have h:=h.to
 exact λpins s σ H Q I hw=>wpAny_tests_one (h pins s σ H Q I hw))
section
variable {prog:Program} {w:World} {A:Around} {R:Result->Shared->Prop} {s:Shared}
theorem We {elt target iter:Expr} {ifs:List Expr} {scope:Scope} {pos:Pos} {it acc:Value} {env:Env} (I:Nat->Shared->Prop)
   (turn:∀n s,I n s->wpAny (model prog w) A (pyNext it) (λr s₁=>match r with
     | none=>R (.ok .next) s₁
     | some v=>wpAny (model prog w) A (letOwnedTupleGo target it v) (λ_ s₁'=>wpAny (model prog w) A (assign target env v) (λ_ s₂=>
         wpAny (model prog w) A (forIn ifs true λc r=>if r=true then do let ok <-isTrue c env (eval c env);pure (ForInStep.yield ok) else pure (ForInStep.yield r)) (λok s₃=>
           if ok=true then wpAny (model prog w) A (eval elt env) (λx s₄=>
             wpAny (model prog w) A (call (.builtin "list.append") [acc,x]) (λ_ s₅=>∃m,m < n/\I m s₅) (λ_ _=>False) s₄) (λ_ _=>False) s₃
           else ∃m,m < n/\I m s₃) (λ_ _=>False) s₂) (λ_ _=>False) s₁') (λ_ _=>False) s₁) (λ_ _=>False) s)
   (n:Nat) (h:I n s):
   codeAny (model prog w) A (.compLoop (.ListComp elt [⟨target,iter,ifs,0⟩] scope pos) 0 it acc env) R s:=by
 refine codeAny_loop rfl I (λn s hI=>?_) n h
 show wpAny _ A ((compTurn (.ListComp elt [⟨target,iter,ifs,0⟩] scope pos) 0 it acc env).onRaise (λx=>do noteFrame x env;theTreesLotGoes x)) _ _ s
 refine wpAny_noted ?_
 rw[compTurn_list]
 refine wpAny_bind (wpAny_standAt (wpAny_bind (wpAny_mono (turn n s hI) (λr s₁ h₁=>?_) λ_ _ h'=>h'.elim)))
 cases r with
 | none=>exact wpAny_pure h₁
 | some v=>
   refine wpAny_bind (wpAny_mono h₁ (λ_ s₁' h₁'=>?_) λ_ _ h'=>h'.elim)
   refine wpAny_bind (wpAny_mono h₁' (λ_ s₂ h₂=>wpAny_bind (wpAny_mono h₂ (λok s₃ h₃=>?_) λ_ _ h'=>h'.elim)) λ_ _ h'=>h'.elim)
   cases ok with
   | false=>exact wpAny_pure ⟨rfl,h₃⟩
   | true=>
     exact wpAny_bind (wpAny_bind (wpAny_mono h₃ (λx s₄ h₄=>wpAny_bind (wpAny_mono h₄ (λ_ s₅ h₅=>wpAny_pure (wpAny_pure ⟨rfl,h₅⟩)) λ_ _ h'=>h'.elim)) λ_ _ h'=>h'.elim))
end
def Zs (J:It) (g:TG) (tt:TT) (te:TE) (D:Addr) (σ:St) (H:Hp) (Q:Hp->Prop):Prop:=
 ∃W:Nat->Nat->St->Hp->Prop,(∃m,W 0 m σ (upd H D (.lst [])))/\∀i m σ' H',W i m σ' H'->
   (J.stop i H'/\Q H')\/(J.go i H'/\∃N:St->Hp->Prop,(∀σ2 H2,N σ2 H2->∃m',m' < m/\W (i+1) m' σ2 H2)/\∀x H2,J.yld i H' x H2->g x σ' H2 λσ2 H3=>tt σ2 H3 λb H4=>
     if b=true then te σ2 H4 λv H5=>∃ys,H5 D=some (.lst ys)/\ys.length < sizeLine/\N σ2 (upd H5 D (.lst (ys++[v]))) else N σ2 H4)
def NQ (wi:TI) (ix:List (Option Nat)) (g:TG) (tt:TT) (te:TE):TE:=λσ H Q=>wi σ H λJ H1=>∀D,H1 D=none->Zs J g tt te D (KQ ix σ) H1 λH2=>Q (.ref D) H2
section
variable {X:Cx} {N':List Str} {ix:List (Option Nat)} {scope:Scope}
theorem Xk {elt iter target:Expr} {ifs:List Expr} {pos:Pos} {g:TG} {tt:TT} {te:TE} {pins:List (Addr×Obj)} {σ:St} {H:Hp} {s:Shared} {it:Addr} {fp:List Addr} {tn:Nat->Heap->Prop} {J:It} {E:Value->Shared->Prop}
   {RR:Value->Addr->Result->Shared->Prop} {Q:Addr->Hp->Prop}
   (hc:X.calm=true) (S:j3 X N' ix scope) (I:qx X pins σ H s) (T:W8 X.prog X.w X.K target J fp it tn) (st:tn 0 s.heap) (hf:∀b∈fp,Zq X pins H b)
   (hb:∀C s₂ H₂ fp pins,PG (zi X N' scope C s₂ H₂ fp pins) target g/\Rx (zi X N' scope C s₂ H₂ fp pins) ifs tt/\PE (zi X N' scope C s₂ H₂ fp pins) elt te)
   (h:∀D,H D=none->Zs J g tt te D (KQ ix σ) H (Q D))
   (fin:∀(D C:Addr) (H':Hp) (s':Shared) (m:Str->Option Value),s.heap.objs.size<=C->H' C=none->s'.heap.Ns C m->qx X pins σ H' s'->Q D H'->RR (.ref D) C (.ok .next) s'):
   wpAny (model X.prog X.w) X.A (newList []) (λacc s₃=>wpAny (model X.prog X.w) X.A (newFunctionEnv scope X.env.globals (jS X.env scope.names []) [] X.env.qual none .none (some X.env)) (λcenv s₄=>
     codeAny (model X.prog X.w) X.A (.compStart (.ListComp elt [⟨target,iter,ifs,0⟩] scope pos) 0 (.ref it) acc {cenv with scope:=relabel scope X.env}) (RR acc cenv.locals) s₄) E s₃) E s:=by
 have hfo:∀b∈fp,b < s.heap.objs.size:=λb hb=>by
   obtain⟨o,e,_⟩:=T.obj _ _ st b hb
   exact Heap.lt_size e
 refine wpAny_newObj_type (wpAny_newFunctionEnv S.cellH (by intro y hy;simp at hy) (λh₁ hns₁ hsb₁=>?_) S.kind)
 dsimp only at hns₁ hsb₁ ⊢
 generalize hH2:s.heap.push {cls:=.type "list",dict:=none,data:=.seq ([]:List Value).toArray}=H2 at hns₁ hsb₁ ⊢
 have hC:H2.objs.size=s.heap.objs.size+1:=by rw[<-hH2,Heap.size_push]
 have hDC:s.heap.objs.size≠H2.objs.size:=by rw[hC];exact Nat.ne_of_lt (Nat.lt_succ_self _)
 have hCle:s.heap.objs.size<=H2.objs.size:=by rw[hC];exact Nat.le_succ _
 have below:∀b,b < s.heap.objs.size->b≠H2.objs.size:=λb hb=>by rw[hC];exact Nat.ne_of_lt (Nat.lt_succ_of_lt hb)
 have old:∀b o,s.heap.get? b=some o->h₁.get? b=some o:=λb o e=>hsb₁.extBut b o (below b (Heap.lt_size e)) (Heap.get?_push_of_some _ (hH2▸Heap.get?_push_of_some _ e))
 have hacc:h₁.get? s.heap.objs.size=some {cls:=.type "list",data:=.seq #[] 0}:=hsb₁.extBut _ _ hDC (Heap.get?_push_of_some _ (hH2▸Heap.get?_push_size _ rfl))
 obtain⟨W,⟨m0,w0⟩,turn⟩:=h s.heap.objs.size (I.hok.fresh (Nat.le_refl _))
 have I1:qx (zi X N' scope H2.objs.size s H fp pins) [] (KQ ix σ) (upd H s.heap.objs.size (.lst [])) {s with heap:=h₁,toks:=s.toks+([]:List (Str×Value)).length}:=
   kj S I hf hfo (Nat.le_refl _) hCle hDC old hns₁ hacc
 have st₁:tn 0 h₁:=T.keep _ _ _ st λb hb o e=>old b o e
 have fpn:∀b∈fp,(upd H s.heap.objs.size (.lst [])) b=none:=λb hb=>by
   rw[qg (Nat.ne_of_lt (hfo b hb))]
   exact(hf b hb).1
 obtain⟨hg,htt,hte⟩:=hb H2.objs.size s H fp pins
 have okY:=I1.ok
 have stat:∀{H':Hp},(∀b∈fp,H' b=none)->∀b∈fp,Zq (zi X N' scope H2.objs.size s H fp pins) [] H' b:=λ{H'} hn b hb=>
   ⟨hn b hb,(okY.exf b hb).1,okY.exfs b hb,.inl hb,(okY.exf b hb).2,λp hp=>by
     have hp':p∈X.pn++pins:=by
       have:p∈(X.pn++pins)++[]:=hp
       simpa using this
     exact(hf b hb).2.2.2.2.2 p hp'⟩
 have loop:codeAny (model X.prog X.w) X.A (.compLoop (.ListComp elt [⟨target,iter,ifs,0⟩] scope pos) 0 (.ref it) (.ref s.heap.objs.size) (compEnvC scope (jS X.env scope.names []) H2.objs.size X.env))
     (RR (.ref s.heap.objs.size) H2.objs.size) {s with heap:=h₁,toks:=s.toks+([]:List (Str×Value)).length}:=by
   refine We (λn s'=>∃i σ' H',qx (zi X N' scope H2.objs.size s H fp pins) [] σ' H' s'/\tn i s'.heap/\(∀b∈fp,H' b=none)/\W i n σ' H') ?_ m0 ⟨0,_,_,I1,st₁,fpn,w0⟩
   rintro n s3 ⟨i,σ3,H3,I3,st3,fr3,w3⟩
   rcases turn i n σ3 H3 w3 with ⟨stop,qn⟩ | ⟨go,NN,hNN,step⟩
   . refine jf (T.done (zi X N' scope H2.objs.size s H fp pins) rfl rfl rfl hc i [] s3 σ3 H3 _ I3 (stat fr3) st3 stop) λr s4 ⟨hr,I4⟩=>?_
     subst hr
     obtain⟨mm,hnm,_⟩:=I4.loc
     exact fin _ _ H3 s4 mm hCle I4.free hnm (xA I hf I4) qn
   . refine jf (T.item (zi X N' scope H2.objs.size s H fp pins) rfl rfl rfl hc i [] s3 σ3 H3 _ I3 (stat fr3) st3 go) λr s4 ⟨u,hr,h4⟩=>?_
     subst hr
     refine jf h4 λ_ s5 ⟨x,H5,I5,r5,y5,st5,fr5⟩=>?_
     have I5':=I5.pinned (stat fr5) (T.obj _ _ st5)
     refine jf (hg _ s5 σ3 H5 x u _ I5' r5 (step x H5 y5)) λ_ s6 ⟨σ6,H6,I6,q6⟩=>?_
     refine jf (htt _ s6 σ6 H6 _ I6 q6) λok s7 ⟨H7,I7,q7⟩=>?_
     have again:∀{σ8:St} {H8:Hp} {s8:Shared},qx (zi X N' scope H2.objs.size s H fp pins) ([]++Yg fp s5.heap) σ8 H8 s8->NN σ8 H8->
         ∃m,m < n/\∃i σ' H',qx (zi X N' scope H2.objs.size s H fp pins) [] σ' H' s8/\tn i s8.heap/\(∀b∈fp,H' b=none)/\W i m σ' H':=λ{σ8 H8 s8} I8 n8=>by
       obtain⟨m',hm,w8⟩:=hNN σ8 H8 n8
       refine⟨m',hm,i+1,σ8,H8,I8.unpinned,T.keep _ _ _ st5 λb hb o e=>(I8.pin (b,o) (List.mem_append_right _ (List.mem_append_right _ (Jk hb e)))).1,λb hb=>?_,w8⟩
       obtain⟨o,e,d⟩:=T.obj _ _ st5 b hb
       exact(I8.pin (b,o) (List.mem_append_right _ (List.mem_append_right _ (Jk hb e)))).2.1
     cases ok with
     | false=>
       rw[if_neg Bool.false_ne_true]at q7 ⊢
       exact again I7 q7
     | true=>
       rw[if_pos rfl]at q7 ⊢
       refine jf (hte _ s7 σ6 H7 _ I7 q7) λv s8 ⟨y,H8,I8,r8,q8⟩=>?_
       obtain⟨ys,hy,hz,q8⟩:=q8
       refine jf (Qg (X:=zi X N' scope H2.objs.size s H fp pins) _ s8 σ6 H8 (.ref s.heap.objs.size) [y] (.ref s.heap.objs.size) [v] (λ_ H9=>NN σ6 H9) I8 rfl (.cons r8 .nil) ⟨_,ys,y,rfl,rfl,hy,hz,q8⟩) λ_ s9 ⟨_,H9,I9,_,q9⟩=>?_
       exact again I9 q9
 exact codeAny_compStart_list loop (T.self X.A 0 _ _ _ st₁ loop)
theorem Nd {elt iter target:Expr} {ifs:List Expr} {pos:Pos} {wi:TI} {g:TG} {tt:TT} {te:TE} (hc:X.calm=true) (S:j3 X N' ix scope) (hi:PI X target iter wi)
   (hb:∀C s₂ H₂ fp pins,PG (zi X N' scope C s₂ H₂ fp pins) target g/\Rx (zi X N' scope C s₂ H₂ fp pins) ifs tt/\PE (zi X N' scope C s₂ H₂ fp pins) elt te)
   (hs:∀x,foldedSetIterable iter X.env x=pure x:=by intro _;rfl):PE X (.ListComp elt [⟨target,iter,ifs,0⟩] scope pos) (NQ wi ix g tt te):=by
 intro pins s σ H Q I h
 rw[eval_ListComp]
 refine wpAny_comprehension_free (use:=none) rfl hs (Ze (S.freeH I.ok)) S.kind S.locH ?_
 refine jf (hi pins s σ H _ I h) λxv s1 h1=>jf h1 λitv s2 h2=>?_
 obtain⟨it,fp,tn,J,H2,e,I2,T,st2,f2,q2⟩:=h2
 subst e
 refine Xk (RR:=λacc C=>compPost (model X.prog X.w) X.A X.xe none (EP X pins σ Q) acc C) (Q:=λD H'=>Q (.ref D) H') hc S I2 T st2 f2 hb q2 ?_
 intro D C H' s' m hC hn hm I' q
 exact⟨m,hm,λh' sb=>⟨.ref D,H',xz I2 I' hC hn sb,rfl,q⟩⟩
theorem QI {elt iter target:Expr} {ifs:List Expr} {pos:Pos} {wi:TI} {g:TG} {tt:TT} {te:TE} (hc:X.calm=true) (S:j3 X N' ix scope) (hi:JI X target iter wi) (hb:∀C s₂ H₂ fp pins,JG (zi X N' scope C s₂ H₂ fp pins) target g/\wc (zi X N' scope C s₂ H₂ fp pins) ifs tt/\JE (zi X N' scope C s₂ H₂ fp pins) elt te) (hs:∀x,foldedSetIterable iter X.env x=pure x:=by intro _;rfl):JE X (.ListComp elt [⟨target,iter,ifs,0⟩] scope pos) (NQ wi ix g tt te):=.of (Nd hc S hi.to (λC s₂ H₂ fp pins=>⟨(hb C s₂ H₂ fp pins).1.to,(hb C s₂ H₂ fp pins).2.1.to,(hb C s₂ H₂ fp pins).2.2.to⟩) hs)
theorem yy {i:Nat} {x:Str} {elt iter target:Expr} {ifs:List Expr} {pos spos px:Pos} {wi:TI} {g:TG} {tt:TT} {te:TE} (hN:X.N.Nodup) (hxi:X.N[i]?=some x) (hx:Ro X.env.scope x) (hc:X.calm=true) (S:j3 X N' ix scope) (hi:PI X target iter wi)
   (hb:∀C s₂ H₂ fp pins,PG (zi X N' scope C s₂ H₂ fp pins) target g/\Rx (zi X N' scope C s₂ H₂ fp pins) ifs tt/\PE (zi X N' scope C s₂ H₂ fp pins) elt te)
   (hsw:swapsWith (.ListComp elt [⟨target,iter,ifs,0⟩] scope pos) (some (.Name x px)) spos.line X.env=pure true:=by rfl)
   (hs:∀x,foldedSetIterable iter X.env x=pure x:=by intro _;rfl) (hf:X.fn x=true\/X.env.scope.names.lookup x=some .local:=by first | exact .inl rfl | exact .inr rfl | assumption):
   PS X (.Assign [.Name x px] (.ListComp elt [⟨target,iter,ifs,0⟩] scope pos) spos) (wv (NQ wi ix g tt te) (Qw i)):=by
 intro pins s σ H D I h
 rw[exec_Assign_Name_used _ _ _ _ hsw]
 refine wpAny_bind (wpAny_standAt (wpAny_bind ?_))
 show wpAny _ X.A (do let _ <-comprehension (.ListComp elt [⟨target,iter,ifs,0⟩] scope pos) scope X.env _ (newList []) false (eval iter X.env) (some (assign (.Name x px) X.env))) _ _ s
 refine wpAny_bind (jf (wpAny_comprehension_free (use:=some (assign (.Name x px) X.env)) (Q:=λ_ s'=>SP X pins D .next s') rfl hs (Ze (S.freeH I.ok)) S.kind S.locH ?_) λ_ s' hq=>wpAny_pure (wpAny_pure hq))
 refine jf (hi pins s σ H _ I h) λxv s1 h1=>jf h1 λitv s2 h2=>?_
 obtain⟨it,fp,tn,J,H2,e,I2,T,st2,f2,q2⟩:=h2
 subst e
 refine Xk (RR:=λacc C=>compPost (model X.prog X.w) X.A X.xe (some (assign (.Name x px) X.env)) (λ_ s'=>SP X pins D .next s') acc C) (Q:=λD' H'=>Qw i (.ref D') σ H' D.nx) hc S I2 T st2 f2 hb q2 ?_
 intro D' C H' s' m hC hn hm I' q
 show wpAny _ X.A (assign (.Name x px) X.env (.ref D')) _ _ _
 refine wpAny_assign_Name (Y0 I' hN hxi hx (v:=.ref D') rfl (λs'' I'' hch=>?_) hf)
 obtain⟨a,sb,ha⟩:=hch
 have hCa:C≠a:=by
   rcases ha with z | z
   . rw[z];exact Nat.ne_of_gt (Nat.lt_of_lt_of_le I2.lt hC)
   . intro e
     obtain⟨v,qc⟩:=I2.cell x a z
     exact absurd (Nat.lt_of_lt_of_le qc.lt (by rw[<-e];exact hC)) (Nat.lt_irrefl _)
 refine⟨m,hm.sameBut sb hCa,λh' sb'=>?_⟩
 refine⟨_,H',?_,q⟩
 refine I''.turned (it:=C) (t':=s''.toks) (λb o hb e=>(sb'.2 b hb).trans e) hn (Nat.ne_of_gt (Nat.lt_of_lt_of_le I2.lt hC)) (.inr (Nat.le_trans I2.sz hC)) (λy c e z=>?_) λp hp z=>?_
 . obtain⟨v,qc⟩:=I2.cell y c e
   exact absurd (Nat.lt_of_lt_of_le qc.lt (by rw[z];exact hC)) (Nat.lt_irrefl _)
 . exact absurd (Nat.lt_of_lt_of_le (Heap.lt_size (I2.pin p hp).1) (by rw[z];exact hC)) (Nat.lt_irrefl _)
theorem QH {i:Nat} {x:Str} {elt iter target:Expr} {ifs:List Expr} {pos spos px:Pos} {wi:TI} {g:TG} {tt:TT} {te:TE} (hN:X.N.Nodup) (hxi:X.N[i]?=some x) (hx:Ro X.env.scope x) (hc:X.calm=true) (S:j3 X N' ix scope) (hi:JI X target iter wi) (hb:∀C s₂ H₂ fp pins,JG (zi X N' scope C s₂ H₂ fp pins) target g/\wc (zi X N' scope C s₂ H₂ fp pins) ifs tt/\JE (zi X N' scope C s₂ H₂ fp pins) elt te) (hsw:swapsWith (.ListComp elt [⟨target,iter,ifs,0⟩] scope pos) (some (.Name x px)) spos.line X.env=pure true:=by rfl) (hs:∀x,foldedSetIterable iter X.env x=pure x:=by intro _;rfl) (hf:X.fn x=true\/X.env.scope.names.lookup x=some .local:=by first | exact .inl rfl | exact .inr rfl | assumption):JS X (.Assign [.Name x px] (.ListComp elt [⟨target,iter,ifs,0⟩] scope pos) spos) (wv (NQ wi ix g tt te) (Qw i)):=.of (yy hN hxi hx hc S hi.to (λC s₂ H₂ fp pins=>⟨(hb C s₂ H₂ fp pins).1.to,(hb C s₂ H₂ fp pins).2.1.to,(hb C s₂ H₂ fp pins).2.2.to⟩) hsw hs hf)
end
end L2
set_option Elab.async false
set_option linter.all false
set_option maxRecDepth 100000
set_option maxHeartbeats 4000000
namespace L2
open PySem PySem.Spec PyProof.Rows
def MN (x:Str):It:=⟨λi _=>i < x.cps.size,λi H v H'=>H'=H/\∃c,x.cps[i]?=some c/\v=.str ⟨#[c]⟩,λi _=>i=x.cps.size⟩
theorem Wr {P:Program} {w:World} {K:PySem.W.Frag} {tg:Expr} (it:Addr) (x:Str) (t:Tok) (ty:String)
   (hn:["enumerate","zip","dict_itemiterator","dict_reverseitemiterator","odict_iterator","itertools.zip_longest","itertools.pairwise"].contains ty=false)
   (hW:∀A:Around,A.handled=none->Walks P w A it [it] [it] x.cps.size (SignAt x) (λi h=>h.IsStrIter it ty x t i))
   (hself:∀(A:Around) (i:Nat) (s:Shared) (Q:Value->Shared->Prop) (E:Value->Shared->Prop),s.heap.IsStrIter it ty x t i->Q (.ref it) s->wpAny (model P w) A (pyIter (.ref it)) Q E s):
   W8 P w K tg (MN x) [it] it (λi h=>h.IsStrIter it ty x t i) where
 mem:=by simp
 obj:=λi h st b hb=>by
   have e:b=it:=by simpa using hb
   subst e
   obtain⟨o,e,c,d⟩:=st
   exact⟨o,e,λv z=>by rw[d]at z;cases z⟩
 keep:=λi h h' st k=>let ⟨o,e,r⟩:=st;⟨o,k it (by simp) o e,r⟩
 item:=by
   intro X hP hw hK hc i pins s σ H E I hf st hg
   subst hP hw hK
   obtain⟨f0,f1,f2,f3,f4,f5⟩:=hf it (by simp)
   refine(hW X.A (I.ok.hd hc)).item i s _ _ hg st λv h' tk hv st' kk=>?_
   obtain⟨c,u,hcu,rfl⟩:=hv
   have I1:qx X pins σ H {s with heap:=h',toks:=tk}:=I.turned (λb o hb e=>kk b o (by simpa using hb) e) f0 f1 f3 f4 f5
   obtain⟨o,e,c1,d1⟩:=id st'
   exact⟨_,rfl,WS (s:={s with heap:=h',toks:=tk}) e c1 d1 hn ⟨.str ⟨#[c]⟩,H,I1,⟨u,rfl⟩,⟨rfl,c,hcu,rfl⟩,st',λb hb=>(hf b hb).1⟩⟩
 done:=by
   intro X hP hw hK hc i pins s σ H E I hf st hg
   subst hP hw hK
   obtain⟨f0,f1,f2,f3,f4,f5⟩:=hf it (by simp)
   have hi:i=x.cps.size:=hg
   subst hi
   exact(hW X.A (I.ok.hd hc)).done s _ _ st λh' tk kk=>⟨rfl,I.turned (λb o hb e=>kk b o (by simpa using hb) e) f0 f1 f3 f4 f5⟩
 self:=hself
def ME (tl:TE):TI:=λσ H R=>tl σ H λx H1=>∃y,x=.str y/\R (MN y) H1
theorem GJ {X:Cx} {tg l:Expr} {tl:TE} (hl:JE X l tl):JI X tg l (ME tl):=.of (by
 have hl:=hl.to
 intro pins s σ H R I h
 refine jf (hl pins s σ H _ I h) λv s1 ⟨x,H1,I1,r1,q1⟩=>?_
 obtain⟨y,e,q⟩:=q1
 subst e
 obtain⟨t,rfl⟩:=r1
 have fp:∀b∈[s1.heap.objs.size],Zq X pins H1 b:=λb hb=>by
   have e:b=s1.heap.objs.size:=by simpa using hb
   subst e
   exact I1.fpOk (Nat.le_refl _) (I1.hok.fresh (Nat.le_refl _))
 cases ha:y.cps.all (· < 128)
 . refine wpAny_pyIter_wide ha ?_
   exact⟨s1.heap.objs.size,[s1.heap.objs.size],_,_,H1,rfl,I1.kept (t':=s1.toks) λb o e=>Heap.get?_push_of_some _ e,
     Wr _ y t "str_iterator" (by decide) (λA hA=>Walks.strWide hA _ y t) (λA i s Q E st q=>wpAny_pyIter_striter_wide st q),⟨_,Heap.get?_push_size _ rfl,rfl,rfl⟩,fp,q⟩
 . refine wpAny_pyIter_ascii ha ?_
   exact⟨s1.heap.objs.size,[s1.heap.objs.size],_,_,H1,rfl,I1.kept (t':=s1.toks) λb o e=>Heap.get?_push_of_some _ e,
     Wr _ y t "str_ascii_iterator" (by decide) (λA hA=>Walks.strAscii hA _ y t) (λA i s Q E st q=>wpAny_pyIter_striter_ascii st q),⟨_,Heap.get?_push_size _ rfl,rfl,rfl⟩,fp,q⟩)
section
variable {K:PySem.W.Frag} {g:TG} {tt:TT} {te:TE} {D a:Addr} {σ:St} {H:Hp} {Q:Hp->Prop}
def YH (tt:TT) (te:TE) (D:Addr) (N:St->Hp->Prop):St->Hp->Prop:=λσ2 H3=>tt σ2 H3 λb H4=>
 if b=true then te σ2 H4 λv H5=>∃ys,H5 D=some (.lst ys)/\ys.length < sizeLine/\N σ2 (upd H5 D (.lst (ys++[v]))) else N σ2 H4
theorem Z7 {J:It} {n:Nat} (Pv:Nat->St->Hp->Prop) (h0:Pv 0 σ (upd H D (.lst [])))
   (go:∀i σ' H',i < n->Pv i σ' H'->J.go i H'/\∀x H2,J.yld i H' x H2->g x σ' H2 (YH tt te D (Pv (i+1)))) (stop:∀σ' H',Pv n σ' H'->J.stop n H'/\Q H'):Zs J g tt te D σ H Q:=by
 refine⟨λi m σ' H'=>m=n - i/\i<=n/\Pv i σ' H',⟨n,by simp,Nat.zero_le _,h0⟩,?_⟩
 rintro i m σ' H' ⟨rfl,hi,p⟩
 by_cases hlt:i < n
 . obtain⟨h1,h2⟩:=go i σ' H' hlt p
   exact .inr ⟨h1,Pv (i+1),λσ2 H2 p2=>⟨n - (i+1),by omega,rfl,hlt,p2⟩,h2⟩
 . have e:i=n:=by omega
   subst e
   exact .inl (stop σ' H' p)
theorem Jb {lo:Int} {n:Nat} (Pv:Nat->St->Hp->Prop) (h0:Pv 0 σ (upd H D (.lst [])))
   (hs:∀i σ' H',i < n->Pv i σ' H'->g (.int (lo+i)) σ' H' (YH tt te D (Pv (i+1)))) (hd:∀σ' H',Pv n σ' H'->Q H'):Zs (KL lo n) g tt te D σ H Q:=
 Z7 (n:=n) Pv h0 (λi σ' H' hi p=>⟨hi,λx H2 y=>by
   obtain⟨e,y⟩:=y
   subst e y
   exact hs i σ' H2 hi p⟩) λσ' H' p=>⟨Nat.le_refl _,hd σ' H' p⟩
theorem QJ {xs:List V} (Pv:Nat->St->Hp->Prop) (h0:Pv 0 σ (upd H D (.lst []))) (hl:∀i σ' H',i<=xs.length->Pv i σ' H'->SqL K H' a xs)
   (hs:∀i x σ' H',xs[i]?=some x->Pv i σ' H'->g x σ' H' (YH tt te D (Pv (i+1)))) (hd:∀σ' H',Pv xs.length σ' H'->Q H'):Zs (Rq K a) g tt te D σ H Q:=
 Z7 (n:=xs.length) Pv h0 (λi σ' H' hi p=>⟨⟨xs,xs[i],hl i σ' H' (Nat.le_of_lt hi) p,by simp [hi]⟩,λx H2 y=>by
   obtain⟨e,y⟩:=y
   subst e
   exact hs i x σ' _ (y xs (hl i σ' _ (Nat.le_of_lt hi) p)) p⟩) λσ' H' p=>⟨⟨xs,hl _ σ' H' (Nat.le_refl _) p,Nat.le_refl _⟩,hd σ' H' p⟩
theorem UZ {xs:List V} (Pv:Nat->St->Hp->Prop) (h0:Pv 0 σ (upd H D (.lst []))) (hl:∀i σ' H',i<=xs.length->Pv i σ' H'->SqT K H' a xs)
   (hs:∀i x σ' H',xs[i]?=some x->Pv i σ' H'->g x σ' H' (YH tt te D (Pv (i+1)))) (hd:∀σ' H',Pv xs.length σ' H'->Q H'):Zs (KJ K a) g tt te D σ H Q:=
 Z7 (n:=xs.length) Pv h0 (λi σ' H' hi p=>⟨⟨xs,xs[i],hl i σ' H' (Nat.le_of_lt hi) p,by simp [hi]⟩,λx H2 y=>by
   obtain⟨e,y⟩:=y
   subst e
   exact hs i x σ' _ (y xs (hl i σ' _ (Nat.le_of_lt hi) p)) p⟩) λσ' H' p=>⟨⟨xs,hl _ σ' H' (Nat.le_refl _) p,Nat.le_refl _⟩,hd σ' H' p⟩
theorem u3 {x:Str} (Pv:Nat->St->Hp->Prop) (h0:Pv 0 σ (upd H D (.lst [])))
   (hs:∀i c σ' H',x.cps[i]?=some c->Pv i σ' H'->g (.str ⟨#[c]⟩) σ' H' (YH tt te D (Pv (i+1)))) (hd:∀σ' H',Pv x.cps.size σ' H'->Q H'):Zs (MN x) g tt te D σ H Q:=
 Z7 (n:=x.cps.size) Pv h0 (λi σ' H' hi p=>⟨hi,λv H2 y=>by
   obtain⟨e,c,hc,rfl⟩:=y
   subst e
   exact hs i c σ' _ hc p⟩) λσ' H' p=>⟨rfl,hd σ' H' p⟩
end
section
variable {X:Cx}
theorem YI:∀(bs:List Bool),(List.range bs.length).all (λi=>bs.getD i false)=bs.all id:=by
 intro bs
 induction bs with
 | nil=>rfl
 | cons b bs ih=>
   rw[List.length_cons,List.range_succ_eq_map,List.all_cons,List.all_map,List.all_cons]
   have:((λi=>(b::bs).getD i false) ∘ Nat.succ)=λi=>bs.getD i false:=by
     funext i
     simp [Function.comp]
   rw[this,ih]
   simp
theorem Z6 (hc:X.calm=true):Qe X (.builtin "all") (λxs H Q=>∃(p:Addr) (bs:List Bool),xs=[.ref p]/\SqL X.K H p (bs.map V.bl)/\Q (.bl (bs.all id)) H):=by
 intro pins s σ H xs us Q I r h
 obtain⟨p,bs,rfl,hq,q⟩:=h
 obtain⟨u,rfl,rx⟩:=Qv r
 cases rx
 obtain⟨its,rv,pl,hz⟩:=I.list hq
 have hlt:p < s.heap.objs.size:=by
   obtain⟨o,n,e,_⟩:=pl
   exact Heap.lt_size e
 have hn:its.toArray.size=bs.length:=by
   have:=rv.length
   rw[List.length_map]at this
   simp only[List.size_toArray]
   omega
 have hh:X.A.in1.handled=none:=I.ok.hd hc
 refine call_all_walk (wpAny_pyIter_list pl.isList ?_)
 refine⟨s.heap.objs.size,[s.heap.objs.size,p],[s.heap.objs.size],its.toArray.size,λi v=>its.toArray[i]?=some v,_,λi=>bs.getD i false,rfl,Walks.list hh s.heap.objs.size p (Nat.ne_of_lt hlt) its.toArray,
   ⟨⟨_,Heap.get?_push_size _ rfl,rfl,rfl⟩,pl.isList.at λo e=>Heap.get?_push_of_some _ e⟩,?_,λh' tk hk=>?_⟩
 . intro i v s' Q' E' hP hQ
   have hi:its[i]?=some v:=by simpa using hP
   have hb:∃b,bs[i]?=some b/\v=Value.bool b:=by
     cases e:bs[i]? with
     | none=>
       exfalso
       have h1:(bs.map V.bl)[i]?=none:=by rw[List.getElem?_map,e];rfl
       rw[qF.none_of rv h1]at hi
       cases hi
     | some b=>
       have h1:(bs.map V.bl)[i]?=some (V.bl b):=by rw[List.getElem?_map,e];rfl
       obtain⟨u,hu,ru⟩:=rv.get h1
       rw[hi]at hu
       cases hu
       exact⟨b,rfl,ru⟩
   obtain⟨b,e,rfl⟩:=hb
   refine wpAny_truthy_bool ?_
   have e2:bs.getD i false=b:=by rw[List.getD_eq_getElem?_getD,e];rfl
   have hQ':Q' (bs.getD i false) s':=hQ
   rw[e2]at hQ'
   exact hQ'
 . rw[hn,YI]
   refine⟨.bl (bs.all id),H,?_,rfl,q⟩
   exact I.kept (h':=h') (t':=tk) λb o e=>hk b o (by
     intro z
     have z':b=s.heap.objs.size:=by simpa using z
     exact absurd (Heap.lt_size e) (by rw[z'];exact Nat.lt_irrefl _)) (Heap.get?_push_of_some _ e)
theorem Vn {ys:List Str}:∀{us:List Value},qF (ys.map V.str) us->StrsAre us ys:=by
 induction ys with
 | nil=>
   intro us r
   rw[List.map_nil]at r
   cases r
   exact .nil
 | cons y ys ih=>
   intro us r
   rw[List.map_cons]at r
   cases r with
   | cons a b=>
     obtain⟨t,rfl⟩:=a
     exact .cons _ _ (ih b)
def R8 (K:PySem.W.Frag):V->List V->Hp->VK->Prop:=λx xs H Q=>∃(sep:Str) (p:Addr) (ys:List Str),x=.str sep/\xs=[.ref p]/\SqL K H p (ys.map V.str)/\(ys.map (·.length)).sum+ys.length*sep.length<=16777216/\Q (.str (Txt.join sep ys)) H
theorem uz:Ry X "str.join" (R8 X.K):=by
 intro pins s σ H x xs v us Q I rx rv h
 obtain⟨sep,p,ys,rfl,rfl,hq,hz,q⟩:=h
 obtain⟨t,rfl⟩:=rx
 obtain⟨u,rfl,ru⟩:=Qv rv
 cases ru
 obtain⟨its,r',pl,_⟩:=I.list hq
 exact join_list pl.isList (by simpa using Vn r') hz λt' k=>⟨.str _,H,I.tok k,⟨t',rfl⟩,q⟩
def u0:V->Value
 | .ty n=>.type n
 | .ref a=>.ref a
 | _=>.none
def KD:V->Bool
 | .ty _=>true
 | .ref _=>true
 | _=>false
def yw (K:PySem.W.Frag):List V->Hp->VK->Prop:=λxs H Q=>∃x c t b,xs=[x,c]/\KD c=true/\Z8 K H x t/\PySem.W.kitOne K t (u0 c)=some b/\Q (.bl b) H
theorem jq:Qe X (.builtin "isinstance") (yw X.K):=by
 intro pins s σ H xs us Q I r h
 obtain⟨x,c,t,b,rfl,hc,ty,e,q⟩:=h
 obtain⟨u,w',rfl,ru,rw'⟩:=V8 r
 have ew:w'=u0 c:=by
   cases c with
   | ty n=>exact rw'
   | ref a=>exact rw'
   | _=>cases hc
 subst ew
 exact kc I ru ty e λtk=>⟨.bl b,H,I.tok tk,rfl,q⟩
end
end L2
namespace L2
open PySem PySem.Spec PyProof.Rows
end L2
set_option Elab.async false
set_option linter.all false
set_option maxRecDepth 100000
set_option maxHeartbeats 4000000
namespace L2
open PySem PySem.Spec PyProof.Rows
abbrev RC (rest:List Value):Obj:={cls:=.type "tuple",data:=.seq rest.toArray}
abbrev Re (C t:Addr):Obj:={cls:=.ref C,data:=.fields #[.ref t,.none,.none,.none,.bool false,.none]}
section
variable {prog:Program} {w:World} {A:Around} {E:Value->Shared->Prop} {h:Heap} {g:Array GenState} {d:Drawn} {t:Nat} {os:OsState}
variable {nm q:Str} {C N fI:Addr} {bs bm bmB bmN:List Value} {hdct:Bool} {sn:List Str} {sub:List Value} {ab:Bool} {col:Option Bool} {dd:Option Addr} {k0 k1 k2 k3 k5:Option Value} {B Bn newId nid initId inN:String} {rest:List Value} {oI:Obj}
theorem Vl {Q:Fin->Shared->Prop} (Fn:ExcBaseFacts Bn newId inN bmN) (hBn:bmB.contains (.type Bn)=true)
   (F:ExcBaseFacts B nid initId bmB) (T:OwnTail h bmB bm)
   (hC:h.get? C=some (excClassObj nm q C N bs bm hdct sn sub ab col dd k0 k1 k2 k3 k5 newId))
   (hi:PySem.W.Looks (model prog w) h (typeLookup (.ref C) "__init__") (some (.ref fI))) (hfI:h.get? fI=some oI) (hfc:oI.cls=.type "function")
   (hq:∀h' e,h.objs.size<=e->Heap.MadeExcOf h h' e (.ref C) rest->
     wpAny (model prog w) A (call (.ref fI) (.ref e::rest)) (λr s'=>r=.none/\Q (.done (.ret (.ref e))) s') E ⟨h',g,d,t,os⟩)
   (hz:rest.length<=sizeLine):
   wpAny (model prog w) A (Builtin.«type.__call__» ⟨.ref C::rest,[]⟩) Q E ⟨h,g,d,t,os⟩:=by
 repeat (first
   | with_reducible refine wpAny_loadPart_at hC ?_
   | with_reducible refine wpAny_madeBy_exc hC ?_
   | wp_step)
 refine codeAny_call_builtin_code (Code.quiet_builtin _ Fn.quiet) (wpAny_check_new_subU Fn hBn T hC
   (codeAny_exc_new_subU Fn hBn F T hC ?_ hz))
 show wpAny _ _ _ _ _ _
 have k:∀b o,h.get? b=some o->((h.push (RC rest)).push (Re C h.objs.size)).get? b=some o:=λb o e=>
   Heap.get?_push_of_some _ (Heap.get?_push_of_some _ e)
 have c1:=k _ _ hC
 have f1:=k _ _ hfI
 have i1:=hi.keeps k
 have e1:((h.push (RC rest)).push (Re C h.objs.size)).get? (h.objs.size+1)=some (Re C h.objs.size):=by heap_get
 have hcC:(Value.ref C::bm).contains (.ref C)=true:=by simp
 unfold isInstance
 repeat (first
   | with_reducible refine wpAny_loadPart_at e1 ?_
   | (with_reducible refine wpAny_isSubtype_exc c1 ?_;rw[hcC])
   | wp_step)
 show wpAny _ _ (typeLookup (.ref C) _) _ _ _
 refine i1.at ?_
 refine wpAny_holding (wpAny_bind ?_)
 unfold bindSpecial
 refine wpAny_bind (wpAny_typeOf (T:="function") ⟨_,f1,hfc⟩ ?_)
 rw[if_pos (by decide)]
 refine wpAny_pure (wpAny_bind (jf (hq _ (h.objs.size+1) (Nat.le_succ _) ⟨k,Heap.get?_none_of_le (Nat.le_succ _),h.objs.size,e1,Heap.get?_none_of_le (Nat.le_refl _),?_⟩) λr s' hr=>?_))
 . exact Heap.get?_push_of_some _ (Heap.get?_push_at rfl rfl)
 . obtain⟨rfl,hQ⟩:=hr
   wp_walk
   exact hQ
theorem kF {Q:Value->Shared->Prop} (Fn:ExcBaseFacts Bn newId inN bmN) (hBn:bmB.contains (.type Bn)=true)
   (F:ExcBaseFacts B nid initId bmB) (T:OwnTail h bmB bm)
   (hC:h.get? C=some (excClassObj nm q C N bs bm hdct sn sub ab col dd k0 k1 k2 k3 k5 newId))
   (hi:PySem.W.Looks (model prog w) h (typeLookup (.ref C) "__init__") (some (.ref fI))) (hfI:h.get? fI=some oI) (hfc:oI.cls=.type "function")
   (hq:∀h' e,h.objs.size<=e->Heap.MadeExcOf h h' e (.ref C) rest->
     wpAny (model prog w) (A.under (.builtin "type.__call__" ⟨.ref C::rest,[]⟩)) (call (.ref fI) (.ref e::rest)) (λr s'=>r=.none/\Q (.ref e) s') E ⟨h',g,d,t,os⟩)
   (hz:rest.length<=sizeLine):
   wpAny (model prog w) A (call (.ref C) rest) Q E ⟨h,g,d,t,os⟩:=by
 have a1:=tc_lookup
 have a2:=tc_bind (.ref C)
 have a3:(⟨h,g,d,t,os⟩:Shared).TypeIs (.ref C) "type":=⟨_,hC,rfl⟩
 refine wpAny_call (codeAny_of_tree ?_)
 show wpAny _ _ (callAny (.ref C) _) _ _ _
 repeat (any_goals (first
   | assumption
   | with_reducible refine wpAny_loadPart_at hC ?_
   | wp_step))
 refine⟨rfl,codeAny_call_builtin_at (Code.quiet_builtin _ (by decide+kernel)) entry_typeCall
   (wpAny_check_type_call_sub hC (Vl Fn hBn F T hC hi hfI hfc (λh' e he hm=>?_) hz))⟩
 exact hq h' e he hm
end
end L2
namespace L2
open PySem PySem.W PyProof.Rows Builtin Builtin.ObjectAttr
structure zu (K:Frag) (C:Addr) (bm:List Value):Prop where
 ga:findIn K (.ref C) "__getattribute__"=some (some (.builtin "BaseException.__getattribute__"))
 gt:findIn K (.ref C) "__getattr__"=some none
 sa:findIn K (.ref C) "__setattr__"=some (some (.builtin "object.__setattr__"))
 hd:hasDictIn K C=true
 mr:∃cd,clsIn K C=some cd/\cd.mro=.ref C::bm
 mb:mroIn K C (.type "BaseException")=some true
 mo:mroIn K C (.type "object")=some true
 cl:findIn K (.ref C) "__class__"=some (some (.builtin "object.__class__"))
def Vz:List Value->Prop
 | .ref _::r=>Vz r
 | l=>l=[.type "ValueError",.type "Exception",.type "BaseException",.type "object"]
theorem UA (self:Value):∀{l:List Value},Vz l->refuseLoop self "__setattr__" l=pure ()
 | .ref c::r,e=>by rw[refuseLoop_ref];exact UA self (l:=r) e
 | [],e=>nomatch (show ([]:List Value)=[.type "ValueError",.type "Exception",.type "BaseException",.type "object"] from e)
 | .type n::r,e=>by
   have e':(Value.type n::r)=[.type "ValueError",.type "Exception",.type "BaseException",.type "object"]:=e
   rw[e'];kernel_rfl
 | .none::r,e=>by have e':(Value.none::r)=[.type "ValueError",.type "Exception",.type "BaseException",.type "object"]:=e;cases e'
 | .bool _::r,e=>by have e':_=[Value.type "ValueError",.type "Exception",.type "BaseException",.type "object"]:=e;cases e'
 | .int _ _::r,e=>by have e':_=[Value.type "ValueError",.type "Exception",.type "BaseException",.type "object"]:=e;cases e'
 | .float _ _::r,e=>by have e':_=[Value.type "ValueError",.type "Exception",.type "BaseException",.type "object"]:=e;cases e'
 | .str _ _::r,e=>by have e':_=[Value.type "ValueError",.type "Exception",.type "BaseException",.type "object"]:=e;cases e'
 | .bytes _ _::r,e=>by have e':_=[Value.type "ValueError",.type "Exception",.type "BaseException",.type "object"]:=e;cases e'
 | .builtin _::r,e=>by have e':_=[Value.type "ValueError",.type "Exception",.type "BaseException",.type "object"]:=e;cases e'
section
variable {prog:Program} {w:World} {A:Around} {E:Value->Shared->Prop} {s:Shared} {K:Frag} {x C:Addr} {ox:Obj} {od:Option Obj} {bm:List Value} {name:Str} {v:Value}
theorem w6 {tk:Tok} {R:Result->Shared->Prop} (X:K.In s.heap) (I:InstAt s.heap x ox C od) (c:zu K C bm) (hb:Vz bm) (ht:findIn K (.ref C) name=some none)
   (h:∀b,wpAny (model prog w) A.in1 (storeInOwnDict (.ref x) (.ref C) (.str name tk) name v b)
     (λfin s'=>match fin with | .done f=>R (.ok f) s' | .again c'=>c'.quiet=true/\codeAny (model prog w) A c' R s') (λe s'=>R (.error e) s') s):
   codeAny (model prog w) A (.call (.builtin "object.__setattr__") ⟨[.ref x,.str name tk,v],[]⟩) R s:=by
 have SF:=PySem.F.store_object
 obtain⟨cd,hc,hm⟩:=c.mr
 have sub:Looks (model prog w) s.heap (isInstance (.ref x) (.type "object")) true:=I.type.andThen (looks_mroIn X c.mo)
 refine codeAny_call_builtin SF.slot.plain SF.entry
   (@check_slot (model prog w) _ _ s "object.__setattr__" "object" "__setattr__" (.ref x) [.str name tk,v] [] _ SF.kind SF.split sub (SF.args (.ref x) (.str name tk) v) ?_)
 have lm:Looks (model prog w) s.heap (mroOf (.ref C)) cd.mro:=(looks_clsIn X hc).andThen .now
 rw[osa_eq,refuse_eq]
 refine wpAny_bind (wpAny_bind (I.type.here (wpAny_bind (lm.here ?_))))
 rw[hm,refuseLoop_ref,UA _ hb]
 refine wpAny_pure (wpAny_bind (I.type.here (wpAny_bind ((looks_findIn X ht).here ?_))))
 exact wpAny_bind (wpAny_pure (h _))
theorem k9 {Q:Unit->Shared->Prop} (X:K.In s.heap) (hx:s.heap.get? x=some ox) (hc:ox.cls=.ref C) (hdc:ox.dict=none) (hda:∃fl,ox.data=.fields fl) (c:zu K C bm) (hb:Vz bm) (ht:findIn K (.ref C) name=some none)
   (h:∀h' tk,h'.get? x=some {ox with dict:=some s.heap.objs.size}->h'.Ns1 s.heap.objs.size (λy=>if y=name then some v else none)->
     (∀b o,b≠x->s.heap.get? b=some o->h'.get? b=some o)->Q () {s with heap:=h',toks:=tk}):
   wpAny (model prog w) A (setAttr (.ref x) name v) Q E s:=by
 obtain⟨fl,hfl⟩:=hda
 obtain⟨oc,odi,oda,osl⟩:=ox
 dsimp only at hc hdc hfl
 subst hc hdc hfl
 have I:InstAt s.heap x ⟨.ref C,none,.fields fl,osl⟩ C none:=⟨hx,rfl,rfl,trivial⟩
 refine set_plain X I c.sa (w6 (s:={s with toks:=s.toks+1}) X I c hb ht λb=>?_)
 obtain⟨cd,hcd,hdd⟩:=any_some c.hd
 refine wpAny_bind (wpAny_pure (wpAny_bind (wpAny_bind (wpAny_loadPart hx (wpAny_bind (Looks.here (s:={s with toks:=s.toks+1}) (looks_clsIn X hcd) ?_))))))
 rw[hdd]
 have hne:x≠s.heap.objs.size:=Nat.ne_of_lt (Heap.lt_size hx)
 have h1:=Heap.get?_push_of_some PySem.W.emptyDict hx
 refine wpAny_bind (wpAny_alloc (wpAny_bind (wpAny_update h1 ?_)))
 generalize hh2:(s.heap.push emptyDict).update x (λo=>{o with dict:=some s.heap.objs.size})=h2
 have e2:h2.get? x=some ⟨.ref C,some s.heap.objs.size,.fields fl,osl⟩:=by rw[<-hh2];exact Heap.get?_update_self _ h1 rfl
 have k2:∀b o,b≠x->(s.heap.push emptyDict).get? b=some o->h2.get? b=some o:=λb o hb e=>by rw[<-hh2,Heap.get?_update_other _ _ (Ne.symm hb)];exact e
 have n0:(s.heap.push emptyDict).Ns s.heap.objs.size (λ_=>none):=⟨emptyDict,#[],_,Heap.get?_push_size s.heap rfl,rfl,(λe he=>absurd he (by simp)),λ_=>rfl⟩
 have n2:h2.Ns1 s.heap.objs.size (λ_=>none):=(Heap.Ns1.of_empty n0).at λo q=>k2 _ o (Ne.symm hne) q
 refine wpAny_pure (a:=some s.heap.objs.size) (wpAny_bind (wpAny_pure (wpAny_bind ?_)))
 refine wpAny_nsSet1 (s:={s with heap:=h2,toks:=s.toks+1}) n2 λh' hn2 hs2=>?_
 obtain⟨oD,esD,epD,hoD,hdD,hcD⟩:=hn2.count (PySem.Within.cons name v PySem.Within.nil)
 refine wpAny_bind (wpAny_lookBehind hoD (by rw[hdD];exact pastItsLine_dict (Nat.le_trans hcD (by show 1<=sizeLine+1;decide))) ?_)
 refine wpAny_pure (h h' (s.toks+1+1) ((hs2.2 x hne).trans e2) hn2 λb o hb e=>?_)
 exact(hs2.2 b (Nat.ne_of_lt (Heap.lt_size e))).trans (k2 b o hb (Heap.get?_push_of_some _ e))
theorem UO {fill expr:Bool} {tk:Tok} {Q:Value->Shared->Prop} (X:K.In s.heap) (I:InstAt s.heap x ox C od) (c:zu K C bm)
   (h:wpAny (model prog w) A.in1 (Builtin.«object.__getattribute__» ⟨[.ref x,.str name tk],[]⟩) (λfin s'=>match fin with | .done (.ret u)=>handedIn u=true/\Q u s' | _=>False) (λ_ _=>False) s):
   wpAny (model prog w) A (getAttrBy (.ref x) (.str name tk) fill expr) Q E s:=by
 have ga:=PySem.F.attr_ValueError.ga
 have L1:=looks_findIn (M:=model prog w) X c.ga
 have L2:=looks_findIn (M:=model prog w) X c.gt
 have hk:builtinKind "BaseException.__getattribute__"=some .slot:=by decide+kernel
 have hs:splitId "BaseException.__getattribute__"=some ("BaseException","__getattribute__"):=by decide+kernel
 have sub:Looks (model prog w) s.heap (isInstance (.ref x) (.type "BaseException")) true:=I.type.andThen (looks_mroIn X c.mb)
 unfold getAttrBy
 refine wpAny_holding (wpAny_bind (I.type.here (wpAny_bind (L1.here ?_))))
 dsimp only
 have eb:(Value.builtin "BaseException.__getattribute__"==Value.builtin "object.__getattribute__")=false:=by decide+kernel
 rw[if_neg (by rw[eb,Bool.and_false];decide)]
 unfold getAttrByItsOwn
 refine wpAny_bind (show wpAny _ _ (hookBefore (.ref C)) _ _ _ from L2.here ?_)
 refine wpAny_bind (wpAny_attempt (wpAny_holding ?_))
 unfold callGetattribute
 have e0:(expr&&onTheHeap (Value.builtin "BaseException.__getattribute__"))=false:=by cases expr<;>rfl
 rw[if_neg (by rw[e0];decide)]
 unfold boundAndCalled
 rw[ga.bind]
 refine wpAny_bind (wpAny_pure ?_)
 refine wpAny_call (codeAny_call_builtin ga.plain PySem.F.entry_bexc_ga
   (@check_slot (model prog w) _ _ s "BaseException.__getattribute__" "BaseException" "__getattribute__" (.ref x) [.str name tk] [] _ hk hs sub (PySem.F.args_bexc_ga _ _) ?_))
 refine wpAny_mono h (λfin s' z=>?_) λ_ _ z=>z.elim
 cases fin with
 | again c'=>exact z.elim
 | done f=>
   cases f with
   | next=>exact z.elim
   | brk=>exact z.elim
   | cont=>exact z.elim
   | ret u=>
     obtain⟨hh,q⟩:=z
     show wpAny _ _ (handedOut u) _ _ _
     rw[handedOut_of hh]
     exact wpAny_pure q
theorem uT {expr:Bool} {Q:Value->Shared->Prop} {odd:Obj} (X:K.In s.heap) (I:InstAt s.heap x ox C (some odd)) (c:zu K C bm) (ha:findIn K (.ref C) name=some none) (hl:lookIn name odd=some (some v)) (hv:handedIn v=true)
   (h:Q v {s with toks:=s.toks+1}):wpAny (model prog w) A (getAttr (.ref x) name expr) Q E s:=by
 have hf:findObj K C (some odd) name=some (.value v):=findObj_own c.hd ha rfl hl
 have LF:=looks_find (M:=model prog w) X I hf
 unfold getAttr
 refine wpAny_bind (wpAny_mkText (UO (s:={s with toks:=s.toks+1}) X I c ?_))
 unfold Builtin.«object.__getattribute__»
 refine wpAny_bind (wpAny_pure (wpAny_bind (wpAny_pure (wpAny_bind (Looks.here (s:={s with toks:=s.toks+1}) I.type (wpAny_bind (Looks.here (s:={s with toks:=s.toks+1}) LF ?_)))))))
 exact wpAny_pure ⟨hv,h⟩
end
end L2
namespace L2
open PySem PySem.W PyProof.Rows Builtin Builtin.ObjectAttr
section
variable {K:Frag} {x C:Addr} {ox odd:Obj} {bm:List Value}
theorem xl (c:zu K C bm) (hn:specialIn K (.builtin "object.__class__") "__get__"=some (some (.builtin "getset_descriptor.__get__"))) (htk:takesIn K (.builtin "object.__class__")=some true):
   KitX K (.ref x) (.ref C) (λh=>InstAt h x ox C (some odd)) where
 ty:=λ_ _ _ I=>I.type
 it:=λ_ _ X _=>by
   obtain⟨cd,hcd,_⟩:=any_some c.hd
   unfold clsIn at hcd
   split at hcd
   . rename_i _ _ _ _ ho
     intro A' Q' E' s' k q
     unfold isType loadHead
     exact wpAny_bind (wpAny_loadPart (k _ _ (X _ _ ho)) (wpAny_pure q))
   . cases hcd
 ne:=λh tp dd its n sl X htp=>by
   obtain⟨cd,hcd,_⟩:=any_some c.hd
   refine Bool.eq_false_iff.mpr λq=>?_
   have e:C=tp:=Value.ref.inj (beq_iff_eq.mp q)
   subst e
   unfold clsIn at hcd
   split at hcd
   . rename_i _ _ _ _ ho
     have z:=(X _ _ ho).symm.trans htp
     cases z
   . cases hcd
 ca:=λ{prog w A E Q s} X I k=>by
   have hf:findObj K C (some odd) "__class__"=some (.bind (.builtin "getset_descriptor.__get__") (.builtin "object.__class__")):=
     findObj_data (by obtain⟨cd,hc,_⟩:=any_some c.hd;rw[hc];rfl) c.cl hn htk
   have LF:=looks_find (M:=model prog w) X I hf
   unfold getAttr? getAttrBy?
   refine wpAny_bind (wpAny_mkText (wpAny_bind (wpAny_attempt (UO (s:={s with toks:=s.toks+1}) X I c ?_))))
   unfold Builtin.«object.__getattribute__»
   refine wpAny_bind (wpAny_pure (wpAny_bind (wpAny_pure (wpAny_bind (Looks.here (s:={s with toks:=s.toks+1}) I.type (wpAny_bind (Looks.here (s:={s with toks:=s.toks+1}) LF ?_)))))))
   dsimp only
   unfold bindTo
   dsimp only
   refine wpAny_bind (wpAny_holding (wpAny_call (class_get (s:={s with toks:=s.toks+1}) X I c.mo ?_)))
   exact wpAny_pure ⟨rfl,wpAny_pure k⟩
end
end L2
set_option Elab.async false
set_option linter.all false
set_option maxRecDepth 100000
set_option maxHeartbeats 4000000
namespace L2
open PySem PySem.Spec PyProof.Rows
def Z5 (e C:Addr):HO:=.ext λh=>∃fl,h.get? e=some {cls:=.ref C,data:=.fields fl}/\fl[1]?=some Value.none
def QY (e C dx:Addr) (hd:Value):HO:=.ext λh=>∃fl,h.get? e=some {cls:=.ref C,dict:=some dx,data:=.fields fl}/\fl[1]?=some hd
abbrev J5 (e C dx:Addr):HO:=QY e C dx .none
def Qd:List Value:=[.type "ValueError",.type "Exception",.type "BaseException",.type "object"]
structure NJ (K:PySem.W.Frag) (C f:Addr) (bm:List Value):Prop where
 obj:∃nm q N bs hdct sn sub ab col dd k0 k1 k2 k3 k5,K.lookup C=some (excClassObj nm q C N bs bm hdct sn sub ab col dd k0 k1 k2 k3 k5 "ValueError.__new__")
 tail:∀h:Heap,K.In h->OwnTail h Qd bm
 init:PySem.W.findIn K (.ref C) "__init__"=some (some (.ref f))
 fn:PySem.W.isFn K (.ref f)=true
 kp:PySem.W.keepIn K (.ref C)=true
section
variable {P:Program} {w:World} {H:Hp} {h h':Heap} {e C dx:Addr}
theorem uW (he:∃fl,h.get? e=some {cls:=.ref C,data:=.fields fl}/\fl[1]?=some Value.none):qH P w H h e (Z5 e C):=by
 obtain⟨fl,q,z⟩:=he
 exact⟨⟨fl,q,z⟩,⟨_,q⟩,λh1 h2 ⟨fl',q',z'⟩ k=>⟨fl',k _ q',z'⟩⟩
theorem zM {hd:Value} (he:∃fl,h.get? e=some {cls:=.ref C,dict:=some dx,data:=.fields fl}/\fl[1]?=some hd):qH P w H h e (QY e C dx hd):=by
 obtain⟨fl,q,z⟩:=he
 exact⟨⟨fl,q,z⟩,⟨_,q⟩,λh1 h2 ⟨fl',q',z'⟩ k=>⟨fl',k _ q',z'⟩⟩
end
section
variable {X:Cx} {pins:List (Addr×Obj)} {σ:St} {H:Hp} {s:Shared} {e C dx:Addr} {f:Str} {bm:List Value} {y v:V} {u:Value} {A:Around} {E:Value->Shared->Prop}
theorem qx.excSet {h':Heap} {t':Nat} {fs:List (Str×V)} (I:qx X pins σ H s) (hH:H e=some (Z5 e C)) (hd:s.heap.objs.size<=dx)
   (h1:∃fl,h'.get? e=some {cls:=.ref C,dict:=some dx,data:=.fields fl}/\fl[1]?=some Value.none) (h2:∃mA,h'.Ns1 dx mA/\∀f,Jt (fs.lookup f) (mA f))
   (k:∀b o,b≠e->s.heap.get? b=some o->h'.get? b=some o):qx X pins σ (upd (upd H e (J5 e C dx)) dx (.xd fs)) {s with heap:=h',toks:=t'}:=by
 have mu:Rn (H e):=by rw[hH];exact trivial
 have heo:∃u,h'.get? e=some u:=let ⟨_,q,_⟩:=h1;⟨_,q⟩
 have hn:H dx=none:=I.hok.fresh hd
 have ne:dx≠e:=λz=>by rw[z,hH]at hn;cases hn
 have U:Un X.fs [] H (upd H e (J5 e C dx)) s.heap h':=Un.write mu (.inl rfl) k heo
 have W:Jd X.prog X.w (upd H e (J5 e C dx)) h':=I.hok.write mu (.inl rfl) k heo (zM h1)
 have hn2:(upd H e (J5 e C dx)) dx=none:=by rw[qg ne];exact hn
 have nb:∀b o,s.heap.get? b=some o->b≠dx:=λb o q=>Nat.ne_of_lt (Nat.lt_of_lt_of_le (Heap.lt_size q) hd)
 refine I.un ⟨U.keep,U.slot,λb o q n hx=>?_,U.there,λb xs q=>?_,λb o z q=>?_,λb ps q=>?_⟩ λb o q=>?_
 . rw[qg (nb b o q)];exact U.free b o q n hx
 . have:=U.tups b xs q
   rw[qg (ql this hn2)];exact this
 . have:=U.frzs b o z q
   rw[qg (ql this hn2)];exact this
 . obtain⟨m,q'⟩:=U.tbls b ps q
   exact⟨m,by rw[qg (ql q' hn2)];exact q'⟩
 . by_cases hb:b=dx
   . subst hb
     rw[qd]at q
     cases q
     exact h2
   . rw[qg hb]at q
     exact(W b o q).stay (λ_ _ _ z=>z) (λc z=>by rw[qg (ql z hn2)];exact z) λc xs z=>by rw[qg (ql z hn2)];exact z
theorem vm {Q:Unit->Shared->Prop} (I:qx X pins σ H s) (hH:H e=some (Z5 e C)) (c:zu X.K C bm) (hb:Vz bm) (n:jF X.K C f) (ry:qK y u)
   (h:∀dx s',H dx=none->qx X pins σ (upd (upd H e (J5 e C dx)) dx (.xd [(f,y)])) s'->Q () s'):wpAny (model X.prog X.w) A (setAttr (.ref e) f u) Q E s:=by
 obtain⟨⟨fl,he,hz⟩,_,_⟩:=(show qH X.prog X.w H s.heap e (Z5 e C) from I.hok e _ hH)
 refine k9 I.kIn he rfl rfl ⟨fl,rfl⟩ c hb n λh' tk e1 e2 e3=>?_
 refine h s.heap.objs.size _ (I.hok.fresh (Nat.le_refl _)) (I.excSet hH (Nat.le_refl _) ⟨fl,e1,hz⟩ ⟨_,e2,λg=>?_⟩ e3)
 by_cases hg:g=f
 . subst hg
   rw[List.lookup_cons]
   simp only[beq_self_eq_true,if_true]
   exact ry
 . have hb':(g==f)=false:=beq_eq_false_iff_ne.mpr hg
   rw[List.lookup_cons]
   simp only[hb',hg,if_false]
   exact trivial
theorem kt {b:Bool} {Q:Value->Shared->Prop} {fs:List (Str×V)} {hd:Value} (I:qx X pins σ H s) (hH:H e=some (QY e C dx hd)) (hx:H dx=some (.xd fs)) (c:zu X.K C bm) (n:jF X.K C f) (l:fs.lookup f=some v)
   (h:∀u s',qx X pins σ H s'->qK v u->Q u s'):wpAny (model X.prog X.w) A (getAttr (.ref e) f b) Q E s:=by
 obtain⟨⟨fl,he,_⟩,_,_⟩:=(show qH X.prog X.w H s.heap e (QY e C dx hd) from I.hok e _ hH)
 obtain⟨mA,hn,hr⟩:=(show qH X.prog X.w H s.heap dx (.xd fs) from I.hok dx _ hx)
 obtain⟨od,ho,hl⟩:=ZY hn
 have r:=hr f
 rw[l]at r
 obtain⟨u,eu,ru⟩:=Jt.some_of r
 exact uT I.kIn ⟨he,rfl,rfl,ho⟩ c n (by rw[hl,eu]) (Xf ru) (h u _ (I.tok _) ru)
theorem xx {cV:Value} {b:Bool} {Q:Value->Shared->Prop} {fs:List (Str×V)} {hd:Value} (I:qx X pins σ H s) (hH:H e=some (QY e C dx hd)) (hx:H dx=some (.xd fs)) (c:zu X.K C bm)
   (hn:PySem.W.specialIn X.K (.builtin "object.__class__") "__get__"=some (some (.builtin "getset_descriptor.__get__"))) (htk:PySem.W.takesIn X.K (.builtin "object.__class__")=some true)
   (ek:PySem.W.kitOne X.K (.ref C) cV=some b) (h:∀tk,Q (.bool b) {s with toks:=tk}):wpAny (model X.prog X.w) A (call (.builtin "isinstance") [.ref e,cV]) Q E s:=by
 obtain⟨⟨fl,he,_⟩,_,_⟩:=(show qH X.prog X.w H s.heap e (QY e C dx hd) from I.hok e _ hH)
 obtain⟨mA,hns,hr⟩:=(show qH X.prog X.w H s.heap dx (.xd fs) from I.hok dx _ hx)
 obtain⟨od,ho,hl⟩:=ZY hns
 exact PySem.W.kia_one (xl (ox:={cls:=.ref C,dict:=some dx,data:=.fields fl}) (odd:=od) c hn htk) I.kIn ⟨he,rfl,rfl,ho⟩ ek (λz=>nomatch z) h
end
end L2
namespace L2
open PySem PySem.Spec PyProof.Rows
def Mh (K:PySem.W.Frag) (bm:List Value) (ta tv:TE) (f:Str):TS:=λD σ H=>tv σ H λy H1=>ta σ H1 λx H2=>∃a C,x=.ref a/\H2 a=some (Z5 a C)/\zu K C bm/\Vz bm/\jF K C f/\
 ∀dx,H2 dx=none->D.nx σ (upd (upd H2 a (J5 a C dx)) dx (.xd [(f,y)]))
section
variable {X:Cx} {CX:Vd} {k:Nat} {C fI:Addr} {fd:FuncData} {ps:List Str} {sp:Sp} {E:XK} {x f:Str} {o e value:Expr} {es:List Expr} {p pos pos':Pos} {ta tv:TE} {t:TA} {bm:List Value}
theorem Gz (ha:JE X o ta) (hv:JE X value tv) (hs:swapsWith value (some (.Attribute o f pos')) pos.line X.env=pure false):JS X (.Assign [.Attribute o f pos'] value pos) (Mh X.K bm ta tv f):=.of (by
 have ha:=ha.to
 have hv:=hv.to
 intro pins s σ H D I h
 refine plainObj_wpAny_Assign_Attribute (jf (hv pins s σ H _ I h) λu s1 ⟨y,H1,I1,ry,q⟩=>
   jf (ha pins s1 σ H1 _ I1 q) λov s2 ⟨x,H2,I2,rx,a,C,ex,ea,c,hb,n,q2⟩=>?_) hs
 subst ex
 obtain rfl:ov=Value.ref a:=rx
 exact vm I2 ea c hb n ry λdx s3 hdx I3=>⟨σ,_,I3,q2 dx hdx⟩)
theorem vt {pins:List (Addr×Obj)} {σ:St} {H:Hp} {s:Shared} {Q:VK} {us:List Value} {vs:List V} (M:NJ X.K C fI bm) (F:qp X.prog X.w X.K X.mg X.base CX k fI fd ps sp) (hr:q5 (k+1) X.A) (hb:jK X.K fd ps [])
   (hx:Qj CX X E) (I:qx X pins σ H s) (r:qF vs us) (hz:us.length<=sizeLine)
   (h:∀x,H x=none->sp (.ref x::vs) (upd H x (Z5 x C)) (λv H2=>v=.non/\Q (.ref x) H2) E):
   wpAny (model X.prog X.w) X.A (call (.ref C) us) (EP X pins σ Q) X.xe s:=by
 obtain⟨nm,q,N,bs,hdct,sn,sub,ab,col,dd,k0,k1,k2,k3,k5,hC⟩:=M.obj
 have hfn:PySem.W.typeIn X.K (.ref fI)=some (.type "function"):=beq_iff_eq.mp M.fn
 obtain⟨oI,ho,hoc⟩:=Option.map_eq_some_iff.mp hfn
 have KX:=I.kIn
 obtain⟨hp,g,d,tk,os⟩:=s
 refine kF PySem.F.excBase_ValueError (by decide+kernel) PySem.F.excBase_ValueError (M.tail _ KX) (KX _ _ hC) (PySem.W.looks_findIn KX M.init) (KX _ _ ho) hoc (λh' ex hle hm=>?_) hz
 obtain⟨t0,ht,_,_⟩:=hm.there
 have I2:qx X pins σ (upd H ex (Z5 ex C)) ⟨h',g,d,tk,os⟩:=I.laid (t':=tk) hm.keeps hle (uW ⟨_,ht,rfl⟩)
 have hq:=h ex (I.hok.fresh hle)
 have r2:qF (V.ref ex::vs) (Value.ref ex::us):=.cons rfl r
 have hl:(Value.ref ex::us++[]).length=ps.length:=by
   have e:=r2.length
   rw[F.len _ _ _ _ hq]at e
   rw[List.append_nil]
   exact e.symm
 have bb:=hb ⟨h',g,d,tk,os⟩ (Value.ref ex::us) I2.kIn hl
 rw[List.append_nil]at bb
 refine wpAny_call (codeAny_mono (F.run _ X.stack _ _ ⟨Value.ref ex::us,[]⟩ (Value.ref ex::us) _ _ E (hr.make C us []) (I2.env0.make C us []) bb r2 hq) λr s' hq'=>?_)
 cases r with
 | error z=>exact hx pins σ _ _ z s' I2 hq'
 | ok fl=>
   cases fl with
   | ret u=>
     obtain⟨v,H',I3,rv,ev,q3⟩:=I2.after hq'
     subst ev
     exact⟨rv,⟨V.ref ex,H',I3,rfl,q3⟩⟩
   | next=>exact False.elim hq'
   | brk=>exact False.elim hq'
   | cont=>exact False.elim hq'
theorem xt (M:NJ X.K C fI bm) (F:qp X.prog X.w X.K X.mg X.base CX k fI fd ps sp) (hr:q5 (k+1) X.A) (hg:Gl X x) (hm:X.mg x=some (.ref C)) (hb:jK X.K fd ps []) (hx:Qj CX X E) (ha:JA X (e::es) t) (hz:(e::es).length<=1000:=by decide) (hv:∀vs us,qF vs us->vs.length<=sizeLine->us.length<=sizeLine:=by intro vs us r h;rw[<-r.length];exact h) (hdb:(x==("__debug__":Str))=false:=by decide) (he:starEach (e::es) X.env=(false,eval e X.env)::starEach es X.env:=by rfl) (hpl:(backTo pos (starEach es X.env)).any (·.1)=false:=by rfl):JE X (.Call (.Name x p) (e::es) [] pos) (λσ H Q=>t σ H λvs H1=>vs.length<=sizeLine/\∀x,H1 x=none->sp (.ref x::vs) (upd H1 x (Z5 x C)) (λv H2=>v=.non/\Q (.ref x) H2) E):=.of (by
 have ha:=ha.to
 intro pins s σ H Q I h
 refine wpAny_Call_Name_kw (ZH I hg hm ?_ hdb)
 refine PySem.W.callWith_K (h₀:=X.base) I.ok.mod.kin M.kp (jf (ha pos pins s σ H _ I h) λus s1 ⟨vs,H1,I1,r,q⟩=>⟨I1.kIn,?_⟩) he hpl
 exact vt M F hr hb hx I1 r (hv vs us r q.1) q.2)
end
end L2
set_option Elab.async false
set_option linter.all false
set_option maxRecDepth 100000
set_option maxHeartbeats 4000000
namespace L2
open PySem PySem.Spec PyProof.Rows
def neL (xs ys:List V):Bool:=if xs.length=ys.length then !((List.range xs.length).all λj=>uX (xs.getD j .non) (ys.getD j .non)) else true
mutual
inductive DV (K:PySem.W.Frag) (H:Hp):V->PyData->Prop
 | non:DV K H .non .none
 | bl (b:Bool):DV K H (.bl b) (.bool b)
 | int (i:Int):DV K H (.int i) (.int i)
 | str (x:Str):DV K H (.str x) (.str x)
 | lst {a:Addr} {xs:List V} {ds:List PyData}:SqL K H a xs->DVs K H xs ds->DV K H (.ref a) (.list ds)
 | tup {a:Addr} {xs:List V} {ds:List PyData}:SqT K H a xs->DVs K H xs ds->DV K H (.ref a) (.tuple ds)
inductive DVs (K:PySem.W.Frag) (H:Hp):List V->List PyData->Prop
 | nil:DVs K H [] []
 | cons {x:V} {xs:List V} {d:PyData} {ds:List PyData}:DV K H x d->DVs K H xs ds->DVs K H (x::xs) (d::ds)
end
section
variable {X:Cx} {pins:List (Addr×Obj)} {σ:St} {H:Hp} {s:Shared}
mutual
theorem DV.reads (I:qx X pins σ H s):∀{x:V} {d:PyData},DV X.K H x d->∀{u:Value},qK x u->∃as,Reads s.heap u d as
 | _,_,.non,u,r=>by cases (show u=Value.none from r);exact⟨_,.none⟩
 | _,_,.bl b,u,r=>by cases (show u=Value.bool b from r);exact⟨_,.bool b⟩
 | _,_,.int i,u,r=>by obtain⟨t,q⟩:=(show ∃t,u=Value.int i t from r);subst q;exact⟨_,.int i t⟩
 | _,_,.str x,u,r=>by obtain⟨t,q⟩:=(show ∃t,u=Value.str x t from r);subst q;exact⟨_,.str x t⟩
 | _,_,.lst (a:=a) hq hs,u,r=>by
   cases (show u=Value.ref a from r)
   obtain⟨its,rv,⟨o,n,e,hc,hd,hda⟩,hz⟩:=I.list hq
   obtain⟨as,ra⟩:=DVs.reads I hs rv
   exact⟨_,.list e hc hda (by simpa using ra)⟩
 | _,_,.tup (a:=a) hq hs,u,r=>by
   cases (show u=Value.ref a from r)
   obtain⟨its,rv,⟨o,e,hc,n,hda⟩,hz⟩:=I.tuple hq
   obtain⟨as,ra⟩:=DVs.reads I hs rv
   exact⟨_,.tuple e hc hda (by simpa using ra)⟩
theorem DVs.reads (I:qx X pins σ H s):∀{xs:List V} {ds:List PyData},DVs X.K H xs ds->∀{us:List Value},qF xs us->∃as,ReadsAll s.heap us ds as
 | _,_,.nil,_,.nil=>⟨_,.nil⟩
 | _,_,.cons h hs,_,.cons r rs=>by
   obtain⟨as,a⟩:=DV.reads I h r
   obtain⟨bs,b⟩:=DVs.reads I hs rs
   exact⟨_,.cons a b⟩
end
end
end L2
namespace L2
open PySem PySem.Spec PyProof.Rows
end L2
set_option Elab.async false
set_option linter.all false
set_option maxRecDepth 100000
set_option maxHeartbeats 4000000
namespace L2
open PySem PySem.Spec PyProof.Rows
structure U8 (fs:List Addr) (ex:List Addr) (h h':Heap):Prop where
 keep:∀b o,b∉fs->b∉ex->h.get? b=some o->h'.get? b=some o
 slot:∀b o,b∈fs->b∉ex->h.get? b=some o->∃sl,h'.get? b=some {o with slots:=sl}
def KH (T:Addr) (fl:Value) (h:Heap):Prop:=∃ts,h.get? T=some {cls:=.type "traceback",data:=.fields ts}/\ts[3]?=some fl
section
variable {M:Model} {A:Around} {E:Value->Shared->Prop} {s:Shared} {base:Heap} {env:Env} {outer:List Env} {L e:Addr} {cl head:Value} {d:Option Addr} {vs:Array Value} {had:Bool} {Q:Unit->Shared->Prop}
theorem kK (fr:A.frames=some (env::outer)) (ff:s.heap.FunFrames base (env::outer)) (fm:env.frame=some L)
   (he:s.heap.get? e=some {cls:=cl,dict:=d,data:=.fields vs}) (sz:1 < vs.size)
   (k:∀h' T,s.heap.objs.size<=T->U8 (zq (env::outer)) [e] s.heap h'->h'.get? e=some {cls:=cl,dict:=d,data:=.fields (vs.setIfInBounds 1 (.ref T))}->KH T (rawInt L) h'->Q () {s with heap:=h'}):
   wpAny M A (frameOf env >>= λa=>entryPlaceOf L had >>= λpl=>EntryCells.newEntry head a .none (rawInt L) .none pl >>= λb=>setField (.ref e) 1 b) Q E s:=by
 have out:e∉zq (env::outer):=λz=>by
   obtain⟨_,o,ho,nf⟩:=ff.mem z
   rw[he]at ho
   cases ho
   exact nf vs rfl
 refine wpAny_bind (wpAny_frameOf_fun fr ff fm λh1 so=>?_)
 refine wpAny_bind (wpAny_entryPlaceOf λpl ip=>?_)
 have e1:h1.get? e=some {cls:=cl,dict:=d,data:=.fields vs}:=(so.2.1 e out).trans he
 unfold EntryCells.newEntry newFields
 refine wpAny_bind (wpAny_newObj_type ?_ (ip.sizeOk5 _ _ _ _ _))
 have ne:e≠h1.objs.size:=Nat.ne_of_lt (Heap.lt_size e1)
 refine wpAny_setField (Heap.get?_push_of_some _ e1) rfl sz (k _ h1.objs.size (Nat.le_of_eq so.1.symm) ⟨λb o n1 n2 q=>?_,λb o n1 n2 q=>?_⟩ ?_ ⟨_,(Heap.get?_update_other _ _ ne).trans (Heap.get?_push_size _ rfl),?_⟩)
 . have n3:b≠e:=λz=>n2 (by simp [z])
   rw[Heap.get?_update_other _ _ (Ne.symm n3)]
   exact Heap.get?_push_of_some _ ((so.2.1 b n1).trans q)
 . have n3:b≠e:=λz=>n2 (by simp [z])
   obtain⟨sl,r⟩:=so.2.2 b o q
   exact⟨sl,by rw[Heap.get?_update_other _ _ (Ne.symm n3)];exact Heap.get?_push_of_some _ r⟩
 . exact Heap.get?_update_self _ (Heap.get?_push_of_some _ e1) rfl
 . rcases ip with rfl | ⟨_,_,_,_,_,_,_,rfl⟩<;>simp
theorem y4 (fr:A.frames=some (env::outer)) (ff:s.heap.FunFrames base (env::outer)) (fm:env.frame=some L)
   (he:s.heap.get? e=some {cls:=cl,dict:=d,data:=.fields vs}) (h1:vs[1]?=some .none)
   (k:∀h' T,s.heap.objs.size<=T->U8 (zq (env::outer)) [e] s.heap h'->h'.get? e=some {cls:=cl,dict:=d,data:=.fields (vs.setIfInBounds 1 (.ref T))}->KH T (rawInt L) h'->Q () {s with heap:=h'}):
   wpAny M A (noteFrame (.ref e) env) Q E s:=by
 unfold noteFrame
 simp only[fm]
 refine wpAny_bind (wpAny_field he rfl h1 ?_)
 rw[if_neg (show ¬((Value.none != Value.none)=true) by decide)]
 exact kK fr ff fm he (Array.getElem?_eq_some_iff.mp h1).1 k
theorem UH {T:Addr} (fr:A.frames=some (env::outer)) (ff:s.heap.FunFrames base (env::outer)) (fm:env.frame=some L)
   (he:s.heap.get? e=some {cls:=cl,dict:=d,data:=.fields vs}) (h1:vs[1]?=some (.ref T)) (st:KH T .none s.heap) (ne:T≠e)
   (k:∀h' T',s.heap.objs.size<=T'->U8 (zq (env::outer)) [e,T] s.heap h'->(∃o,h'.get? T=some o)->h'.get? e=some {cls:=cl,dict:=d,data:=.fields (vs.setIfInBounds 1 (.ref T'))}->KH T' (rawInt L) h'->Q () {s with heap:=h'}):
   wpAny M A (noteFrame (.ref e) env) Q E s:=by
 obtain⟨ts,ht,h3⟩:=st
 unfold noteFrame
 simp only[fm]
 refine wpAny_bind (wpAny_field he rfl h1 ?_)
 rw[if_pos (show (Value.ref T != Value.none)=true by simp)]
 refine wpAny_bind (wpAny_field ht rfl h3 ?_)
 rw[if_neg (show ¬((Value.none==rawInt L)=true) by simp [rawInt])]
 refine wpAny_bind (wpAny_setField ht rfl (Array.getElem?_eq_some_iff.mp h3).1 ?_)
 have oth:∀b,b≠T->(s.heap.update T (Obj.mapFields (·.setIfInBounds 3 Value.none))).get? b=s.heap.get? b:=λb n=>Heap.get?_update_other _ _ (Ne.symm n)
 have tno:T∉zq (env::outer):=λz=>by
   obtain⟨_,o,ho,nf⟩:=ff.mem z
   rw[ht]at ho
   cases ho
   exact nf ts rfl
 refine kK fr (ff.of_keeps λb o hb nf=>⟨o,(oth b λz=>?_).trans hb,rfl⟩) fm ((oth e (Ne.symm ne)).trans he) (Array.getElem?_eq_some_iff.mp h1).1 λh' T' hT F q1 q2=>?_
 . rw[z,ht]at hb
   cases hb
   exact nf ts rfl
 . have upT:=Heap.get?_update_self (Obj.mapFields (·.setIfInBounds 3 Value.none)) ht rfl
   refine k h' T' (Nat.le_trans (Nat.le_of_eq (by simp)) hT) ⟨λb o n1 n2 q=>?_,λb o n1 n2 q=>?_⟩ ⟨_,F.keep T _ tno (by simp [ne]) upT⟩ q1 q2
   . simp only[List.mem_cons,List.not_mem_nil,or_false,not_or]at n2
     exact F.keep b o n1 (by simp [n2.1]) ((oth b n2.2).trans q)
   . simp only[List.mem_cons,List.not_mem_nil,or_false,not_or]at n2
     exact F.slot b o n1 (by simp [n2.1]) ((oth b n2.2).trans q)
theorem Jo {T:Addr} {fl:Value} {fs:List Addr} (he:s.heap.get? e=some {cls:=cl,dict:=d,data:=.fields vs}) (h1:vs[1]?=some (.ref T)) (st:KH T fl s.heap)
   (k:∀h',U8 fs [T] s.heap h'->KH T .none h'->Q () {s with heap:=h'}):wpAny M A (setFlight (.ref e) none) Q E s:=by
 obtain⟨ts,ht,h3⟩:=st
 have lt:=(Array.getElem?_eq_some_iff.mp h3).1
 refine wpAny_setFlight_none he rfl h1 ht rfl lt (k _ ⟨λb o _ n q=>?_,λb o _ n q=>⟨o.slots,?_⟩⟩ ⟨_,Heap.get?_update_self _ ht rfl,by simp [lt]⟩)
 all_goals
   rw[Heap.get?_update_other _ _ λz=>n (by simp [z])]
   exact q
end
structure YJ (ex:List Addr) (n:Nat) (H H':Hp):Prop where
 ext:∀b∈ex,∃φ,H b=some (.ext φ)
 same:∀b o,b∉ex->H b=some o->H' b=some o
 no:∀b,b < n->H b=none->H' b=none
section
variable {P:Program} {w:World} {fs ex:List Addr} {H H':Hp} {h h':Heap}
theorem YJ.out {n:Nat} (t:YJ ex n H H') {b:Addr} {o:HO} (q:H b=some o) (hn:∀φ,o≠.ext φ):b∉ex:=λz=>by
 obtain⟨φ,e⟩:=t.ext b z
 rw[q]at e
 cases e
 exact hn φ rfl
theorem YJ.out0 {n:Nat} (t:YJ ex n H H') {b:Addr} (q:H b=none):b∉ex:=λz=>by
 obtain⟨φ,e⟩:=t.ext b z
 rw[q]at e
 cases e
theorem Un.fly (F:U8 fs ex h h') (t:YJ ex h.objs.size H H') (th:∀b∈ex,∃o,h'.get? b=some o):Un fs [] H H' h h' where
 keep b o q n hf _:=F.keep b o hf (t.out0 n) q
 slot b o q n hf _:=F.slot b o hf (t.out0 n) q
 free b o q n _:=t.no b (Heap.lt_size q) n
 there b o q _:=by
   by_cases hb:b∈ex
   . exact th b hb
   . by_cases hf:b∈fs
     . obtain⟨sl,r⟩:=F.slot b o hf hb q
       exact⟨_,r⟩
     . exact⟨o,F.keep b o hf hb q⟩
 tups b xs q:=t.same b _ (t.out q (by intro φ z;cases z)) q
 frzs b o u q:=t.same b _ (t.out q (by intro φ z;cases z)) q
 tbls b ps q:=⟨#[],by simpa using t.same b _ (t.out q (by intro φ z;cases z)) q⟩
theorem Jd.fly (ok:Jd P w H h) (F:U8 fs ex h h') (t:YJ ex h.objs.size H H') (fr:∀b∈fs,H b=none) (new:∀b o,H' b=some o->(H b=none\/b∈ex)->qH P w H' h' b o):Jd P w H' h':=λb o q=>by
 by_cases hb:b∈ex
 . exact new b o q (.inr hb)
 cases e:H b with
 | none=>exact new b o q (.inl e)
 | some u=>
   have r:=t.same b u hb e
   rw[q]at r
   cases r
   refine(ok b o e).stay (λc v hc g=>F.keep c v ?_ ?_ g) (λc z=>t.same c _ (t.out z (by intro φ z;cases z)) z) λc xs z=>t.same c _ (t.out z (by intro φ z;cases z)) z
   . intro z
     have n:=fr c z
     rcases hc with rfl | hc
     . rw[e]at n;cases n
     . rw[hc]at n;cases n
   . rcases hc with rfl | hc
     . exact hb
     . exact t.out hc (by intro φ z;cases z)
end
end L2
namespace L2
open PySem PySem.Spec PyProof.Rows
def x5 (T:Addr) (fl:Value):HO:=.ext (KH T fl)
theorem Xw {P:Program} {w:World} {H:Hp} {h:Heap} {T:Addr} {fl:Value} (x:KH T fl h):qH P w H h T (x5 T fl):=by
 obtain⟨ts,q,z⟩:=x
 exact⟨⟨ts,q,z⟩,⟨_,q⟩,λh1 h2 ⟨ts',q',z'⟩ k=>⟨ts',k _ q',z'⟩⟩
def YT (P:Program) (w:World):Vd:=λouter H s E e s'=>∃a C dx T Hx H',e=.ref a/\s'.os=s.os/\AllBare s'.gens/\Un (zq outer) [] H H' s.heap s'.heap/\Jd P w H' s'.heap/\
 H' a=some (QY a C dx (.ref T))/\H' T=some (x5 T .none)/\Hx T=none/\Hx a=some (J5 a C dx)/\(∀b o,b≠a->Hx b=some o->H' b=some o)/\E (.ref C) (some dx) Hx
def x2 (X:Cx) (E:XK):Prop:=∀(pins:List (Addr×Obj)) (σ:St) (H:Hp) (s:Shared) (a C dx:Addr),qx X pins σ H s->H a=some (J5 a C dx)->E (.ref C) (some dx) H->X.xe (.ref a) s
section
variable {X:Cx} {pins:List (Addr×Obj)} {σ:St} {H H':Hp} {s:Shared} {h':Heap} {ex:List Addr}
theorem qx.flown (I:qx X pins σ H s) (F:U8 (zq X.stack) ex s.heap h') (t:YJ ex s.heap.objs.size H H') (th:∀b∈ex,∃o,h'.get? b=some o)
   (new:∀b o,H' b=some o->(H b=none\/b∈ex)->qH X.prog X.w H' h' b o):qx X pins σ H' {s with heap:=h'}:=
 I.call (g':=s.gens) (t':=s.toks) (d':=s.drawn) (ch:=[]) (Un.fly F t th) (Jd.fly I.hok F t I.stkFree new) I.bare λb z=>absurd z (by simp)
theorem U8.then {fs ex:List Addr} {h h1 h2:Heap} {T:Addr} (F:U8 fs ex h h1) (G:U8 fs [T] h1 h2) (hT:h.objs.size<=T):U8 fs ex h h2 where
 keep b o n1 n2 q:=G.keep b o n1 (by simp;exact Nat.ne_of_lt (Nat.lt_of_lt_of_le (Heap.lt_size q) hT)) (F.keep b o n1 n2 q)
 slot b o n1 n2 q:=by
   obtain⟨sl,r⟩:=F.slot b o n1 n2 q
   obtain⟨sl',r'⟩:=G.slot b _ n1 (by simp;exact Nat.ne_of_lt (Nat.lt_of_lt_of_le (Heap.lt_size q) hT)) r
   exact⟨sl',r'⟩
end
section
variable {P:Program} {w:World} {K:PySem.W.Frag} {mg:Str->Option Value} {base:Heap} {N:List Str} {qual:Str} {scope:Scope} {f:Addr} {cd:Value} {A:Around} {outer:List Env} {s₀:Shared} {H₀:Hp} {E:XK}
theorem vz:x2 (Zn (YT P w) P w K mg base N qual scope f cd A outer s₀ H₀ E) E:=by
 intro pins σ H s a C dx I ha hE
 obtain⟨⟨fl,he,hz⟩,_,_⟩:=(show qH P w H s.heap a (QY a C dx .none) from I.hok a _ ha)
 have fr:=I.ok.frames
 have ff:=I.stack
 show wpAny _ _ (leaving _ _) _ _ s
 unfold leaving
 refine wpAny_bind (y4 fr ff rfl he hz λh1 T hT F q1 q2=>?_)
 have lt:=(Array.getElem?_eq_some_iff.mp hz).1
 have g1:(fl.setIfInBounds 1 (Value.ref T))[1]?=some (.ref T):=by simp [lt]
 have nT:T≠a:=λz=>by
   obtain⟨ts,q,_⟩:=q2
   rw[z,q1]at q
   cases q
 refine Jo (fs:=zq (Zn (YT P w) P w K mg base N qual scope f cd A outer s₀ H₀ E).stack) q1 g1 q2 λh2 F2 st=>?_
 have anf:a∉zq (Zn (YT P w) P w K mg base N qual scope f cd A outer s₀ H₀ E).stack:=λz=>by
   have:=I.stkFree a z
   rw[ha]at this
   cases this
 have hTn:H T=none:=I.hok.fresh hT
 have q3:=F2.keep a _ anf (by simp [Ne.symm nT]) q1
 have I2:=I.flown (H':=upd (upd H a (QY a C dx (.ref T))) T (x5 T .none)) (U8.then F F2 hT) ⟨λb hb=>by cases List.mem_singleton.mp hb;exact⟨_,ha⟩,λb o hb q=>by
     rw[qg (ql q hTn),qg λz=>hb (by simp [z])];exact q,λb hb q=>by
     rw[qg (Nat.ne_of_lt (Nat.lt_of_lt_of_le hb hT)),qg λz=>by rw[z,ha]at q;cases q];exact q⟩ (λb hb=>by cases List.mem_singleton.mp hb;exact⟨_,q3⟩) λb o q hb=>by
   by_cases e1:b=T
   . subst e1
     rw[qd]at q
     cases q
     exact Xw st
   . rw[qg e1]at q
     by_cases e2:b=a
     . subst e2
       rw[qd]at q
       cases q
       exact zM ⟨_,q3,g1⟩
     . rw[qg e2]at q
       rcases hb with hb | hb
       . rw[q]at hb;cases hb
       . exact absurd (List.mem_singleton.mp hb) e2
 exact⟨a,C,dx,T,H,_,rfl,I2.os,I2.bare,I2.base,I2.hok,by rw[qg (Ne.symm nT),qd],qd ..,hTn,ha,λb o nb q=>by rw[qg (ql q hTn),qg nb];exact q,hE⟩
theorem Y6:Qj (YT P w) (Zn (YT P w) P w K mg base N qual scope f cd A outer s₀ H₀ E) E:=by
 intro pins σ H s e s' I0 hc
 obtain⟨a,C,dx,T,Hx,H1,rfl,os,bare,un,hok,ha,ht,hxT,hxa,hx,hE⟩:=hc
 have I:qx (Zn (YT P w) P w K mg base N qual scope f cd A outer s₀ H₀ E) pins σ H1 s':=I0.call' os un hok bare λb z=>absurd z (by simp)
 obtain⟨⟨fl,he,hz⟩,_,_⟩:=(show qH P w H1 s'.heap a (QY a C dx (.ref T)) from I.hok a _ ha)
 obtain⟨st0,_,_⟩:=(show qH P w H1 s'.heap T (x5 T .none) from I.hok T _ ht)
 have fr:=I.ok.frames
 have ff:=I.stack
 have nT0:T≠a:=λz=>by
   obtain⟨ts,q,_⟩:=st0
   rw[z,he]at q
   cases q
 show wpAny _ _ (leaving _ _) _ _ s'
 unfold leaving
 refine wpAny_bind (UH fr ff rfl he hz st0 nT0 λh1 T' hT F tT q1 q2=>?_)
 have lt:=(Array.getElem?_eq_some_iff.mp hz).1
 have g1:(fl.setIfInBounds 1 (Value.ref T'))[1]?=some (.ref T'):=by simp [lt]
 have nT:T'≠a:=λz=>by
   obtain⟨ts,q,_⟩:=q2
   rw[z,q1]at q
   cases q
 refine Jo (fs:=zq (Zn (YT P w) P w K mg base N qual scope f cd A outer s₀ H₀ E).stack) q1 g1 q2 λh2 F2 st=>?_
 have anf:∀b o,H1 b=some o->b∉zq (Zn (YT P w) P w K mg base N qual scope f cd A outer s₀ H₀ E).stack:=λb o q z=>by
   have:=I.stkFree b z
   rw[q]at this
   cases this
 have hTn:H1 T'=none:=I.hok.fresh hT
 have nTT:T'≠T:=(ql ht hTn).symm
 have q3:=F2.keep a _ (anf a _ ha) (by simp [Ne.symm nT]) q1
 obtain⟨oT,hoT⟩:=tT
 have q4:=F2.keep T _ (anf T _ ht) (by simp [Ne.symm nTT]) hoT
 have I2:=I.flown (H':=upd (upd (upd H1 a (QY a C dx (.ref T'))) T (.ext λh=>∃o,h.get? T=some o)) T' (x5 T' .none)) (U8.then F F2 hT) ⟨λb hb=>by
     simp only[List.mem_cons,List.not_mem_nil,or_false]at hb
     rcases hb with rfl | rfl
     . exact⟨_,ha⟩
     . exact⟨_,ht⟩,λb o hb q=>by
     simp only[List.mem_cons,List.not_mem_nil,or_false,not_or]at hb
     rw[qg (ql q hTn),qg hb.2,qg hb.1];exact q,λb hb q=>by
     rw[qg (Nat.ne_of_lt (Nat.lt_of_lt_of_le hb hT)),qg (λz=>by rw[z,ht]at q;cases q),qg (λz=>by rw[z,ha]at q;cases q)];exact q⟩ (λb hb=>by
     simp only[List.mem_cons,List.not_mem_nil,or_false]at hb
     rcases hb with rfl | rfl
     . exact⟨_,q3⟩
     . exact⟨_,q4⟩) λb o q hb=>by
   by_cases e1:b=T'
   . subst e1
     rw[qd]at q
     cases q
     exact Xw st
   . rw[qg e1]at q
     by_cases e2:b=T
     . subst e2
       rw[qd]at q
       cases q
       exact⟨⟨_,q4⟩,⟨_,q4⟩,λh1 h2 ⟨u,z⟩ k=>⟨u,k u z⟩⟩
     . rw[qg e2]at q
       by_cases e3:b=a
       . subst e3
         rw[qd]at q
         cases q
         exact zM ⟨_,q3,g1⟩
       . rw[qg e3]at q
         rcases hb with hb | hb
         . rw[q]at hb;cases hb
         . simp only[List.mem_cons,List.not_mem_nil,or_false]at hb
           exact(hb.elim e3 e2).elim
 refine⟨a,C,dx,T',Hx,_,rfl,I2.os,I2.bare,I2.base,I2.hok,by rw[qg (Ne.symm nT),qg (Ne.symm nT0),qd],qd ..,?_,hxa,λb o nb q=>?_,hE⟩
 . cases e:Hx T' with
   | none=>rfl
   | some o=>
     have:=hx T' o nT e
     rw[hTn]at this
     cases this
 . have n1:b≠T:=λz=>by rw[z,hxT]at q;cases q
   have q':=hx b o nb q
   rw[qg (ql q' hTn),qg n1,qg nb]
   exact q'
end
end L2
set_option Elab.async false
set_option linter.all false
set_option maxRecDepth 100000
set_option maxHeartbeats 4000000
namespace L2
open PySem PySem.Spec PyProof.Rows
section
variable {M:Model} {A:Around} {E:Value->Shared->Prop} {s:Shared} {env:Env} {C:Addr}
theorem vA {oC:Obj} {x:Sem Value} {Q:Flow->Shared->Prop} (hh:A.handled=none) (hcl:oC.cls=.type "type")
   (hs:∀(h:Heap) (g d t os) (Q:Bool->Shared->Prop),h.get? C=some oC->Q true ⟨h,g,d,t,os⟩->wpAny M A (isSubtype (.ref C) (.type "BaseException")) Q E ⟨h,g,d,t,os⟩)
   (h:wpAny M A x (λv s₁=>∃e dx fl,v=.ref e/\s₁.heap.get? C=some oC/\s₁.heap.get? e=some {cls:=.ref C,dict:=some dx,data:=.fields fl}/\fl[1]?=some Value.none/\E (.ref e) s₁) E s):
   wpAny M A (raiseStmt env (some x) none) Q E s:=by
 unfold raiseStmt
 refine wpAny_bind (jf h λv s₁ h₁=>?_)
 obtain⟨e,dx,fl,rfl,hC,he,hz,hE⟩:=h₁
 obtain⟨hp,g,d,tk,os⟩:=s₁
 repeat (first | with_reducible refine wpAny_loadPart_at he ?_ | with_reducible refine wpAny_loadPart_at hC ?_ | with_reducible refine hs _ _ _ _ _ _ hC ?_ | wp_step)
 rw[hz]
 refine wpAny_pure ?_
 rw[if_neg (show ¬((Value.none != Value.none)=true) by decide)]
 exact wpAny_pure (wpAny_raiseNew_none hh hE)
end
def Rk (K:PySem.W.Frag) (C:Addr):Prop:=∃f bm,NJ K C f bm/\bm.contains (.type "BaseException")=true
def K1 (K:PySem.W.Frag) (E:XK) (te:TE):TS:=λD σ H=>te σ H λv H1=>∃a C dx,v=.ref a/\H1 a=some (J5 a C dx)/\Rk K C/\E (.ref C) (some dx) H1
section
variable {X:Cx} {E:XK} {e:Expr} {te:TE} {pos:Pos}
theorem xn (hc:X.calm=true) (hx:x2 X E) (he:JE X e te):JS X (.Raise (some e) none pos) (K1 X.K E te):=.of (by
 have he:=he.to
 intro pins s σ H D I h
 have key:∀x:Sem Value,wpAny (model X.prog X.w) X.A x (λu s1=>∃v H1,qx X pins σ H1 s1/\qK v u/\∃a C dx,v=.ref a/\H1 a=some (J5 a C dx)/\Rk X.K C/\E (.ref C) (some dx) H1) X.xe s->
     wpAny (model X.prog X.w) X.A (raiseStmt X.env (some x) none) (SP X pins D) X.xe s:=λx hw=>by
   unfold raiseStmt
   refine wpAny_bind (jf hw λu s1 ⟨v,H1,I1,rv,a,C,dx,ev,ha,⟨f,bm,em,hb⟩,hE⟩=>?_)
   subst ev
   obtain rfl:u=Value.ref a:=rv
   obtain⟨nm,q,N,bs,hdct,sn,sub,ab,col,dd,k0,k1,k2,k3,k5,hC⟩:=em.obj
   obtain⟨⟨fl,ho,hz⟩,_,_⟩:=(show qH X.prog X.w H1 s1.heap a (QY a C dx .none) from I1.hok a _ ha)
   have hC':=I1.kIn _ _ hC
   have r:=vA (M:=model X.prog X.w) (A:=X.A) (E:=X.xe) (s:=s1) (env:=X.env) (C:=C) (x:=pure (.ref a)) (Q:=SP X pins D) (I1.ok.hd hc) rfl (λh g d t os Q z k=>wpAny_isSubtype_exc z (by
     rw[show (Value.ref C::bm).contains (.type "BaseException")=true by rw[List.contains_cons,hb,Bool.or_true]];exact k)) (wpAny_pure ⟨a,dx,fl,rfl,hC',ho,hz,hx pins σ H1 s1 a C dx I1 ha hE⟩)
   exact r
 rw[arm_exec_Raise]
 exact wpAny_bind (wpAny_standAt (key _ (wpAny_bind (jf (he pins s σ H _ I h) λu s1 q=>wpAny_bind (wpAny_standAt (wpAny_pure q)))))))
end
end L2
set_option Elab.async false
set_option linter.all false
set_option maxRecDepth 100000
set_option maxHeartbeats 4000000
namespace L2
open PySem PySem.Spec PyProof.Rows
section
variable {M:Model} {A:Around} {E:Value->Shared->Prop}
theorem kx {h:Heap} {g:Array GenState} {d:Drawn} {t:Nat} {os:OsState} {e C D:Addr} {oe oC:Obj} {ddc:Option Addr} {sld:Array (Option Value)} {cdd} {bC bD:List Value} {Q:Bool->Shared->Prop}
   (he:h.get? e=some oe) (hcls:oe.cls=.ref C) (hC:h.get? C=some oC) (hD:h.get? D=some ⟨.type "type",ddc,.cls cdd,sld⟩)
   (sC:∀(T:Value) (Q:Bool->Shared->Prop),Q (bC.contains T) ⟨h,g,d,t,os⟩->wpAny M A (isSubtype (.ref C) T) Q E ⟨h,g,d,t,os⟩)
   (sD:∀(T:Value) (Q:Bool->Shared->Prop),Q (bD.contains T) ⟨h,g,d,t,os⟩->wpAny M A (isSubtype (.ref D) T) Q E ⟨h,g,d,t,os⟩)
   (hB:bD.contains (.type "BaseException")=true)
   (hq:Q (bC.contains (.ref D)) ⟨h,g,d,t,os⟩):wpAny M A (excMatches (.ref e) (.ref D)) Q E ⟨h,g,d,t,os⟩:=by
 have f:=tc_notTuple
 unfold excMatches
 repeat (first | (with_reducible refine wpAny_loadPart_at he ?_;rw[hcls]) | with_reducible refine wpAny_loadPart_at hD ?_ | (with_reducible refine sC _ _ ?_) | (with_reducible refine sD _ _ ?_;rw[hB]) | wp_step)
 cases hb:bC.contains (.ref D)<;>(rw[hb]at hq;wp_walk;exact hq)
end
end L2
set_option Elab.async false
set_option linter.all false
set_option maxRecDepth 100000
set_option maxHeartbeats 4000000
namespace L2
open PySem PySem.Spec PyProof.Rows
def ZQ (CX:Vd) (X:Cx) (E:St->XK):Prop:=∀(pins:List (Addr×Obj)) (σ:St) (H:Hp) (s:Shared) (e:Value) (s':Shared),qx X pins σ H s->CX X.stack H s (E σ) e s'->X.xe e s'
def kP (sp:Sp) (dvs:List V) (E:St->XK) (t:TA):TE:=λσ H Q=>t σ H λvs H1=>sp (vs++dvs) H1 Q (E σ)
section
variable {X:Cx} {CX:Vd} {k:Nat} {f C:Addr} {fd:FuncData} {ps:List Str} {sp:Sp} {dvs:List V} {ds:List Value} {E:St->XK} {x m:Str} {p pos apos:Pos} {e o:Expr} {es:List Expr} {ta:TE} {t:TA}
theorem wR {pins:List (Addr×Obj)} {σ:St} {H:Hp} {s:Shared} {Q:VK} {us:List Value} {vs:List V} (F:qp X.prog X.w X.K X.mg X.base CX k f fd ps sp) (hr:q5 k X.A) (hb:jK X.K fd ps ds) (hd:qF dvs ds) (hx:ZQ CX X E)
   (I:qx X pins σ H s) (r:qF vs us) (h:sp (vs++dvs) H Q (E σ)):wpAny (model X.prog X.w) X.A (call (.ref f) us) (EP X pins σ Q) X.xe s:=by
 have rr:qF (vs++dvs) (us++ds):=r.append hd
 have ll:(us++ds).length=ps.length:=rr.length.symm.trans (F.len _ _ _ _ h)
 have run:=F.run X.A X.stack s H ⟨us,[]⟩ (us++ds) (vs++dvs) Q (E σ) hr I.env0 (hb s us I.kIn ll) rr h
 refine wpAny_call (codeAny_mono run λz s' q=>?_)
 match z,q with
 | .error y,q=>exact hx pins σ H s y s' I q
 | .ok (.ret u),q=>exact I.after q
theorem yE (F:qp X.prog X.w X.K X.mg X.base CX k f fd ps sp) (hr:q5 k X.A) (hg:Gl X x) (hm:X.mg x=some (.ref f)) (hk:PySem.W.keepIn X.K (.ref f)=true) (hb:jK X.K fd ps ds) (hd:qF dvs ds) (hx:ZQ CX X E)
   (ha:PA X (e::es) t) (hdb:(x==("__debug__":Str))=false:=by decide) (he:starEach (e::es) X.env=(false,eval e X.env)::starEach es X.env:=by rfl) (hpl:(backTo pos (starEach es X.env)).any (·.1)=false:=by rfl):
   PE X (.Call (.Name x p) (e::es) [] pos) (kP sp dvs E t):=by
 intro pins s σ H Q I h
 refine wpAny_Call_Name_kw (ZH I hg hm (PySem.W.callWith_K (h₀:=X.base) I.ok.mod.kin hk (jf (ha pos pins s σ H _ I h) λus s1 ⟨vs,H1,I1,r,q⟩=>⟨I1.kIn,wR F hr hb hd hx I1 r q⟩) he hpl) hdb)
end
end L2
set_option Elab.async false
set_option linter.all false
set_option maxRecDepth 100000
set_option maxHeartbeats 4000000
namespace L2
open PySem PySem.Spec PyProof.Rows
section
variable {X:Cx}
def K6 (K:PySem.W.Frag) (k:Bool):R2:=λx y H Q=>∃d,DV K H x d/\DV K H y d/\PySem.SeqAt.shaped d=true/\Q (.bl k) H
theorem YC {d:PyData} (h:PySem.SeqAt.shaped d=true):PyData.eqv d d=true:=PySem.SeqAt.eqv_refl d (PySem.SeqAt.canLay_of_shaped h)
theorem XT (hu:X.A.units+64 < cLine):Jv X (compareOp .NotEq) (K6 X.K false):=by
 intro pins s σ H x y v u Q I rx ry h
 obtain⟨d,h1,h2,hs,q⟩:=h
 obtain⟨as,ra⟩:=h1.reads I rx
 obtain⟨bs,rb⟩:=h2.reads I ry
 refine ne_dataH ra rb hs hs hu ?_
 rw[YC hs]
 exact⟨.bl false,H,I,rfl,q⟩
def NO (i j:Int):Prop:=0 < j/\j.natAbs < 2^200
theorem yM:Jv X (binaryOp .FloorDiv) (rI NO λi j=>.int (i / j)):=Gc λi j _ _ _ _ _ hc q=>by
 have h1:(0:Int) < j:=hc.1
 have h3:j.natAbs.log2 < 200:=(Nat.log2_lt (by omega)).mpr hc.2
 exact floordiv_int (by omega) (by rw[Int.fdiv_eq_ediv_of_nonneg i (by omega)];exact q) (.inl (PyProof.noPylong_of_log2 (Nat.lt_trans h3 (by decide))))
theorem vT:Ry X "int.bit_length" (λx xs H Q=>∃i,x=.int i/\xs=[]/\Q (.int (Builtin.Int.intBits i)) H):=by
 intro pins s σ H x xs v us Q I rx rv h
 obtain⟨i,rfl,rfl,q⟩:=h
 obtain⟨t,rfl⟩:=rx
 cases rv
 exact call_int_bit_length ⟨.int _,H,I.tok _,⟨_,rfl⟩,q⟩
end
section
variable {X:Cx} {tg:Expr}
end
section
variable {X:Cx} {st:Stmt} {rest:List Stmt} {t u:TS}
end
end L2
set_option Elab.async false
set_option linter.all false
set_option maxRecDepth 100000
set_option maxHeartbeats 4000000
namespace PySem
section
variable {prog:Program} {w:World} {A:Around} {E:Value->Shared->Prop} {s:Shared}
def Yf (x n c:Int):Obj:={cls:=.type "range_iterator",data:=.fields #[rawInt x,rawInt n,rawInt c]}
theorem Ux (n:Nat):Builtin.Range.rangeSize 0 n 1=n:=by
 unfold Builtin.Range.rangeSize
 rw[if_pos (by decide)]
 split<;>omega
theorem YE {r:Addr} {a b c:Int} {t u v:Tok} {Q:Value->Shared->Prop} (hr:IsRange s.heap r a b c t u v)
   (hs:(Builtin.Range.rangeFitsLong a&&Builtin.Range.rangeFitsLong b&&Builtin.Range.rangeFitsLong c&&Builtin.Range.rangeFitsLong (-c)&&Builtin.Range.rangeFitsLong (a - c)&&Builtin.Range.rangeFitsLong (Builtin.Range.rangeSize a b c))=true)
   (h:Q (.ref s.heap.objs.size) {s with heap:=s.heap.push (Yf (a+(Builtin.Range.rangeSize a b c - 1)*c) (Builtin.Range.rangeSize a b c) (-c))}):wpAny (model prog w) A (call (.builtin "range.__reversed__") [.ref r]) Q E s:=by
 have ty:s.TypeIs (.ref r) "range":=⟨_,hr,rfl⟩
 refine wpAny_call_entry F.slot_range_reversed ty F.entry_range_reversed ?_ (F.args_range_reversed_1 _)
 unfold Builtin.«range.__reversed__»
 refine wpAny_bind (wpAny_of_eq (a:=Value.ref r) rfl ?_)
 refine wpAny_bind ?_
 unfold Builtin.Range.rangeFields
 refine wpAny_bind (wpAny_field hr rfl (x:=.int a t) rfl ?_)
 refine wpAny_bind (m:=asInt? (.int a t)) (wpAny_pure ?_)
 refine wpAny_bind (wpAny_field hr rfl (x:=.int b u) rfl ?_)
 refine wpAny_bind (m:=asInt? (.int b u)) (wpAny_pure ?_)
 refine wpAny_bind (wpAny_field hr rfl (x:=.int c v) rfl ?_)
 refine wpAny_bind (m:=asInt? (.int c v)) (wpAny_pure ?_)
 refine wpAny_pure ?_
 dsimp only
 rw[hs]
 simp only[Bool.not_true,Bool.false_eq_true,if_false,if_true]
 first
 | refine wpAny_bind (wpAny_newObj_type (wpAny_pure ⟨_,rfl,h⟩))
 | refine wpAny_bind (wpAny_pure (wpAny_bind (wpAny_newObj_type (wpAny_pure ⟨_,rfl,h⟩))))
theorem J7 {r:Addr} {n:Nat} {t u v:Tok} {Q:Value->Shared->Prop} (hr:IsRange s.heap r 0 n 1 t u v) (hn:n < 1048576)
   (h:Q (.ref s.heap.objs.size) {s with heap:=s.heap.push (Yf ((n:Int) - 1) n (-1))}):wpAny (model prog w) A (call (.builtin "range.__reversed__") [.ref r]) Q E s:=by
 have f:∀x:Int,-2000000<=x->x<=2000000->Builtin.Range.rangeFitsLong x=true:=λx p q=>by
   unfold Builtin.Range.rangeFitsLong
   simp
   omega
 have e:=Ux n
 have hs:(Builtin.Range.rangeFitsLong 0&&Builtin.Range.rangeFitsLong (n:Int)&&Builtin.Range.rangeFitsLong 1&&Builtin.Range.rangeFitsLong (-1)&&Builtin.Range.rangeFitsLong (0 - 1)&&Builtin.Range.rangeFitsLong (Builtin.Range.rangeSize 0 n 1))=true:=by
   rw[e,f 0 (by omega) (by omega),f n (by omega) (by omega),f 1 (by omega) (by omega),f (-1) (by omega) (by omega),f (0 - 1) (by omega) (by omega)]
   rfl
 refine YE hr hs ?_
 have e2:(0:Int)+(Builtin.Range.rangeSize 0 n 1 - 1)*1=(n:Int) - 1:=by rw[e];omega
 rw[e2,e]
 exact h
end
end PySem
namespace PySem
section
variable {prog:Program} {w:World} {A:Around} {E:Value->Shared->Prop} {s:Shared}
theorem Zo {r:Addr} {n:Nat} {t u v:Tok} {Q₁:Value->Shared->Prop} (hr:IsRange s.heap r 0 n 1 t u v) (hn:n < 1048576)
   (h:Q₁ (.ref s.heap.objs.size) {s with heap:=s.heap.push (Yf ((n:Int) - 1) n (-1))}):
   codeAny (model prog w) A (.call (.builtin "reversed.__new__") ⟨[.type "reversed",.ref r],[]⟩) (wants Q₁ E) s:=by
 have ty:s.TypeIs (.ref r) "range":=⟨_,hr,rfl⟩
 have nn:¬((Value.builtin "range.__reversed__"==Value.none)=true):=Bool.false_ne_true
 refine codeAny_of_tree (show wpAny _ A.in1 (checkBuiltinCall "reversed.__new__" ⟨[.type "reversed",.ref r],[]⟩ >>= λ_=>again (.builtin "reversed.__new__" ⟨[.type "reversed",.ref r],[]⟩)) _ _ s from
   wpAny_bind (wpAny_of_eq (F.newCall_reversed_1 (.ref r)) (wpAny_pure ⟨plainId_quiet F.plain_reversed_new _,codeAny_builtin F.entry_reversed_new ?_⟩)))
 rw[Around.under_plainId F.plain_reversed_new _];unfold Builtin.«reversed.__new__»
 refine wpAny_bind (wpAny_of_eq (newClass_reversed (.ref r)) ?_);dsimp only
 refine wpAny_bind (wpAny_of_eq (a:=()) (by kernel_rfl) (wpAny_bind (wpAny_of_eq (a:=()) (by kernel_rfl) ?_)));try dsimp only
 refine wpAny_bind (wpAny_specialOf ty F.slot_range_reversed.lookup ?_);dsimp only
 refine wpAny_bind (wpAny_of_eq (F.slot_range_reversed.bind _) ?_);dsimp only
 rw[if_neg nn]
 refine wpAny_bind (wpAny_rule (wpAny_bind (m:=runValue (.call (.builtin "range.__reversed__") ⟨[.ref r],[]⟩)) (show wpAny _ _ (call (.builtin "range.__reversed__") [.ref r]) _ _ _ from J7 hr hn ?_)))
 first | exact wpAny_pure h | exact wpAny_bind (wpAny_pure (wpAny_pure h))
theorem zm:isSubtype (.type "range_iterator") (.type "reversed")=pure false:=by rw[isSubtype_type];kernel_rfl
theorem J6 {r:Addr} {n:Nat} {t u v:Tok} {Q:Value->Shared->Prop} (hr:IsRange s.heap r 0 n 1 t u v) (hn:n < 1048576)
   (h:Q (.ref s.heap.objs.size) {s with heap:=s.heap.push (Yf ((n:Int) - 1) n (-1))}):wpAny (model prog w) A (call (.type "reversed") [.ref r]) Q E s:=by
 refine callType_other (U:="range_iterator") (Q₁:=λobj s₁=>obj=.ref s.heap.objs.size/\s₁={s with heap:=s.heap.push (Yf ((n:Int) - 1) n (-1))}) (by decide+kernel) F.create_reversed ⟨_,_,F.mro_reversed⟩ F.made_reversed zm (F.typeCall_reversed_1 _) (Zo hr hn ⟨rfl,rfl⟩) ?_
 rintro obj s₁ ⟨rfl,rfl⟩
 exact⟨⟨_,Heap.get?_push_size _ rfl,rfl⟩,h⟩
theorem Wf {I:Addr} {x left c:Int} {Q:Value->Shared->Prop} (hit:IsRangeIter s.heap I x left c) (h:Q (.int left s.toks) {s with toks:=s.toks+1}):
   wpAny (model prog w) A (call (.builtin "range_iterator.__length_hint__") [.ref I]) Q E s:=by
 have hT:s.TypeIs (.ref I) "range_iterator":=⟨_,hit,rfl⟩
 refine wpAny_call_entry F.slot_range_iterator_length_hint hT F.entry_range_iterator_length_hint ?_ (F.args_range_iterator_length_hint_1 _)
 unfold Builtin.«range_iterator.__length_hint__»
 refine wpAny_bind (wpAny_of_eq (a:=Value.ref I) rfl ?_)
 refine wpAny_bind (wpAny_field hit rfl (x:=rawInt left) rfl ?_)
 show wpAny _ _ (do ret (<-mkInt left)) _ _ _
 exact wpAny_ret_mkInt h
structure V3 (P:Program) (w:World) (T:String) (I:Addr) (fp:List Addr) (n:Nat) (V:Nat->Value->Prop) (St:Nat->Heap->Prop):Prop where
 ty:∀z:Shared,St 0 z.heap->z.TypeIs (.ref I) T
 nl:(Value.type T==Value.type "list")=false
 nt:(Value.type T==Value.type "tuple")=false
 walk:∀B:Around,B.handled=none->Walks P w B I fp [I] n V St
 hint:∀(B:Around) (F:Value->Shared->Prop) (z:Shared) (R:Bool->Shared->Prop),St 0 z.heap->(∀k,R false {z with toks:=k})->wpAny (model P w) B (Builtin.List.listLengthHint (.ref I)) R F z
theorem V3.list {P:Program} {T:String} {I:Addr} {fp:List Addr} {n:Nat} {V:Nat->Value->Prop} {St:Nat->Heap->Prop} (J:V3 P w T I fp n V St) {B:Around} {F':Value->Shared->Prop} {z:Shared} {R:Value->Shared->Prop}
   (hB:B.handled=none) (st:St 0 z.heap) (mem:I∈fp) (old:∀b∈fp,b < z.heap.objs.size) (hn:n<=1048576)
   (k:∀g tk xs c,(∀b o,b≠I->z.heap.get? b=some o->g.get? b=some o)->g.get? z.heap.objs.size=some (⟨.type "list",none,.seq xs c,#[]⟩:Obj)->ItemsOf V xs n->R (.ref z.heap.objs.size) {z with heap:=g,toks:=tk}):
   wpAny (model P w) B (call (.type "list") [.ref I]) R F' z:=by
 have nI:∀b∈fp,z.heap.objs.size≠b:=λb hb=>Nat.ne_of_gt (old b hb)
 have sI:Builtin.List.listSameRef (.ref z.heap.objs.size) (.ref I)=false:=by unfold Builtin.List.listSameRef;simp [nI I mem]
 refine callType_codes (Q₁:=λob z1=>z1={z with heap:=z.heap.push {cls:=.type "list",data:=.seq #[]}}/\ob=.ref z.heap.objs.size) F.called_list (F.typeCall_list_1 _) F.entry_list_init (code_list_new _ ⟨rfl,rfl⟩) ?_
 rintro ob z1 ⟨rfl,rfl⟩
 have a0:=Heap.get?_push_size z.heap (o:=({cls:=.type "list",data:=.seq #[]}:Obj)) rfl
 refine⟨⟨_,a0,rfl⟩,F.args_list_init_2 _ _,?_⟩
 show wpAny _ _ (Builtin.List.listItems (.ref _) >>= λys=>Builtin.List.listUpdate (.ref _) (λ_=>#[]) >>= λ_=>letGo ys.toList.reverse >>= λ_=>Builtin.List.listExtendWith (.ref _) (.ref I) .none) _ _ _
 refine wpAny_bind (show wpAny _ _ (Builtin.List.listItems (.ref _)) _ _ _ from ?_)
 unfold Builtin.List.listItems
 refine wpAny_bind (wpAny_seqItems a0 rfl (wpAny_pure (wpAny_bind ?_)))
 refine wpAny_updateSeq a0 rfl (wpAny_bind (wpAny_letGo ?_))
 have a1:=Heap.get?_update_self (Obj.mapSeq (λ_=>(#[]:Array Value))) a0 rfl
 have keep1:∀b o,z.heap.get? b=some o->((z.heap.push {cls:=.type "list",data:=.seq #[]}).update z.heap.objs.size (Obj.mapSeq (λ_=>(#[]:Array Value)))).get? b=some o:=λb o e=>
   (Heap.get?_update_other _ _ (Nat.ne_of_gt (Heap.lt_size e))).trans (Heap.get?_push_of_some _ e)
 generalize hg1:(z.heap.push {cls:=.type "list",data:=.seq #[]}).update z.heap.objs.size (Obj.mapSeq (λ_=>(#[]:Array Value)))=g1 at a1 keep1
 have st1:St 0 g1:=(J.walk B hB).frame 0 _ _ st λb _ o e=>keep1 b o e
 unfold Builtin.List.listExtendWith
 refine wpAny_bind (wpAny_typeOf (J.ty {z with heap:=g1} st1) ?_)
 simp only[sI,J.nl,J.nt,Bool.or_false,Bool.false_eq_true,if_false]
 refine wpAny_bind ((J.walk B.in1.in1 hB).self 0 {z with heap:=g1} _ _ st1 ?_)
 refine wpAny_bind (wpAny_holding (J.hint B.in1.in1 _ {z with heap:=g1} _ st1 λtk=>?_))
 have run:∀(g:Heap) (c tk:Nat),St 0 g->(∀b o,z.heap.get? b=some o->g.get? b=some o)->g.get? z.heap.objs.size=some {cls:=.type "list",data:=.seq #[] c}->
     codeAny (model P w) B.in1 (.builtin "list.extend.loop" ⟨[.ref z.heap.objs.size,.ref I,.none],[]⟩) (wants (λr z2=>r=.none/\R (.ref z.heap.objs.size) z2) F') {z with heap:=g,toks:=tk}:=λg c tk sg kg ag=>
   codeAny_extend_loopS (J.walk B.in1.in1 hB).toS (by rw[sizeLine_eq];omega) _ (λq=>nI _ q rfl) .none n 0 _ #[] c rfl (Nat.zero_le _) sg ag (ItemsOf.nil _) λz3 xs c3 mv a3 it=>by
     rw[Moved.eq_with mv]
     refine⟨rfl,k z3.heap z3.toks xs c3 (λb o hb e=>mv.heap b o (λq=>?_) (kg b o e)) a3 it⟩
     rcases List.mem_cons.mp q with q | q
     . exact absurd q (Nat.ne_of_lt (Heap.lt_size e))
     . exact hb (List.mem_singleton.mp q)
 refine wpAny_ite_split (λ_=>?_) (λ_=>wpAny_pure ⟨plainId_quiet F.plain_extend_loop _,run g1 _ tk st1 keep1 a1⟩)
 refine wpAny_bind (wpAny_rule (wpAny_bind (show wpAny _ _ (updateSeq z.heap.objs.size (·.push .none) >>= λ_=>updateSeq z.heap.objs.size (·.pop)) _ _ _ from wpAny_bind (wpAny_updateSeq a1 rfl ?_))))
 have a2:=Heap.get?_update_self (Obj.mapSeq (·.push Value.none)) a1 rfl
 refine wpAny_updateSeq (hz:=by seq_fits) a2 rfl ?_
 have keep3:∀b o,b≠z.heap.objs.size->g1.get? b=some o->((g1.update z.heap.objs.size (Obj.mapSeq (·.push Value.none))).update z.heap.objs.size (Obj.mapSeq (·.pop))).get? b=some o:=λb o hb e=>
   (Heap.get?_update_other _ _ (Ne.symm hb)).trans ((Heap.get?_update_other _ _ (Ne.symm hb)).trans e)
 exact wpAny_pure ⟨plainId_quiet F.plain_extend_loop _,run _ _ tk ((J.walk B hB).frame 0 _ _ st1 λb hb o e=>keep3 b o (λq=>nI b hb q.symm) e) (λb o e=>keep3 b o (Nat.ne_of_lt (Heap.lt_size e)) (keep1 b o e)) (Heap.get?_update_self (Obj.mapSeq (·.pop)) a2 rfl)⟩
theorem vn {P:Program} {I:Addr} {x c:Int} {n:Nat} (hn:n<=1048576):V3 P w "range_iterator" I [I] n (λi v=>∃t,v=.int (x+i*c) t) (λi h=>IsRangeIter h I (x+(i:Nat)*c) ((n:Int) - (i:Nat)) c) where
 ty:=λ_ st=>⟨_,st,rfl⟩
 nl:=by decide
 nt:=by decide
 walk:=λ_ hB=>Walks.range hB I x c n
 hint:=λB G z R st k=>by
   have st':IsRangeIter z.heap I x n c:=by
     have e1:x+((0:Nat):Int)*c=x:=by simp
     have e2:(n:Int) - ((0:Nat):Int)=n:=by simp
     rw[<-e1,<-e2]
     exact st
   have ty:z.TypeIs (.ref I) "range_iterator":=⟨_,st',rfl⟩
   have few:Builtin.List.listTooLong ((n:Int).toNat)=false:=by unfold Builtin.List.listTooLong;rw[Int.toNat_natCast];exact decide_eq_false (by rw[sizeLine_eq];omega)
   unfold Builtin.List.listLengthHint
   refine wpAny_bind (wpAny_specialOf ty F.nolen_ra ?_)
   refine(show wpAny _ B (specialOf (.ref I) (Str.ofString "__length_hint__") >>= _) _ _ _ from wpAny_bind (wpAny_specialOf ty F.hint_ra ?_))
   (generalize hq:("range_iterator.__length_hint__":String)=q0;(fail_if_success (clear hq q0));wp_delta;rw[show splitId q0=some ("range_iterator","__length_hint__") from by subst hq;decide+kernel];subst hq)
   refine wpAny_bind (wpAny_isInstance (b:=true) ty (by rw[isSubtype_type];kernel_rfl) ?_)
   refine(show wpAny _ B (call (.builtin "range_iterator.__length_hint__") [.ref I] >>= _) _ _ _ from wpAny_bind (Wf st' (wpAny_bind (m:=asInt? (.int (n:Int) _)) (wpAny_pure ?_))))
   dsimp only
   rw[if_neg (by rw[few];decide)]
   exact wpAny_pure (k _)
end
end PySem
namespace L2
open PySem PySem.Spec PyProof.Rows
def ZN (n:Nat):List Nat:=(List.range n).reverse
theorem U9 {n:Nat} {acc:Array Value} (h:ItemsOf (λi v=>∃t,v=.int ((n:Int) - 1+i*(-1)) t) acc n):qF ((ZN n).map λi=>V.int (i:Nat)) acc.toList:=by
 obtain⟨hz,hv⟩:=h
 have key:∀(xs:List V) (us:List Value),xs.length=us.length->(∀(i:Nat) (x:V) (u:Value),xs[i]?=some x->us[i]?=some u->qK x u)->qF xs us:=by
   intro xs
   induction xs with
   | nil=>intro us hl _;cases us with | nil=>exact .nil | cons _ _=>cases hl
   | cons x xs ih=>
     intro us hl hp
     cases us with
     | nil=>cases hl
     | cons u us=>exact .cons (hp 0 x u rfl rfl) (ih us (by simpa using hl) λi y w h1 h2=>hp (i+1) y w (by simpa using h1) (by simpa using h2))
 refine key _ _ (by simp [ZN,hz]) λi x u h1 h2=>?_
 have h2':acc[i]?=some u:=by simpa using h2
 obtain⟨t,rfl⟩:=hv i u h2'
 have hi:i < n:=by
   have:=(Array.getElem?_eq_some_iff.mp h2').1
   omega
 rw[List.getElem?_map,ZN,List.getElem?_reverse (by simpa using hi),List.length_range,List.getElem?_range (by omega)]at h1
 simp at h1
 subst h1
 refine⟨t,?_⟩
 congr 1
 omega
section
variable {X:Cx} {e:Expr} {te:TE} {p1 p2 p3 pos1 pos2 pos3:Pos}
theorem kR {M:Model} {A:Around} {E:Value->Shared->Prop} {s:Shared} {env:Env} {e:Expr} {pos:Pos} {R:List Value->Shared->Prop} (hs:starEach [e] env=[(false,eval e env)]) (h:wpAny M A (eval e env) (λv s1=>R [v] s1) E s):
   wpAny M A (spliced (backTo pos (starEach [e] env))) R E s:=by
 rw[hs]
 show wpAny _ _ (spliced ((false,eval e env)::backTo pos [])) _ _ s
 exact Calls.spliced_cons (jf h λu s1 h1=>Calls.spliced_nil h1)
def N3 (te:TE):TE:=λσ H Q=>te σ H λx H1=>∃n:Nat,x=.int n/\n<=1000/\∀l,H1 l=none->Q (.ref l) (upd H1 l (.lst ((ZN n).map λi=>V.int (i:Nat))))
theorem GU (hc:X.calm=true) (g1:Gl X "list") (m1:X.mg "list"=none) (g2:Gl X "reversed") (m2:X.mg "reversed"=none) (g3:Gl X "range") (m3:X.mg "range"=none) (ha:JE X e te) (hs:starEach [e] X.env=[(false,eval e X.env)]:=by rfl) (hs2:starEach [.Call (.Name "range" p3) [e] [] pos3] X.env=[(false,eval (.Call (.Name "range" p3) [e] [] pos3) X.env)]:=by rfl) (hs3:starEach [.Call (.Name "reversed" p2) [.Call (.Name "range" p3) [e] [] pos3] [] pos2] X.env=[(false,eval (.Call (.Name "reversed" p2) [.Call (.Name "range" p3) [e] [] pos3] [] pos2) X.env)]:=by rfl):JE X (.Call (.Name "list" p1) [.Call (.Name "reversed" p2) [.Call (.Name "range" p3) [e] [] pos3] [] pos2] [] pos1) (N3 te):=.of (by
 have ha:=ha.to
 intro pins s σ H Q I h
 refine Call_ (QW I g1 m1 boot_list (PyProof.Rows.callWith_type1 (kR hs3 ?_) (by rw[hs3];rfl) rfl))
 refine Call_ (QW I g2 m2 boot_reversed (PyProof.Rows.callWith_type1 (kR hs2 ?_) (by rw[hs2];rfl) rfl))
 refine Call_ (QW I g3 m3 boot_range (PyProof.Rows.callWith_type1 (kR hs (jf (ha pins s σ H _ I h) λu s1 ⟨x,H1,I1,r1,q1⟩=>?_)) (by rw[hs];rfl) rfl))
 obtain⟨n,rfl,hn,q⟩:=q1
 obtain⟨t,rfl⟩:=r1
 refine call_range_1 ?_
 refine J6 (IsRange.new ..) (by omega) ?_
 refine(vn (x:=(n:Int) - 1) (c:=-1) (n:=n) (by omega)).list (I1.ok.hd hc) (by
   have e1:(n:Int) - 1+((0:Nat):Int)*(-1)=(n:Int) - 1:=by simp
   have e2:(n:Int) - ((0:Nat):Int)=n:=by simp
   rw[e1,e2]
   exact Heap.get?_push_size _ rfl) (by simp) (λb hb=>by rw[List.mem_singleton.mp hb,Heap.size_push (_:Heap) (Yf _ _ _)];exact Nat.lt_succ_self _) (by omega) λh' tk acc' c' kp e hi=>?_
 have kk:∀b o,s1.heap.get? b=some o->h'.get? b=some o:=λb o eb=>by
   refine kp b o (Nat.ne_of_lt ?_) (Heap.get?_push_of_some _ (Heap.get?_push_of_some _ eb))
   rw[Heap.size_push]
   exact Nat.lt_succ_of_lt (Heap.lt_size eb)
 have s1z:s1.heap.objs.size<=((s1.heap.push ({cls:=.type "range",data:=.fields #[.int 0 s1.toks,.int n t,.int 1 (s1.toks+1)]}:Obj)).push (Yf ((n:Int) - 1) n (-1))).objs.size:=by
   rw[Heap.size_push,Heap.size_push]
   omega
 exact⟨.ref _,_,I1.laid (t':=tk) (o:=.lst ((ZN n).map λi=>V.int (i:Nat))) kk s1z ⟨by simp only[List.length_map,ZN,List.length_reverse,List.length_range];exact Nat.le_of_lt (qo hn),acc'.toList,c',U9 hi,by simpa using e⟩,rfl,q _ (I1.hok.fresh s1z)⟩)
end
end L2
set_option Elab.async false
set_option linter.all false
set_option maxRecDepth 100000
set_option maxHeartbeats 4000000
namespace PySem
namespace F
end F
end PySem
namespace L2
open PySem PySem.Spec PyProof.Rows
theorem vC:∀(xs:List V) (us:List Value),xs.length=us.length->(∀(i:Nat) (x:V) (u:Value),xs[i]?=some x->us[i]?=some u->qK x u)->qF xs us:=by
 intro xs
 induction xs with
 | nil=>intro us hl _;cases us with | nil=>exact .nil | cons _ _=>cases hl
 | cons x xs ih=>
   intro us hl hp
   cases us with
   | nil=>cases hl
   | cons u us=>exact .cons (hp 0 x u rfl rfl) (ih us (by simpa using hl) λi y w h1 h2=>hp (i+1) y w (by simpa using h1) (by simpa using h2))
section
variable {X:Cx} {e:Expr} {te:TE} {p1 p2 pos1 pos2:Pos}
end
end L2
set_option Elab.async false
set_option linter.all false
set_option maxRecDepth 100000
set_option maxHeartbeats 4000000
namespace L2
open PySem PySem.Spec PyProof.Rows
section
variable {X:Cx} {pins:List (Addr×Obj)} {σ:St} {H:Hp} {s:Shared} {h':Heap}
theorem qx.turnLaid {L:List Addr} {T:Addr} {o:HO} {t':Nat} (I:qx X pins σ H s) (k:∀b u,b∉L->s.heap.get? b=some u->h'.get? b=some u) (hf:∀b∈L,Zq X pins H b) (hp:s.heap.objs.size<=T)
   (new:qH X.prog X.w (upd H T o) h' T o):qx X pins σ (upd H T o) {s with heap:=h',toks:=t'}:=by
 have hn:H T=none:=I.hok.fresh hp
 have up:∀b u,H b=some u->upd H T o b=some u:=λb u e=>by rw[qg (ql e hn)];exact e
 have nL:∀b u,H b=some u->b∉L:=λb u e z=>by rw[(hf b z).1]at e;cases e
 refine I.step (g':=s.gens) (d':=s.drawn) (ch:=L) (λb hb=>?_) (λb o _ _ hc e _=>k b o hc e) (λb o _ _ hc e _=>⟨o.slots,k b o hc e⟩) (λb ob hc e n=>?_)
   (λb o hc e=>⟨o,k b o hc e⟩) (λb xs e=>up b _ e) (λb o u e=>up b _ e) (λb ps e=>⟨#[],by rw[up b _ e];simp⟩) (λm hm=>?_) (λb u e=>?_) I.bare
 . obtain⟨f0,f1,f2,f3,f4,f5⟩:=hf b hb
   exact⟨f3,f1,f4,f5⟩
 . have:b≠T:=Nat.ne_of_lt (Nat.lt_of_lt_of_le (Heap.lt_size e) hp)
   rw[qg this]
   exact n
 . obtain⟨o,es,ep,ho,r⟩:=hm
   exact⟨o,es,ep,k _ o (λz=>(hf _ z).2.1 rfl) ho,r⟩
 . by_cases hb:b=T
   . subst hb
     rw[qd]at e
     cases e
     exact new
   . rw[qg hb]at e
     refine(I.hok b u e).stay (λc v hc q=>k c v ?_ q) (λc q=>up c _ q) λc xs q=>up c _ q
     rcases hc with z | z
     . rw[z];exact nL b u e
     . exact nL c _ z
theorem qx.turnedL {L:List Addr} {t':Nat} (I:qx X pins σ H s) (k:∀b u,b∉L->s.heap.get? b=some u->h'.get? b=some u) (hf:∀b∈L,Zq X pins H b):qx X pins σ H {s with heap:=h',toks:=t'}:=by
 have nL:∀b u,H b=some u->b∉L:=λb u e z=>by rw[(hf b z).1]at e;cases e
 refine I.step (g':=s.gens) (d':=s.drawn) (ch:=L) (λb hb=>?_) (λb o _ _ hc e _=>k b o hc e) (λb o _ _ hc e _=>⟨o.slots,k b o hc e⟩) (λ_ _ _ _ n=>n)
   (λb o hc e=>⟨o,k b o hc e⟩) (λ_ _ e=>e) (λ_ _ _ e=>e) (λb ps e=>⟨#[],by rw[e];simp⟩) (λm hm=>?_) (λb u e=>?_) I.bare
 . obtain⟨f0,f1,f2,f3,f4,f5⟩:=hf b hb
   exact⟨f3,f1,f4,f5⟩
 . obtain⟨o,es,ep,ho,r⟩:=hm
   exact⟨o,es,ep,k _ o (λz=>(hf _ z).2.1 rfl) ho,r⟩
 . refine(I.hok b u e).stay (λc v hc q=>k c v ?_ q) (λ_ q=>q) λ_ _ q=>q
   rcases hc with z | z
   . rw[z];exact nL b u e
   . exact nL c _ z
end
section
variable {X:Cx} {elts:List Expr} {x1:Nat} {tpos:Pos}
end
end L2
set_option Elab.async false
set_option linter.all false
set_option maxRecDepth 100000
set_option maxHeartbeats 4000000
namespace L2
open PySem PySem.Spec PyProof.Rows
section
variable {X:Cx}
theorem YU:∀{cs:List Addr} {us:List Value},qF (cs.map V.ref) us->us=cs.map Value.ref
 | [],_,.nil=>rfl
 | c::cs,u::us,.cons r t=>by
   obtain rfl:u=Value.ref c:=r
   rw[List.map_cons,YU t]
end
section
variable {X:Cx} {o e:Expr} {es:List Expr} {ta:TE} {t:TA} {m:Str} {C C' f f':Addr} {fd fd':FuncData} {ps ps':List Str} {k k':Nat} {sp sp':Sp} {apos pos:Pos}
def KP (C C':Addr) (m:Str) (sp sp':Sp) (ta:TE) (t:TA):TE:=λσ H Q=>ta σ H λx H1=>∃a dx fs,x=.ref a/\fs.lookup m=none/\
 ((H1 a=some (.ins C dx fs)/\t σ H1 λvs H2=>sp (x::vs) H2 Q E0)\/(H1 a=some (.ins C' dx fs)/\t σ H1 λvs H2=>sp' (x::vs) H2 Q E0))
theorem vZ {pl:Sem Bool} (he:JE X o ta) (c:YL X.K C) (hm:Va X.K C m f) (F:qp X.prog X.w X.K X.mg X.base qM k f fd ps sp) (hr:q5 k X.A) (hb:jK X.K fd ps []) (c':YL X.K C') (hm':Va X.K C' m f') (F':qp X.prog X.w X.K X.mg X.base qM k' f' fd' ps' sp') (hr':q5 k' X.A) (hb':jK X.K fd' ps' []) (ht:eval (.Call (.Attribute o m apos) [] [] pos) X.env=(eval o X.env >>= λov=>standAt apos.atName >>= λ_=>holding [ov] (getMethod ov m pl) >>= λr=>callWith pos r.1 r.2 (backTo pos (starEach [] X.env)) (backToKw pos (keywordEach [] X.env))):=by rfl):JE X (.Call (.Attribute o m apos) [] [] pos) (KP C C' m sp sp' ta Q0):=.of (by
 have he:=he.to
 intro pins s σ H Q I h
 refine PySem.W.methodCall_KW (pl:=pl) (jf (he pins s σ H _ I h) λu s1 ⟨x,H1,I1,rx,a,dx,fs,ex,l,q⟩=>?_) ht
 subst ex
 obtain rfl:u=Value.ref a:=rx
 rcases q with ⟨ea,q⟩ | ⟨ea,q⟩
 . exact Jn I1 ea c hm l (PySem.W.callWith_K0 (first:=[.ref a]) I1.kIn hm.kp (Ye (us:=[.ref a]) (vs:=[.ref a]) F hr hb .nil Zb I1 (.cons rfl .nil) q))
 . exact Jn I1 ea c' hm' l (PySem.W.callWith_K0 (first:=[.ref a]) I1.kIn hm'.kp (Ye (us:=[.ref a]) (vs:=[.ref a]) F' hr' hb' .nil Zb I1 (.cons rfl .nil) q)))
end
section
variable {X:Cx} {e:Expr} {es:List Expr} {te:TE} {t:TA}
theorem uL {t':TE} (h:JE X e te) (k:∀σ H Q,t' σ H Q->te σ H Q):JE X e t':=.of (by
 have h:=h.to
 exact λpins s σ H Q I q=>h pins s σ H Q I (k σ H Q q))
def tWk (te:TE):TE:=λσ H Q=>∃G:VK,te σ H G/\∀x H1,G x H1->Q x H1
theorem Nr (h:JE X e te):JE X e (tWk te):=.of (by
 have h:=h.to
 intro pins s σ H Q I ⟨G,g,k⟩
 exact jf (h pins s σ H G I g) λv s1 ⟨x,H1,I1,r1,q1⟩=>⟨x,H1,I1,r1,k x H1 q1⟩)
end
end L2
set_option Elab.async false
set_option linter.all false
set_option maxRecDepth 100000
set_option maxHeartbeats 4000000
namespace L2
open PySem PySem.Spec PySem.W PyProof.Rows
theorem Ky:∀(f n r:Nat),r<=1->minRun' f n r<=n+r
 | 0,n,r,_=>Nat.le_refl _
 | f+1,n,r,hr=>by
   rw[minRun'_succ]
   split
   . exact Nat.le_refl _
   . have h1:max r (n % 2)<=1:=Nat.max_le.mpr ⟨hr,by omega⟩
     have:=Ky f (n / 2) (max r (n % 2)) h1
     omega
section
variable {P:Program} {w:World} {B:Around} {F:Value->Shared->Prop} {κ:SortKind} {it:Array Keyed} {z:Shared}
theorem WE {n:Nat} {R:Nat->Shared->Prop} (hc:∀i,1<=i->i < n->∀C:Bool->Shared->Prop,C false z->kas_cmp P w B κ it i (i - 1) C z) (hR:R n z):
   ∀(f a:Nat),1<=a->a+f=n->(kas_asc (List.toArray (List.range n)) f a).kasWp (kas_cmp P w B κ it) R z
 | 0,a,_,e=>by
   have e':a=n:=by omega
   subst e'
   exact hR
 | f+1,a,h1,e=>by
   have g:∀i,i < n->(List.toArray (List.range n)).getD i 0=i:=λi hi=>by simp [Array.getD,hi]
   show kas_cmp P w B κ it ((List.toArray (List.range n)).getD a 0) ((List.toArray (List.range n)).getD (a - 1) 0) _ z
   rw[g a (by omega),g (a - 1) (by omega)]
   refine hc a h1 (by omega) _ ?_
   show KasT.kasWp _ (if false=true then _ else _) R z
   rw[if_neg Bool.false_ne_true]
   exact WE hc hR f (a+1) (by omega) (by omega)
theorem vx {n:Nat} {Q:Unit->SortSt->Shared->Prop} (h2:2<=n) (hc:∀i,1<=i->i < n->∀C:Bool->Shared->Prop,C false z->kas_cmp P w B κ it i (i - 1) C z)
   (hQ:∀st,arrOf st=(List.toArray (List.range n)).map (kas_item it)->failedOf st=none->Q () st z):kasC (model P w) B F sortRuns' Q (kas_st κ it (List.toArray (List.range n))) z:=by
 obtain⟨r,rfl⟩:∃r,n=r+2:=⟨n - 2,by omega⟩
 have sz:(List.toArray (List.range (r+2))).size=r+2:=by simp
 have sa:(arrOf (kas_st κ it (List.toArray (List.range (r+2))))).size=r+2:=(Array.size_map ..).trans sz
 have le:=Ky (r+2) (r+2) 0 (by decide)
 rw[sortRuns'_eq]
 refine kasC_bind (kasC_get ?_)
 dsimp only
 rw[sa]
 generalize minRun' (r+2) (r+2) 0=M at le
 refine kasC_bind (kasC_range (show kasC _ _ _ (forIn (0::1::List.range' 2 r) _ _) _ _ _ from kasC_cons ?_))
 dsimp only
 rw[if_neg (by omega)]
 simp only[Nat.sub_zero,Nat.zero_add]
 refine kasC_bind (kas_count_ (G:=λq z'=>q=(r+2,List.toArray (List.range (r+2)))/\z'=z) (by omega) (by rw[sz];exact Nat.le_refl _) (λm p' z' _ _ _ hg=>?_) ?_)
 . obtain⟨e,rfl⟩:=hg
   cases e
   dsimp only
   rw[if_neg (by omega)]
   refine kasC_bind (kasC_get ?_)
   rw[show (pendingOf (kas_st κ it (List.toArray (List.range (r+2))))).back?=none from rfl]
   dsimp only
   refine kasC_bind (kasC_modify (kasC_pure (show kasC _ _ _ (forIn (1::List.range' 2 r) _ _) _ _ _ from kasC_cons ?_)))
   dsimp only
   rw[if_pos (Nat.le_refl _)]
   refine kasC_pure ?_
   dsimp only
   refine kasC_bind (kasC_range (show kasC _ _ _ (forIn (0::1::List.range' 2 r) _ _) _ _ _ from kasC_cons (kasC_bind (kasC_get ?_))))
   rw[if_pos (show (pendingOf (setPending (kas_st κ it (List.toArray (List.range (r+2)))) ((pendingOf (kas_st κ it (List.toArray (List.range (r+2))))).push (0,r+2,0)))).size<=1 from Nat.le_refl 1)]
   refine kasC_pure ?_
   dsimp only
   exact kasC_pure (hQ _ rfl rfl)
 . unfold kas_count
   rw[KasT.kasWp_bind]
   refine WE hc ?_ _ 1 (Nat.le_refl 1) (by omega)
   rw[if_pos (beq_self_eq_true _)]
   exact⟨rfl,rfl⟩
end
def Jq (h:Heap) (v:Value) (k:Int×Int):Prop:=∃p o n t u,v=.ref p/\h.get? p=some o/\o.cls=.type "tuple"/\o.data=.seq #[.int k.1 t,.int k.2 u] n
def Ys (a b:Int×Int):Prop:=a.1 < b.1\/(a.1=b.1/\a.2 < b.2)
section
variable {P:Program} {w:World} {B:Around} {F:Value->Shared->Prop} {z:Shared}
theorem WH {v u:Value} {a b:Int×Int} (hv:Jq z.heap v b) (hu:Jq z.heap u a) (hlt:Ys a b) {C:Bool->Shared->Prop} (hC:C false z):wpAny (model P w) B (keyLt' (tuples' true) v u) C (λ_ _=>False) z:=by
 obtain⟨p,o,n,t1,t2,rfl,h1,_,d1⟩:=hv
 obtain⟨p',o',n',t1',t2',rfl,h1',_,d1'⟩:=hu
 refine kat_lt h1 d1 h1' d1' ?_
 show KatLex P w B true _ C [(.int b.1 t1,.int a.1 t1'),(.int b.2 t2,.int a.2 t2')] 0 z
 refine kat_cons (SeqAt.EqAt.int_int b.1 t1 a.1 t1' P w _ _ ?_)
 rcases hlt with h | ⟨h,h'⟩
 . have e:(b.1==a.1)=false:=by
     rw[beq_eq_false_iff_ne]
     omega
   rw[e]
   refine kat_no (show wpAny _ _ (oneLt' true _ _) _ _ _ from oneLt_int ?_)
   rw[decide_eq_false (by omega)]
   exact hC
 . have e:(b.1==a.1)=true:=by rw[h];exact beq_self_eq_true _
   rw[e]
   refine kat_yes (kat_cons (SeqAt.EqAt.int_int b.2 t2 a.2 t2' P w _ _ ?_))
   have e2:(b.2==a.2)=false:=by
     rw[beq_eq_false_iff_ne]
     omega
   rw[e2]
   refine kat_no (show wpAny _ _ (oneLt' false _ _) _ _ _ from kat_one _ _ (lt_int ?_))
   show C (decide (b.2 < a.2)) z
   rw[decide_eq_false (by omega)]
   exact hC
theorem Jq.keep {h h':Heap} {v:Value} {k:Int×Int} (x:Jq h v k) (kp:∀b o,h.get? b=some o->o.cls=.type "tuple"->h'.get? b=some o):Jq h' v k:=by
 obtain⟨p,o,n,t,u,e,h1,c,d⟩:=x
 exact⟨p,o,n,t,u,e,kp p o h1 c,c,d⟩
theorem Y7 (vs:List Value):(pairsOf vs).map (·.2)=vs.toArray:=by
 apply Array.ext'
 rw[Array.toList_map,pairsOf_toList,List.map_snd_zip (Nat.le_refl _)]
theorem Ua {h:Heap}:∀(vs:List Value) (ks:List (Int×Int)),vs.length=ks.length->(∀(i:Nat) (v:Value) (k:Int×Int),vs[i]?=some v->ks[i]?=some k->Jq h v k)->∃fs,KatTups h vs fs/\fs.length=vs.length/\∀v∈fs,∃i t,v=Value.int i t
 | [],_,_,_=>⟨[],.nil,rfl,λv hv=>(nomatch hv)⟩
 | v::vs,[],hl,_=>by cases hl
 | v::vs,k::ks,hl,hv=>by
   obtain⟨fs,tf,lf,hf⟩:=Ua vs ks (Nat.succ.inj hl) λi u q e1 e2=>hv (i+1) u q (by simpa using e1) (by simpa using e2)
   obtain⟨p,o,n,t,u,rfl,h1,c,d⟩:=hv 0 v k rfl rfl
   refine⟨.int k.1 t::fs,.cons h1 c d rfl tf,by simp [lf],λx hx=>?_⟩
   rcases List.mem_cons.mp hx with e | hx
   . exact⟨_,_,e⟩
   . exact hf x hx
theorem vk {a:Addr} {vs:List Value} {ks:List (Int×Int)} {n:Nat} {R:PySem.Fin->Shared->Prop} (ho:z.heap.get? a=some (seqObj "list" vs.toArray n)) (hl:vs.length=ks.length) (hv:∀(i:Nat) (v:Value) (k:Int×Int),vs[i]?=some v->ks[i]?=some k->Jq z.heap v k)
   (hr:∀(i:Nat) (k k':Int×Int),ks[i]?=some k->ks[i+1]?=some k'->Ys k k') (hz:vs.length<=100000)
   (k:R (.done (.ret .none)) {z with heap:=sortedHeap z.heap a vs vs.toArray}):wpAny (model P w) B (Builtin.«list.sort» ⟨[.ref a],[]⟩) R F z:=by
 have na:∀b o,z.heap.get? b=some o->o.cls=.type "tuple"->b≠a:=λb o e c q=>by
   rw[q,ho]at e
   cases e
   exact absurd c (show ¬Value.type "list"=Value.type "tuple" by decide)
 rw[list_sort_plain]
 refine wpAny_bind (listItems_at ho rfl (wpAny_bind (listUpdate_at ho rfl ?_)))
 obtain⟨c1,o1⟩:∃c,(z.heap.update a (Obj.mapSeq λ_=>#[])).get? a=some (seqObj "list" #[] c):=⟨_,get?_update_seq ho (λ_=>#[])⟩
 refine wpAny_bind (seqEpoch_at o1 rfl (wpAny_bind (wpAny_newTuple (wpAny_bind (wpAny_newList (wpAny_holding ?_))))))
 have lt:=Heap.lt_size ho
 have o2:(((z.heap.update a (Obj.mapSeq λ_=>#[])).push (seqObj "tuple" vs.toArray 0)).push (seqObj "list" #[] 0)).get? a=some (seqObj "list" #[] c1):=Heap.get?_push_of_some _ (Heap.get?_push_of_some _ o1)
 have kp:∀b o,z.heap.get? b=some o->o.cls=.type "tuple"->(((z.heap.update a (Obj.mapSeq λ_=>#[])).push (seqObj "tuple" vs.toArray 0)).push (seqObj "list" #[] 0)).get? b=some o:=λb o e c=>
   Heap.get?_push_of_some _ (Heap.get?_push_of_some _ ((Heap.get?_update_other _ _ (Ne.symm (na b o e c))).trans e))
 show wpAny (model P w) B _ R F {z with heap:=((z.heap.update a (Obj.mapSeq λ_=>#[])).push (seqObj "tuple" vs.toArray 0)).push (seqObj "list" #[] 0)}
 dsimp only
 have sv:vs.toArray.size=vs.length:=by simp
 have ends:∀st:SortSt,(arrOf st).map (·.2)=vs.toArray->failedOf st=none->wpAny (model P w) B (do
     let touched:=(<-seqEpoch a) != c1
     Builtin.List.listUpdate (.ref a) λ_=>(arrOf st).map (·.2)
     if let some e:=failedOf st then rule "list.sort.comparison-raised";throw e
     if touched then rule "list.sort.modified";raiseError "ValueError" "list modified during sort"
     ret .none) R F {z with heap:=((z.heap.update a (Obj.mapSeq λ_=>#[])).push (seqObj "tuple" vs.toArray 0)).push (seqObj "list" #[] 0)}:=λst e f=>by
   refine wpAny_bind (seqEpoch_at o2 rfl ?_)
   rw[e,f]
   refine wpAny_bind (listUpdate_at o2 rfl ?_ (hsz2:=by rw[sv,sizeLine_eq];omega))
   simp only[bne_self_eq_false,Bool.false_eq_true,if_false]
   exact wpAny_pure k
 by_cases h2:vs.toArray.size < 2
 . rw[if_pos h2,if_pos h2]
   refine wpAny_bind (wpAny_pure ?_)
   rw[StateT.run_pure]
   refine wpAny_bind (wpAny_pure ?_)
   exact ends (SortSt.mk' general' (vs.toArray.zip vs.toArray) #[] 7 none) (Y7 vs) rfl
 . rw[if_neg h2,if_neg h2]
   have l2:2<=vs.length:=by omega
   have hv':∀(i:Nat) (v:Value) (q:Int×Int),vs[i]?=some v->ks[i]?=some q->Jq (((z.heap.update a (Obj.mapSeq λ_=>#[])).push (seqObj "tuple" vs.toArray 0)).push (seqObj "list" #[] 0)) v q:=λi v q e1 e2=>(hv i v q e1 e2).keep kp
   obtain⟨fs,tf,lf,hf⟩:=Ua vs ks hl hv'
   refine wpAny_bind (kat_kind (T:=.type "int") tf (by omega) (λv q=>?_) rfl ?_)
   . obtain⟨i,t,rfl⟩:=hf v q
     exact Looks.of_pure rfl
   . have e:vs.toArray.zip vs.toArray=(List.toArray (List.range vs.length)).map (kas_item (pairsOf vs)):=by
       have:=kas_range (pairsOf vs)
       rw[pairsOf_size]at this
       exact this.symm
     rw[e]
     have run:kasC (model P w) B F sortRuns' (λ_ st z'=>z'={z with heap:=((z.heap.update a (Obj.mapSeq λ_=>#[])).push (seqObj "tuple" vs.toArray 0)).push (seqObj "list" #[] 0)}/\(arrOf st).map (·.2)=vs.toArray/\failedOf st=none)
         (kas_st (tuples' true) (pairsOf vs) (List.toArray (List.range vs.length))) {z with heap:=((z.heap.update a (Obj.mapSeq λ_=>#[])).push (seqObj "tuple" vs.toArray 0)).push (seqObj "list" #[] 0)}:=by
       refine vx l2 (λi i1 i2 C hC=>?_) λst e1 e2=>⟨rfl,by rw[e1,<-e];exact Y7 vs,e2⟩
       unfold kas_cmp
       rw[kas_item_eq,kas_item_eq]
       have g:∀j,j < vs.length->vs[j]?=some (vs.getD j Value.none):=λj hj=>by simp [hj]
       have gk:∀j,j < vs.length->∃q,ks[j]?=some q:=λj hj=>⟨_,List.getElem?_eq_getElem (by omega)⟩
       obtain⟨q1,eq1⟩:=gk i i2
       obtain⟨q0,eq0⟩:=gk (i - 1) (by omega)
       have eq1':ks[i - 1+1]?=some q1:=by rw[show i - 1+1=i by omega];exact eq1
       exact WH (hv' i _ q1 (g i i2) eq1) (hv' (i - 1) _ q0 (g (i - 1) (by omega)) eq0) (hr (i - 1) q0 q1 eq0 eq1') hC
     refine wpAny_bind (wpAny_mono run (λr z' h3=>?_) λ_ _ x=>x)
     obtain⟨⟨⟩,st⟩:=r
     obtain⟨rfl,e1,e2⟩:=h3
     exact ends st e1 e2
end
end L2
set_option Elab.async false
set_option linter.all false
set_option maxRecDepth 100000
set_option maxHeartbeats 4000000
namespace PySem
def YS (h:Heap) (d:Addr) (es:Array DictEntry) (ep:Nat):Prop:=∃o,h.get? d=some o/\o.ExactDict/\o.data=.dict es ep
theorem YS.keep {h h':Heap} {d:Addr} {es:Array DictEntry} {ep:Nat} (x:YS h d es ep) (k:∀o,h.get? d=some o->h'.get? d=some o):YS h' d es ep:=let ⟨o,e,r⟩:=x;⟨o,k o e,r⟩
section
variable {P:Program} {w:World} {B:Around} {F':Value->Shared->Prop} {z:Shared} {d I:Addr} {es:Array DictEntry} {ep i:Nat}
theorem YS.ty (x:YS z.heap d es ep):z.TypeIs (.ref d) "dict":=let ⟨o,e,c,_⟩:=x;⟨o,e,c.1⟩
theorem yq {R:Value->Shared->Prop} (hd:(d==sysModules)=false) (x:YS z.heap d es ep)
   (k:R (.ref z.heap.objs.size) {z with heap:=z.heap.push {cls:=.type "dict_keyiterator",data:=.fields #[.ref d,.int 0 0,.int es.size 0,.int ep 0]}}):wpAny (model P w) B (pyIter (.ref d)) R F' z:=by
 have ty:=x.ty
 obtain⟨o,ho,_,dat⟩:=x
 refine wpAny_pyIter_slot ty F.slot_dict_iter (wpAny_call_entry F.slot_dict_iter ty F.entry_dict_iter ?_ (F.args_dict_iter_1 _))
 unfold Builtin.«dict.__iter__»
 refine wpAny_bind (show wpAny _ _ (Builtin.Dict.dictSlotNone _ _) _ _ _ from ?_)
 unfold Builtin.Dict.dictSlotNone
 refine wpAny_bind (wpAny_notOrdered_dict ty (show wpAny _ _ (pure (Value.ref d)) _ _ z from wpAny_pure ?_))
 refine(show wpAny _ _ (Builtin.Dict.showsAll d >>= _) _ _ z from ?_)
 unfold Builtin.Dict.showsAll
 rw[if_neg (by rw[hd];exact Bool.false_ne_true)]
 refine wpAny_bind (wpAny_pure (wpAny_bind (wpAny_dictEntries ho dat (wpAny_bind (wpAny_dictEpoch ho dat ?_)))))
 exact wpAny_bind (wpAny_newObj_type (wpAny_pure ⟨_,rfl,"dict_keyiterator",_,⟨_,Heap.get?_push_size _ rfl,rfl⟩,F.slot_dict_keyiterator_next.lookup,by simpa [rawInt] using k⟩))
theorem yp {R:Option Value->Shared->Prop} (hit:z.heap.IsKeyIter I d i es.size ep) (x:YS z.heap d es ep) (hi:i < es.size)
   (k:∀h',h'.IsKeyIter I d (i+1) es.size ep->Heap.SameBut I z.heap h'->R (some es[i].key) {z with heap:=h'}):wpAny (model P w) B (pyNext (.ref I)) R F' z:=by
 obtain⟨o,ho,hc,hd⟩:=id hit
 obtain⟨od,hod,_,dat⟩:=x
 have ty:=hit.typeIs
 unfold pyNext
 refine wpAny_bind (wpAny_attempt (wpAny_callSpecial?_slot (name:=Str.ofString "__next__") ty F.slot_dict_keyiterator_next (wpAny_call_entry F.slot_dict_keyiterator_next ty F.entry_dict_keyiterator_next ?_ (F.args_dict_keyiterator_next_1 _))))
 refine wpAny_bind (wpAny_pure (wpAny_bind (wpAny_bind (wpAny_bind ?_))))
 first | refine wpAny_typeNameOfWhole_keyiter ty (wpAny_pure (wpAny_bind (wpAny_fieldsOf ho hd ?_))) | refine wpAny_typeNameOf_keyiter ty (wpAny_pure (wpAny_bind (wpAny_fieldsOf ho hd ?_)))
 have own:Builtin.Dict_items.ownsTuple "dict_keyiterator"=false:=by decide
 simp only[own,Bool.false_eq_true,if_false]
 show wpAny _ _ (if (Value.ref d==Value.none)=true then _ else _) _ _ z
 rw[if_neg (show ¬((Value.ref d==Value.none)=true) from Bool.false_ne_true)]
 refine wpAny_bind (wpAny_pure (wpAny_bind (wpAny_dictEntries hod dat ?_)))
 rw[if_neg (by simp)]
 refine wpAny_bind (wpAny_pure (wpAny_bind (wpAny_dictEpoch hod dat ?_)))
 rw[if_neg (by simp)]
 refine wpAny_pure ?_
 simp only[show ¬((i:Int) < 0) from by omega,if_false,Int.toNat_natCast,Array.getElem?_eq_getElem hi]
 refine wpAny_bind (wpAny_bind ?_)
 first | refine wpAny_typeNameOfWhole_keyiter ty (wpAny_pure (wpAny_bind (wpAny_isOneOf_keyiter ty ?_))) | refine wpAny_typeNameOf_keyiter ty (wpAny_pure (wpAny_bind (wpAny_isOneOf_keyiter ty ?_)))
 refine(show wpAny _ _ (setField (.ref I) 1 (rawInt ((i:Int)+1)) >>= _) _ _ z from wpAny_bind (wpAny_setField ho hd (by simp) ?_))
 have hit':(z.heap.update I (Obj.mapFields (·.setIfInBounds 1 (rawInt ((i:Int)+1))))).IsKeyIter I d (i+1) es.size ep:=
   ⟨_,Heap.get?_update_self _ ho (Obj.isFreed_of_fields (Obj.data_mapFields hd _)),(Obj.cls_mapFields ..).trans hc,by rw[Obj.data_mapFields hd];simp [rawInt]⟩
 refine wpAny_bind (wpAny_holding (wpAny_bind (wpAny_isOneOf_keyiter (s:={z with heap:=z.heap.update I (Obj.mapFields (·.setIfInBounds 1 (rawInt ((i:Int)+1))))}) hit'.typeIs ?_)))
 refine(show wpAny _ _ (pure es[i].key) _ _ _ from wpAny_pure (wpAny_pure ⟨_,rfl,wpAny_pure (k _ hit' (Heap.SameBut.update ..))⟩))
theorem wW {R:Option Value->Shared->Prop} (hB:B.handled=none) (hit:z.heap.IsKeyIter I d i es.size ep) (x:YS z.heap d es ep) (hi:es.size<=i)
   (k:∀h',Heap.ExtBut I z.heap h'->R none {z with heap:=h'}):wpAny (model P w) B (pyNext (.ref I)) R F' z:=by
 obtain⟨o,ho,hc,hd⟩:=id hit
 obtain⟨od,hod,_,dat⟩:=x
 have ty:=hit.typeIs
 unfold pyNext
 refine wpAny_bind (wpAny_attempt (wpAny_callSpecial?_slot (name:=Str.ofString "__next__") ty F.slot_dict_keyiterator_next (wpAny_call_entry F.slot_dict_keyiterator_next ty F.entry_dict_keyiterator_next ?_ (F.args_dict_keyiterator_next_1 _))))
 refine wpAny_bind (wpAny_pure (wpAny_bind (wpAny_bind (wpAny_bind ?_))))
 first | refine wpAny_typeNameOfWhole_keyiter ty (wpAny_pure (wpAny_bind (wpAny_fieldsOf ho hd ?_))) | refine wpAny_typeNameOf_keyiter ty (wpAny_pure (wpAny_bind (wpAny_fieldsOf ho hd ?_)))
 have own:Builtin.Dict_items.ownsTuple "dict_keyiterator"=false:=by decide
 simp only[own,Bool.false_eq_true,if_false]
 show wpAny _ _ (if (Value.ref d==Value.none)=true then _ else _) _ _ z
 rw[if_neg (show ¬((Value.ref d==Value.none)=true) from Bool.false_ne_true)]
 refine wpAny_bind (wpAny_pure (wpAny_bind (wpAny_dictEntries hod dat ?_)))
 rw[if_neg (by simp)]
 refine wpAny_bind (wpAny_pure (wpAny_bind (wpAny_dictEpoch hod dat ?_)))
 rw[if_neg (by simp)]
 refine wpAny_pure ?_
 simp only[show ¬((i:Int) < 0) from by omega,if_false,Int.toNat_natCast,Array.getElem?_eq_none hi]
 refine wpAny_bind (wpAny_bind ?_)
 first | refine wpAny_typeNameOfWhole_keyiter ty (wpAny_pure ?_) | refine wpAny_typeNameOf_keyiter ty (wpAny_pure ?_)
 refine(show wpAny _ _ (setField (.ref I) 0 .none >>= _) _ _ z from wpAny_bind (wpAny_setField ho hd (by simp) ?_))
 refine(show wpAny _ _ (newExc (.type "StopIteration") [] >>= _) _ _ _ from wpAny_bind ?_)
 simp only[newExc,newTuple]
 refine wpAny_bind (wpAny_newObj_type (wpAny_bind (m:=firstArgMember _ _) (wpAny_of_eq (a:=Value.none) (by first | rfl | (simp only[firstArgMember];rfl)) (wpAny_newObj_type ?_ (by size_fits)))) (by size_fits))
 simp only[raiseNew]
 refine wpAny_bind (wpAny_handled ?_)
 rw[show B.in1.handled=none from hB]
 refine wpAny_bind (wpAny_pure (wpAny_throw ?_))
 refine wpAny_bind (wpAny_isInstance (T:="StopIteration") (b:=true) ⟨_,Heap.get?_push_size _ rfl,rfl⟩ isSubtype_stop ?_)
 exact wpAny_pure (k _ ((((Heap.SameBut.update ..).extBut).push _).push _))
end
end PySem
namespace PySem
open PySem.W
section
variable {P:Program} {w:World} {d:Addr} {es:Array DictEntry} {ep:Nat}
theorem vy {B:Around} (hB:B.handled=none) (I:Addr) (hne:d≠I):Walks P w B I [I,d] [I] es.size (λi v=>∃h:i < es.size,v=es[i].key) (λi h=>h.IsKeyIter I d i es.size ep/\YS h d es ep) where
 sub:=λb hb=>by simp at hb;simp [hb]
 frame:=λ_ _ _ st k=>⟨st.1.at λo e=>k I (by simp) o e,st.2.keep λo e=>k d (by simp) o e⟩
 item:=λi z R G hi st q=>yp st.1 st.2 hi λh' it' sb=>q _ h' z.toks ⟨hi,rfl⟩ ⟨it',st.2.keep λo e=>sb.extBut d o hne e⟩ λb o hb e=>sb.extBut b o (λx=>hb (by simp [x])) e
 done:=λz R G st q=>wW hB st.1 st.2 (Nat.le_refl _) λh' eb=>q h' z.toks λb o hb e=>eb b o (λx=>hb (by simp [x])) e
 self:=λ_ _ _ _ st q=>wpAny_pyIter_keyiter st.1 q
theorem wV (hd:(d==sysModules)=false):KdlSrc P w "dict" d d es.size (λi v=>∃h:i < es.size,v=es[i].key) (λh=>YS h d es ep) where
 type:=λz x=>x.ty
 there:=λh x=>let ⟨o,e,_⟩:=x;⟨Heap.lt_size e,Heap.lt_size e⟩
 keep:=λh h' x k=>x.keep λo e=>k d (.inl rfl) o e
 notList:=by decide
 notTuple:=by decide
 hint:=λ_ _ _ _ x q=>kdl_hint_dict x.ty q
 iter:=λA z hh x=>⟨_,_,λE Q q=>yq hd x q,vy hh _ (let ⟨o,e,_⟩:=x;Nat.ne_of_lt (Heap.lt_size e)),⟨⟨_,Heap.get?_push_size _ rfl,rfl,rfl⟩,x.keep λo e=>Heap.get?_push_of_some _ e⟩⟩
end
end PySem
namespace L2
open PySem PySem.Spec PySem.W PyProof.Rows
theorem Jh {α β:Type} {G:α->β->Prop}:∀{l:List α} {m:List β},Paired G l m->∀{i:Nat} {a:α},l[i]?=some a->∃b,m[i]?=some b/\G a b
 | _,_,.nil,i,a,e=>by simp at e
 | _,_,.cons r t,0,a,e=>by cases e;exact⟨_,rfl,r⟩
 | _,_,.cons r t,i+1,a,e=>by
   obtain⟨b,eb,g⟩:=Jh t (by simpa using e)
   exact⟨b,by simpa using eb,g⟩
section
variable {X:Cx}
def zc (k:Int×Int):List qD:=[Sum.inl k.1,Sum.inl k.2]
def K3:List V->Hp->VK->Prop:=λxs H Q=>∃(a:Addr) (kvs:List (List qD×V)) (ks:List (Int×Int)),xs=[.ref a]/\H a=some (.dT kvs)/\kvs.map (·.1)=ks.map zc/\(∀(i:Nat) (k k':Int×Int),ks[i]?=some k->ks[i+1]?=some k'->Ys k k')/\kvs.length<=1000/\
 ∀(l:Addr) (ps:List Addr),H l=none->ps.length=ks.length->(∀(i:Nat) (p:Addr) (k:Int×Int),ps[i]?=some p->ks[i]?=some k->H p=some (.tup [.int k.1,.int k.2]))->Q (.ref l) (upd H l (.lst (ps.map V.ref)))
theorem Wm:∀(ps:List Addr),qF (ps.map V.ref) (ps.map Value.ref)
 | []=>.nil
 | p::ps=>.cons rfl (Wm ps)
theorem V0 (hc:X.calm=true):Qe X (.builtin "sorted") K3:=by
 intro pins s σ H xs us Q I r h
 obtain⟨a,kvs,ks,rfl,ea,eks,hr,hz,q⟩:=h
 obtain⟨u,rfl,ru⟩:=Qv r
 cases ru
 obtain⟨_,hsys,ys,pr,o,es,ep,eo,ex,dat,ents,_⟩:=(show qH X.prog X.w H s.heap a (.dT kvs) from I.hok a _ ea)
 have ly:kvs.length=ys.length:=Paired.length pr
 have lk:kvs.length=ks.length:=by simpa using congrArg List.length eks
 have se:es.size=ys.length:=by rw[<-Array.length_toList,ents,List.length_map]
 have key:∀i (hi:i < es.size),es[i].key=.ref ((ys.map (·.2.1)).getD i 0):=λi hi=>by
   have e1:es.toList[i]?=some es[i]:=by simp [hi]
   have hy:i < ys.length:=by omega
   rw[ents,List.getElem?_map,List.getElem?_eq_getElem hy]at e1
   have e2:=(Option.some.inj e1).symm
   rw[e2]
   show Value.ref ys[i].2.1=_
   simp [hy]
 have tup:∀(i:Nat) (p:Addr) (k:Int×Int),(ys.map (·.2.1))[i]?=some p->ks[i]?=some k->H p=some (.tup [.int k.1,.int k.2]):=λi p k e1 e2=>by
   rw[List.getElem?_map]at e1
   cases ey:ys[i]? with
   | none=>rw[ey]at e1;cases e1
   | some y=>
     rw[ey]at e1
     have ep':y.2.1=p:=Option.some.inj e1
     have hi:i < kvs.length:=by
       have:=(List.getElem?_eq_some_iff.mp ey).1
       omega
     obtain⟨y',ey',g1,g2,_⟩:=Jh pr (List.getElem?_eq_getElem hi)
     rw[ey]at ey'
     cases ey'
     have ek:kvs[i].1=zc k:=by
       have h1:(kvs.map (·.1))[i]?=some kvs[i].1:=by rw[List.getElem?_map,List.getElem?_eq_getElem hi];rfl
       rw[eks,List.getElem?_map,e2]at h1
       exact(Option.some.inj h1).symm
     rw[ek,ep']at g2
     exact g2
 have hh:X.A.in1.handled=none:=I.ok.hd hc
 refine Calls.call_function_entry kind_sorted plain_sorted entry_sorted (args_sorted1 _) ?_
 unfold Builtin.«sorted»
 refine wpAny_bind (m:=checkCount "sorted" 1 1 _) (wpAny_pure ?_)
 refine wpAny_bind (kdu_collect (wV (es:=es) (ep:=ep) hsys) hh ⟨o,eo,ex,dat⟩ (by rw[se,sizeLine_eq];omega) λh1 tk acc k1 it=>?_)
 have eacc:acc.toList=(ys.map (·.2.1)).map Value.ref:=by
   refine List.ext_getElem? λi=>?_
   by_cases hi:i < es.size
   . have ha:i < acc.size:=by rw[it.1];exact hi
     have e1:acc[i]?=some acc[i]:=Array.getElem?_eq_getElem ha
     obtain⟨h',e2⟩:=it.2 i _ e1
     rw[Array.getElem?_toList,e1,e2,key i hi,List.getElem?_map]
     have hy:i < (ys.map (·.2.1)).length:=by rw[List.length_map];omega
     rw[List.getElem?_eq_getElem hy]
     simp [List.getD_eq_getElem?_getD,List.getElem?_eq_getElem hy]
   . rw[List.getElem?_eq_none (by rw[Array.length_toList,it.1];omega),List.getElem?_eq_none (by rw[List.length_map,List.length_map];omega)]
 rw[eacc]
 generalize hps:ys.map (·.2.1)=ps at eacc tup key
 have lp:ps.length=ks.length:=by rw[<-hps,List.length_map];omega
 refine wpAny_bind (wpAny_newList ?_)
 have I1:qx X pins σ H {s with heap:=h1,toks:=tk}:=I.kept (t':=tk) k1
 show wpAny _ _ _ _ _ {s with heap:=h1.push (seqObj "list" (ps.map Value.ref).toArray 0),toks:=tk}
 have oL:(h1.push (seqObj "list" (ps.map Value.ref).toArray 0)).get? h1.objs.size=some (seqObj "list" (ps.map Value.ref).toArray 0):=Heap.get?_push_size _ rfl
 have pa:∀(i:Nat) (v:Value) (k:Int×Int),(ps.map Value.ref)[i]?=some v->ks[i]?=some k->Jq (h1.push (seqObj "list" (ps.map Value.ref).toArray 0)) v k:=λi v k e1 e2=>by
   rw[List.getElem?_map]at e1
   cases ep1:ps[i]? with
   | none=>rw[ep1]at e1;cases e1
   | some p=>
     rw[ep1]at e1
     obtain rfl:=(Option.some.inj e1).symm
     obtain⟨its,rv,⟨ob,eb,cb,nb,db⟩,_⟩:=I1.tuple (.of (tup i p k ep1 e2):SqT X.K H p _)
     cases rv with
     | cons r1 rv=>
       cases rv with
       | cons r2 rv=>
         cases rv
         obtain⟨t1,rfl⟩:=r1
         obtain⟨t2,rfl⟩:=r2
         exact⟨p,ob,nb,t1,t2,rfl,Heap.get?_push_of_some _ eb,cb,db⟩
 refine wpAny_bind (wpAny_holding (wpAny_call_entry slot_list_sort ⟨_,oL,rfl⟩ entry_list_sort (vk oL (by rw[List.length_map];exact lp) pa hr (by rw[List.length_map];omega) ⟨_,rfl,?_⟩) (args_list_sort _)))
 refine wpAny_pure ⟨_,rfl,?_⟩
 have lne:∀b o,h1.get? b=some o->b≠h1.objs.size:=λb o e=>Nat.ne_of_lt (Heap.lt_size e)
 have kf:∀b o,h1.get? b=some o->(sortedHeap (h1.push (seqObj "list" (ps.map Value.ref).toArray 0)) h1.objs.size (ps.map Value.ref) (ps.map Value.ref).toArray).get? b=some o:=λb o e=>by
   unfold sortedHeap
   rw[Heap.get?_update_other _ _ (Ne.symm (lne b o e))]
   exact Heap.get?_push_of_some _ (Heap.get?_push_of_some _ ((Heap.get?_update_other _ _ (Ne.symm (lne b o e))).trans (Heap.get?_push_of_some _ e)))
 obtain⟨c2,o2⟩:∃c,((h1.push (seqObj "list" (ps.map Value.ref).toArray 0)).update h1.objs.size (Obj.mapSeq λ_=>#[])).get? h1.objs.size=some (seqObj "list" #[] c):=⟨_,get?_update_seq oL (λ_=>#[])⟩
 obtain⟨c3,o3⟩:∃c,(sortedHeap (h1.push (seqObj "list" (ps.map Value.ref).toArray 0)) h1.objs.size (ps.map Value.ref) (ps.map Value.ref).toArray).get? h1.objs.size=some (seqObj "list" (ps.map Value.ref).toArray c):=
   ⟨_,get?_update_seq (Heap.get?_push_of_some _ (Heap.get?_push_of_some _ o2)) (λ_=>(ps.map Value.ref).toArray)⟩
 refine⟨.ref h1.objs.size,_,I1.laid (t':=tk) (o:=.lst (ps.map V.ref)) kf (Nat.le_refl _) ⟨by rw[List.length_map,lp,<-lk];exact Nat.le_of_lt (qo hz),_,c3,Wm ps,o3⟩,rfl,?_⟩
 exact q _ ps (I1.hok.fresh (Nat.le_refl _)) lp tup
end
end L2
set_option Elab.async false
set_option linter.all false
set_option maxRecDepth 100000
set_option maxHeartbeats 4000000
namespace L2
open PySem PySem.Spec PySem.W PyProof.Rows
section
variable {X:Cx}
def Mi:V->Option Int->Option Int->Hp->VK->Prop:=λx lo hi H Q=>∃(z:Str) (j:Int),x=.str z/\lo=none/\hi=some j/\z.length<=1000/\Q (.str (Txt.slice z none (some j))) H
theorem k7:NE X Mi:=by
 intro pins s σ H x v vl vu lo hi sl Q I rx hs pl pu h
 obtain⟨z,j,rfl,rfl,rfl,hz,q⟩:=h
 obtain⟨t,rfl⟩:=rx
 refine⟨"str",_,PySem.F.slot_str_getitem.lookup,typeIs_str _ _ _,?_⟩
 cases pl
 cases pu
 exact wpAny_getItem_str_slice (l:=none) (u:=some (j,_)) (st:=none) hs rfl (post_val_or_str ⟨Nat.le_trans (Txt.slice_le z none (some j)) (Nat.le_of_lt (qo hz)),λt' k=>⟨.str _,H,I.tok k,⟨t',rfl⟩,q⟩⟩)
theorem zU (z:Str) (j:Nat):(Txt.slice z none (some (j:Int))).cps.toList=z.cps.toList.take j:=by
 have hl:z.cps.toList.length=z.length:=Array.length_toList
 have idx:Builtin.Str.strSliceIndices none (some (j:Int)) 1 z.length=(List.range (min j z.length)).map (0+·):=by
   have e:Builtin.Str.strSliceIndices none (some (j:Int)) 1 z.length=sliceRange ((0:Nat):Int) ((min j z.length:Nat):Int) 1:=by
     unfold Builtin.Str.strSliceIndices
     simp only[show (1:Int) > 0 by decide,if_true,show ¬((j:Int) < 0) by omega,if_false]
     congr 1
     omega
   rw[e,sliceRange_one]
   rfl
 unfold Txt.slice
 rw[idx]
 split
 . rename_i h
   have hm:min j z.length=z.length:=by simpa using h
   rw[List.take_of_length_le]
   omega
 . rw[pick_run]
   show (z.cps.toList.drop 0).take (min j z.length)=_
   rw[List.drop_zero]
   by_cases hj:j<=z.length
   . rw[Nat.min_eq_left hj]
   . rw[Nat.min_eq_right (by omega),List.take_of_length_le (by omega),List.take_of_length_le (by omega)]
def Kh (n:Nat):List V:=(List.range n).map λi=>V.int (i:Nat)
def tLr (te:TE):TE:=λσ H Q=>te σ H λx H1=>∃n:Nat,x=.int n/\n<=1000/\∀l,H1 l=none->Q (.ref l) (upd H1 l (.lst (Kh n)))
theorem wl {n:Nat} {acc:Array Value} (h:ItemsOf (λi v=>∃t,v=.int (0+i*1) t) acc n):qF (Kh n) acc.toList:=by
 obtain⟨hz,hv⟩:=h
 refine vC _ _ (by simp [Kh,hz]) λi x u h1 h2=>?_
 have h2':acc[i]?=some u:=by simpa using h2
 obtain⟨t,rfl⟩:=hv i u h2'
 have hi:i < n:=by
   have:=(Array.getElem?_eq_some_iff.mp h2').1
   omega
 unfold Kh at h1
 rw[List.getElem?_map,List.getElem?_range hi]at h1
 obtain rfl:=(Option.some.inj h1).symm
 refine⟨t,?_⟩
 congr 1
 omega
variable {e:Expr} {te:TE} {p1 p3 pos1 pos3:Pos}
theorem Nu (hc:X.calm=true) (g1:Gl X "list") (m1:X.mg "list"=none) (g3:Gl X "range") (m3:X.mg "range"=none) (ha:JE X e te) (hs:starEach [e] X.env=[(false,eval e X.env)]:=by rfl) (hs2:starEach [.Call (.Name "range" p3) [e] [] pos3] X.env=[(false,eval (.Call (.Name "range" p3) [e] [] pos3) X.env)]:=by rfl):JE X (.Call (.Name "list" p1) [.Call (.Name "range" p3) [e] [] pos3] [] pos1) (tLr te):=.of (by
 have ha:=ha.to
 intro pins s σ H Q I h
 refine Call_ (QW I g1 m1 boot_list (PyProof.Rows.callWith_type1 (kR hs2 ?_) (by rw[hs2];rfl) rfl))
 refine Call_ (QW I g3 m3 boot_range (PyProof.Rows.callWith_type1 (kR hs (jf (ha pins s σ H _ I h) λu s1 ⟨x,H1,I1,r1,q1⟩=>?_)) (by rw[hs];rfl) rfl))
 obtain⟨n,rfl,hn,q⟩:=q1
 obtain⟨t,rfl⟩:=r1
 refine call_range_1 ?_
 refine call_list_range (n:=n) (I1.ok.hd hc) (IsRange.new ..) (small_one (by omega) (by omega) (by omega) (by omega)) (Ux n) (by omega) λh' tk acc' c' kp e hi=>?_
 have s1z:s1.heap.objs.size<=(s1.heap.push ({cls:=.type "range",data:=.fields #[.int 0 s1.toks,.int n t,.int 1 (s1.toks+1)]}:Obj)).objs.size:=by
   rw[Heap.size_push]
   omega
 exact⟨.ref _,_,I1.laid (t':=tk) (o:=.lst (Kh n)) (λb o eb=>kp b o (Heap.get?_push_of_some _ eb)) s1z ⟨by simp only[Kh,List.length_map,List.length_range];exact Nat.le_of_lt (qo hn),acc'.toList,c',wl hi,by simpa using e⟩,rfl,q _ (I1.hok.fresh s1z)⟩)
theorem kC (hc:X.calm=true):Qe X (.type "set") (λxs H Q=>∃(p:Addr) (ns:List Int),xs=[.ref p]/\SqL X.K H p (ns.map V.int)/\ns.length<=1000/\∀l S,H l=none->Q (.ref l) (upd H l (.set S (firstMet (λi=>ns.getD i 0) ns.length).length))):=by
 intro pins s σ H xs us Q I r h
 obtain⟨p,ns,rfl,hq,hz,q⟩:=h
 obtain⟨u,rfl,ru⟩:=Qv r
 cases ru
 obtain⟨its,rv,pl,_⟩:=I.list hq
 have hl:=rv.length
 rw[List.length_map]at hl
 have hsz:its.toArray.size=ns.length:=by rw[List.size_toArray,<-hl]
 refine call_set_list (ns:=ns) (I.ok.hd hc) pl.isList (by simpa using VS rv) (by rw[hsz];show ns.length+1 < 4096;omega) λh' tk so kp=>?_
 rw[hsz]at so
 exact⟨.ref s.heap.objs.size,_,I.laid (t':=tk) (o:=.set _ _) (λb o e=>kp b o (Heap.lt_size e) e) (Nat.le_refl _) so,rfl,q _ _ (I.hok.fresh (Nat.le_refl _))⟩
theorem W5:Qe X (.builtin "len") (λxs H Q=>∃a S n,xs=[V.ref a]/\H a=some (.set S n)/\Q (.int (n:Nat)) H):=by
 intro pins s σ H xs us Q I r h
 obtain⟨a,S,n,rfl,ea,q⟩:=h
 obtain⟨u,rfl,ru⟩:=Qv r
 cases ru
 obtain⟨o,es,ep,t,e1,e2,e3,_,_,b,f,rfl⟩:=(show qH X.prog X.w H s.heap a (.set S n) from I.hok a _ ea)
 refine call_len_set e1 e2 e3 f (by have:es.size < 4096:=b;omega) ⟨.int _,H,I.tok _,⟨_,rfl⟩,q⟩
end
end L2
set_option Elab.async false
set_option linter.all false
set_option maxRecDepth 100000
set_option maxHeartbeats 4000000
namespace L2
open PySem PySem.Spec PyProof.Rows
def RA (K:PySem.W.Frag) (a:Addr):It:=⟨λi H=>∃xs x,SqL K H a xs/\xs[i]?=some x,
 λi H v H'=>∃p,H p=none/\v=.ref p/\∀xs x,SqL K H a xs->xs[i]?=some x->H'=upd H p (.tup [.int (i:Nat),x]),
 λi H=>∃xs,SqL K H a xs/\xs.length<=i⟩
theorem vd {P:Program} {w:World} {K:PySem.W.Frag} {elts:List Expr} {x1:Nat} {tpos:Pos} (a e it:Addr) (hne:e≠it):
   W8 P w K (.Tuple elts x1 tpos) (RA K a) [e,it] e (λi h=>(∃old,IsEnum h e it i old)/\h.IsListIter it a i) where
 mem:=by simp
 obj:=λi h st c hc=>by
   obtain⟨⟨old,he⟩,⟨o1,e1,c1,d1⟩⟩:=st
   simp only[List.mem_cons,List.mem_nil_iff,or_false]at hc
   rcases hc with rfl | rfl
   . exact⟨_,he,λv z=>by cases z⟩
   . exact⟨o1,e1,λv z=>by rw[d1]at z;cases z⟩
 keep:=λi h h' st k=>by
   obtain⟨⟨old,he⟩,h1⟩:=st
   exact⟨⟨old,k e (by simp) _ he⟩,h1.at λo e=>k it (by simp) o e⟩
 item:=by
   intro X hP hw hK hc i pins s σ H E I hf st hg
   subst hP hw hK
   obtain⟨⟨old,he⟩,h1⟩:=st
   obtain⟨xs,x,qa,hx⟩:=hg
   obtain⟨its,rv,p,_⟩:=I.list qa
   obtain⟨u,hu,ru⟩:=rv.get hx
   refine wpAny_pyNext_enum_item he h1 p.isList (x:=u) (by simpa using hu) hne λh' z1 z2 z3 z4 kk=>⟨_,rfl,?_⟩
   refine wpAny_letOwnedTupleGo_enum z1 λh'' z1' sb=>?_
   have nT:∀c o,s.heap.get? c=some o->s.heap.objs.size≠c:=λc o e=>Nat.ne_of_gt (Heap.lt_size e)
   have kT:∀c o,c≠e->h'.get? c=some o->h''.get? c=some o:=λc o hc e=>(sb.2 c hc).trans e
   have I1:qx X pins σ (upd H s.heap.objs.size (.tup [.int (i:Nat),x])) {s with heap:=h'',toks:=s.toks+1}:=I.turnLaid (L:=[e,it]) (t':=s.toks+1)
     (λc o hc e=>kT c o (λz=>hc (by simp [z])) (kk c o (λz=>hc (by simp [z])) (λz=>hc (by simp [z])) e)) hf (Nat.le_refl _)
     ⟨by show 2<=sizeLine;decide,[.int i s.toks,u],.cons ⟨_,rfl⟩ (.cons ru .nil),⟨_,kT _ _ (nT _ _ he) z3,rfl,_,rfl⟩⟩
   refine⟨.ref s.heap.objs.size,_,I1,rfl,⟨s.heap.objs.size,I.hok.fresh (Nat.le_refl _),rfl,λxs' x' qa' hx'=>?_⟩,⟨⟨_,z1'⟩,z2.at λo e=>kT _ o (Ne.symm hne) e⟩,λc hc=>?_⟩
   . rw[I.list_inj qa' qa,hx]at hx'
     cases hx'
     rfl
   . have h0:=(hf c hc).1
     by_cases ec:c=s.heap.objs.size
     . subst ec
       obtain⟨o1,e1,_⟩:=h1
       simp only[List.mem_cons,List.mem_nil_iff,or_false]at hc
       rcases hc with e | e
       . exact absurd e (nT _ _ he)
       . exact absurd e (nT _ _ e1)
     . rw[qg ec];exact h0
 done:=by
   intro X hP hw hK hc i pins s σ H E I hf st hg
   subst hP hw hK
   obtain⟨⟨old,he⟩,h1⟩:=st
   obtain⟨xs,qa,hl⟩:=hg
   obtain⟨its,rv,p,_⟩:=I.list qa
   have l1:=rv.length
   exact wpAny_pyNext_enum_end (I.ok.hd hc) he h1 p.isList (by simp;omega) λh' kk=>⟨rfl,I.turnedL (L:=[e,it]) (t':=s.toks) (λc o hc e=>kk c o (λz=>hc (by simp [z])) e) hf⟩
 self:=λ_ _ _ _ _ st h=>let ⟨⟨_,he⟩,_⟩:=st;wpAny_pyIter_enum he h
section
variable {X:Cx} {elts:List Expr} {x1:Nat} {tpos:Pos}
def Nx (K:PySem.W.Frag) (ta:TA):TI:=λσ H R=>ta σ H λvs H1=>∃a,vs=[.ref a]/\(∃xs,SqL K H1 a xs)/\R (RA K a) H1
theorem X5 {a:Expr} {ta:TA} {p pos:Pos} (hg:Gl X "enumerate") (hm:X.mg "enumerate"=none) (ha:JA X [a] ta) (hs:starEach [a] X.env=[(false,eval a X.env)]:=by rfl):JI X (.Tuple elts x1 tpos) (.Call (.Name "enumerate" p) [a] [] pos) (Nx X.K ta):=.of (by
 have ha:=ha.to
 intro pins s σ H R I h
 refine Call_ (QW I hg hm boot_enumerate (PyProof.Rows.callWith_type1 (jf (ha pos pins s σ H _ I h) λus s1 ⟨vs,H1,I1,r1,q1⟩=>?_) (by rw[hs];rfl) rfl))
 obtain⟨l,e,⟨xs,qa⟩,q⟩:=q1
 subst e
 cases r1 with
 | cons r rr=>
   cases rr
   cases r
   obtain⟨its,rv,p,_⟩:=I1.list qa
   refine call_enumerate_list p.isList λh' z1 z2 z3 kk=>?_
   refine wpAny_pyIter_enum z1 ?_
   have I2:qx X pins σ H1 {s1 with heap:=h'}:=I1.kept (t':=s1.toks) kk
   have fr:∀c,s1.heap.objs.size<=c->Zq X pins H1 c:=λc hc=>I1.fpOk hc (I1.hok.fresh hc)
   refine⟨s1.heap.objs.size+1,[s1.heap.objs.size+1,s1.heap.objs.size],_,_,H1,rfl,I2,vd l (s1.heap.objs.size+1) s1.heap.objs.size (Nat.succ_ne_self _),⟨⟨_,z1⟩,z2⟩,λc hc=>?_,q⟩
   simp only[List.mem_cons,List.mem_nil_iff,or_false]at hc
   rcases hc with e | e<;>rw[e]<;>first | exact fr _ (Nat.le_add_right _ _) | exact fr _ (Nat.le_refl _))
end
theorem WW {K:PySem.W.Frag} {a:Addr} {xs:List V} {g:TG} {tb:TS} {D:Qu} {σ:St} {H:Hp} (Pv:Nat->St->Hp->Prop) (h0:Pv 0 σ H) (hl:∀i σ H,i<=xs.length->Pv i σ H->SqL K H a xs)
   (hs:∀i x σ H p,xs[i]?=some x->H p=none->Pv i σ H->g (.ref p) σ (upd H p (.tup [.int (i:Nat),x])) λσ2 H2=>tb {D with nx:=Pv (i+1),ct:=Pv (i+1),bk:=D.nx} σ2 H2) (hd:∀σ H,Pv xs.length σ H->D.nx σ H):
   ∃W:Nat->Nat->St->Hp->Prop,(∃m,W 0 m σ H)/\∀i m σ H,W i m σ H->
    ((RA K a).stop i H/\D.nx σ H)\/((RA K a).go i H/\∃N:St->Hp->Prop,(∀σ' H',N σ' H'->∃m',m' < m/\W (i+1) m' σ' H')/\∀x H',(RA K a).yld i H x H'->g x σ H' λσ2 H2=>tb {D with nx:=N,ct:=N,bk:=D.nx} σ2 H2):=by
 refine⟨λi m σ H=>m=xs.length - i/\i<=xs.length/\Pv i σ H,⟨xs.length,by simp,Nat.zero_le _,h0⟩,?_⟩
 rintro i m σ H ⟨rfl,hi,p⟩
 have qa:=hl i σ H hi p
 by_cases hlt:i < xs.length
 . have ex:xs[i]?=some xs[i]:=List.getElem?_eq_getElem hlt
   refine .inr ⟨⟨xs,_,qa,ex⟩,Pv (i+1),λσ' H' p'=>⟨xs.length - (i+1),by omega,rfl,hlt,p'⟩,λx H' yl=>?_⟩
   obtain⟨pp,hp,rfl,e⟩:=yl
   rw[e xs _ qa ex]
   exact hs i _ σ H pp ex hp p
 . have e:i=xs.length:=by omega
   subst e
   exact .inl ⟨⟨xs,qa,Nat.le_refl _⟩,hd σ H p⟩
theorem JD (ns:List Nat):∀i,i<=ns.length->preSum (λj=>((ns.getD j 0:Nat):Int)) i=(((ns.take i).sum:Nat):Int)
 | 0,_=>by simp [preSum]
 | i+1,h=>by
   have hi:i < ns.length:=h
   show preSum _ i+_=_
   rw[JD ns i (Nat.le_of_lt hi),List.take_add_one,List.getElem?_eq_getElem hi,List.sum_append]
   simp [List.getD_eq_getElem?_getD,List.getElem?_eq_getElem hi]
theorem za (ns:List Nat) (i:Nat):(ns.take i).sum<=ns.sum:=by
 have h:(ns.take i++ns.drop i).sum=ns.sum:=by rw[List.take_append_drop]
 rw[List.sum_append]at h
 omega
theorem WU (ns:List Nat) (i:Nat):ns.getD i 0<=ns.sum:=by
 have h:=za ns (i+1)
 rw[List.take_add_one,List.sum_append]at h
 rw[List.getD_eq_getElem?_getD]
 cases e:ns[i]? with
 | none=>exact Nat.zero_le _
 | some x=>
   rw[e]at h
   simp at h ⊢
   omega
section
variable {X:Cx}
theorem kB (hc:X.calm=true):Qe X (.builtin "sum") (λxs H Q=>∃(p:Addr) (ns:List Nat),xs=[.ref p]/\SqL X.K H p (ns.map λn=>V.int ((n:Nat):Int))/\ns.sum < 2^62/\Q (.int (ns.sum:Nat)) H):=by
 intro pins s σ H xs us Q I r h
 obtain⟨p,ns,rfl,hq,hs,q⟩:=h
 obtain⟨u,rfl,rx⟩:=Qv r
 cases rx
 obtain⟨its,rv,pl,hz⟩:=I.list hq
 have hlt:p < s.heap.objs.size:=by
   obtain⟨o,n,e,_⟩:=pl
   exact Heap.lt_size e
 have hn:its.toArray.size=ns.length:=by
   have:=rv.length
   rw[List.length_map]at this
   simp only[List.size_toArray]
   omega
 have hh:X.A.in1.handled=none:=I.ok.hd hc
 refine call_sum_walk (wpAny_pyIter_list pl.isList ?_)
 refine⟨s.heap.objs.size,[s.heap.objs.size,p],[s.heap.objs.size],its.toArray.size,λi v=>its.toArray[i]?=some v,_,λj=>((ns.getD j 0:Nat):Int),rfl,Walks.list hh s.heap.objs.size p (Nat.ne_of_lt hlt) its.toArray,
   ⟨⟨_,Heap.get?_push_size _ rfl,rfl,rfl⟩,pl.isList.at λo e=>Heap.get?_push_of_some _ e⟩,?_,?_,?_,λh' tk t' hk=>?_⟩
 . intro b hb
   show b < (s.heap.push _).objs.size
   rw[Heap.size_push]
   simp only[List.mem_cons,List.mem_nil_iff,or_false]at hb
   rcases hb with e | e
   . rw[e];exact Nat.lt_succ_self _
   . rw[e];exact Nat.lt_succ_of_lt hlt
 . intro i v hP
   have hi:its[i]?=some v:=by simpa using hP
   cases e:ns[i]? with
   | none=>
     exfalso
     have h1:(ns.map λn=>V.int ((n:Nat):Int))[i]?=none:=by rw[List.getElem?_map,e];rfl
     rw[qF.none_of rv h1]at hi
     cases hi
   | some b=>
     have h1:(ns.map λn=>V.int ((n:Nat):Int))[i]?=some (V.int b):=by rw[List.getElem?_map,e];rfl
     obtain⟨u,hu,ru⟩:=rv.get h1
     rw[hi]at hu
     cases hu
     obtain⟨t,rfl⟩:=ru
     refine⟨t,?_⟩
     show Value.int b t=.int ((ns.getD i 0:Nat):Int) t
     rw[List.getD_eq_getElem?_getD,e]
     rfl
 . intro j hj
   rw[hn]at hj
   have h1:=WU ns j
   have h2:=za ns (j+1)
   have h3:=JD ns (j+1) hj
   refine⟨⟨?_,?_⟩,⟨?_,?_⟩⟩
   . show -(2^63)<=((ns.getD j 0:Nat):Int)
     omega
   . show ((ns.getD j 0:Nat):Int) < 2^63
     omega
   . rw[h3];omega
   . rw[h3];omega
 . rw[hn,JD ns _ (Nat.le_refl _),List.take_of_length_le (Nat.le_refl _)]
   refine⟨.int (ns.sum:Nat),H,?_,⟨_,rfl⟩,q⟩
   exact I.kept (h':=h') (t':=tk) λb o e=>hk b o (by
     intro z
     have z':b=s.heap.objs.size:=by simpa using z
     exact absurd (Heap.lt_size e) (by rw[z'];exact Nat.lt_irrefl _)) (Heap.get?_push_of_some _ e)
end
end L2
set_option Elab.async false
set_option linter.all false
set_option maxRecDepth 100000
set_option maxHeartbeats 4000000
namespace L2
open PySem PySem.Spec PyProof.Rows
section
variable {X:Cx} {pins:List (Addr×Obj)} {σ:St} {H:Hp} {s:Shared} {a b:Addr} {kvs more:List (qD×V)} {A:Around} {E:Value->Shared->Prop}
end
section
variable {X:Cx} {o e:Expr} {apos cpos:Pos} {td ty:TE}
end
theorem MB {us:List Value} (h:us.length=0):us=[]:=List.eq_nil_of_length_eq_zero h
theorem uA {us:List Value} {n:Nat} (h:us.length=n+1):∃a r,us=a::r/\r.length=n:=by
 cases us with
 | nil=>cases h
 | cons a r=>exact⟨a,r,rfl,Nat.succ.inj h⟩
theorem Qt {us:List Value} (h:us.length=1):∃a,us=[a]:=by
 obtain⟨a,r,rfl,h'⟩:=uA h
 exact⟨a,by rw[MB h']⟩
theorem JJ {us:List Value} (h:us.length=2):∃a b,us=[a,b]:=by
 obtain⟨a,r,rfl,h'⟩:=uA h
 obtain⟨b,rfl⟩:=Qt h'
 exact⟨a,b,rfl⟩
theorem VO {us:List Value} (h:us.length=3):∃a b c,us=[a,b,c]:=by
 obtain⟨a,r,rfl,h'⟩:=uA h
 obtain⟨b,c,rfl⟩:=JJ h'
 exact⟨a,b,c,rfl⟩
theorem uB {us:List Value} (h:us.length=4):∃a b c d,us=[a,b,c,d]:=by
 obtain⟨a,r,rfl,h'⟩:=uA h
 obtain⟨b,c,d,rfl⟩:=VO h'
 exact⟨a,b,c,d,rfl⟩
end L2
set_option Elab.async false
set_option linter.all false
set_option maxRecDepth 100000
set_option maxHeartbeats 4000000
namespace L2
open PySem PySem.Spec PyProof.Rows
abbrev Cx.suite (X:Cx) (a:Value) (E:Value->Shared->Prop):Cx:={X with A:=X.A.mark (some a),calm:=false,xe:=E}
abbrev Cx.tried (X:Cx) (pn:List (Addr×Obj)) (E:Value->Shared->Prop):Cx:={X with xe:=E,pn:=pn}
section
variable {X:Cx} {pins:List (Addr×Obj)} {σ:St} {H:Hp} {s:Shared} {E:Value->Shared->Prop} {a:Value}
theorem Cx.Ok.suite (o:X.Ok) (a:Value) (E:Value->Shared->Prop):(X.suite a E).Ok:=⟨o.mod,o.kind,o.glob,o.blt,o.above,o.inj,o.has,o.cab,λz=>Bool.noConfusion z,o.frames,o.stk,o.exf,o.bs,o.bsz,o.noex,o.exfs,o.funs,o.frf⟩
theorem Cx.Ok.tried (o:X.Ok) (pn:List (Addr×Obj)) (E:Value->Shared->Prop):(X.tried pn E).Ok:=⟨o.mod,o.kind,o.glob,o.blt,o.above,o.inj,o.has,o.cab,o.hd,o.frames,o.stk,o.exf,o.bs,o.bsz,o.noex,o.exfs,o.funs,o.frf⟩
theorem qx.suite (I:qx X pins σ H s) (a:Value) (E:Value->Shared->Prop):qx (X.suite a E) pins σ H s:=⟨I.ok.suite a E,I.os,I.bare,I.base,I.loc,I.cell,I.free,I.freeC,I.pin,I.hok,I.len⟩
theorem qx.unsuite {σ0:St} {H0:Hp} {s0:Shared} (I0:qx X pins σ0 H0 s0) (I:qx (X.suite a E) pins σ H s):qx X pins σ H s:=⟨I0.ok,I.os,I.bare,I.base,I.loc,I.cell,I.free,I.freeC,I.pin,I.hok,I.len⟩
theorem qx.tried (I:qx X pins σ H s) (E:Value->Shared->Prop):qx (X.tried (X.pn++pins) E) [] σ H s:=⟨I.ok.tried _ E,I.os,I.bare,I.base,I.loc,I.cell,I.free,I.freeC,λp hp=>I.pin p (by simpa using hp),I.hok,I.len⟩
theorem qx.untried {pins':List (Addr×Obj)} {σ0:St} {H0:Hp} {s0:Shared} (I0:qx X pins σ0 H0 s0) (I:qx (X.tried (X.pn++pins) E) pins' σ H s):qx X pins σ H s:=⟨I0.ok,I.os,I.bare,I.base,I.loc,I.cell,I.free,I.freeC,λp hp=>I.pin p (List.mem_append_left _ hp),I.hok,I.len⟩
theorem zK {M:Model} {A:Around} {F:Value->Shared->Prop} {i:Nat} {x:Str} {pos:Pos} {Q:Unit->Shared->Prop} (I:qx X pins σ H s) (hN:X.N.Nodup) (hi:X.N[i]?=some x) (hk:X.env.scope.names.lookup x=some .local)
   (h:∀s',qx X pins (σ.set i none) H s'->Q () s'):wpAny M A (do bindName X.env x .none;unbindBehindTheSuite X.env x pos) Q F s:=by
 obtain⟨m,hn,hl⟩:=id I.loc
 have hcls:(X.env.scope.kind==.class || (X.env.scope.kind==.module&&X.env.locals != X.env.globals))=false:=by rw[I.ok.kind];rfl
 have hiσ:i < σ.length:=by rw[I.len];exact(List.getElem?_eq_some_iff.mp hi).1
 have cne:=I.cne
 have tracked:∀{a:Addr} {h':Heap},(∃o,s.heap.get? a=some o/\H a=none)->Heap.SameBut a s.heap h'->Jd X.prog X.w H h':=λ{a h'} ha hs b ob e=>by
   obtain⟨_,_,hfree⟩:=ha
   refine(I.hok b ob e).stay (λc w' hc q=>(hs.2 c ?_).trans q) (λ_ q=>q) λ_ _ q=>q
   rintro rfl
   rcases hc with rfl | hc
   . rw[hfree]at e;cases e
   . rw[hfree]at hc;cases hc
 refine wpAny_nameGoes_keeps hk hn hcls λh' v0 hn' hs=>?_
 obtain⟨oL,_,_,hoL,_⟩:=id hn
 refine h _ ⟨I.ok,I.os,I.bare,⟨λb o e n hb hx=>?_,λb o e n hb hx=>?_,I.base.free,λb o e hx=>?_,I.base.tups,I.base.frzs,I.base.tbls⟩,⟨_,hn',λj y v' e1 e2 e3=>?_⟩,λy c e=>?_,I.free,I.freeC,λp hp=>?_,tracked ⟨oL,hoL,I.free⟩ hs,by simpa using I.len⟩
 . exact(hs.2 b (Nat.ne_of_lt (Nat.lt_of_lt_of_le (Heap.lt_size e) I.ok.above))).trans (I.base.keep b o e n hb hx)
 . obtain⟨sl,e1⟩:=I.base.slot b o e n hb hx
   exact⟨sl,(hs.2 b (Nat.ne_of_lt (Nat.lt_of_lt_of_le (Heap.lt_size e) I.ok.above))).trans e1⟩
 . obtain⟨o',e1⟩:=I.base.there b o e hx
   exact⟨o',(hs.2 b (Nat.ne_of_lt (Nat.lt_of_lt_of_le (Heap.lt_size e) I.ok.above))).trans e1⟩
 . by_cases hj:j=i
   . subst hj
     rw[List.getElem?_set_self hiσ]at e2
     cases e2
   . rw[List.getElem?_set_ne (Ne.symm hj)]at e2
     obtain⟨u',r',q⟩:=hl j y v' e1 e2 e3
     refine⟨u',r',?_⟩
     rcases q with ⟨k,e⟩ | ⟨k,c,e,z⟩
     . refine .inl ⟨k,?_⟩
       have:y≠x:=λe=>hj (Yp hN e1 (e▸hi))
       simp [this,e]
     . exact .inr ⟨k,c,e,z.sameBut hs (cne y c e)⟩
 . obtain⟨w',z⟩:=I.cell y c e
   exact⟨w',z.sameBut hs (cne y c e)⟩
 . obtain⟨e,n,ne,nf,d⟩:=I.pin p hp
   exact⟨(hs.2 p.1 ne).trans e,n,ne,nf,d⟩
end
abbrev TH:=Addr->Addr->Addr->TS
def PH (X:Cx) (hs:List ExceptHandler) (t:TH):Prop:=
 ∀(pins:List (Addr×Obj)) (s:Shared) (σ:St) (H:Hp) (D:Qu) (a C dx T:Addr),qx X pins σ H s->H a=some (QY a C dx (.ref T))->H T=some (x5 T .none)->t C a dx D σ H->
   wpAny (model X.prog X.w) X.A (handleBy (.ref a) X.env hs) (SP X pins D) X.xe s
def xF:TH:=λ_ _ _ _ _ _=>False
theorem vQ {X:Cx} {hs:List ExceptHandler}:PH X hs xF:=λ_ _ _ _ _ _ _ _ _ _ _ _ h=>h.elim
def Qu.gone (D:Qu) (j:Nat):Qu:={nx:=λσ H=>D.nx (σ.set j none) H,rt:=D.rt,bk:=λσ H=>D.bk (σ.set j none) H,ct:=λσ H=>D.ct (σ.set j none) H}
def Ue (K:PySem.W.Frag) (Cl:Addr) (j:Nat) (ts:TS) (tr:TH):TH:=λC a dx D σ H=>∃f bm,NJ K C f bm/\
 if (Value.ref C::bm).contains (.ref Cl)=true then ts (D.gone j) (σ.set j (some (.ref a))) H else tr C a dx D σ H
def Kf (K:PySem.W.Frag) (C:Addr):Prop:=∃bm,(∃nm q N bs hdct sn sub ab col dd k0 k1 k2 k3 k5,K.lookup C=some (excClassObj nm q C N bs bm hdct sn sub ab col dd k0 k1 k2 k3 k5 "ValueError.__new__"))/\bm.contains (.type "BaseException")=true
theorem VZ {X:Cx} {x n:Str} {p pos:Pos} {j:Nat} {b₀:Stmt} {suite:List Stmt} {rest:List ExceptHandler} {ts:TS} {tr:TH} {Cl:Addr} (hg:Gl X x) (hm:X.mg x=some (.ref Cl)) (hD:Kf X.K Cl) (hN:X.N.Nodup) (hj:X.N[j]?=some n)
   (hl:X.env.scope.names.lookup n=some .local) (hs:∀v E,wa (X.suite v E) (b₀::suite) ts) (hr:PH X rest tr) (hdb:(x==("__debug__":Str))=false:=by decide):PH X (.ExceptHandler (some (.Name x p)) (some n) (b₀::suite) pos::rest) (Ue X.K Cl j ts tr):=by
 intro pins s σ H D a C dx T I ha hT h
 obtain⟨f,bm,em,h⟩:=h
 obtain⟨bm',em',hB⟩:=hD
 refine wpAny_handleBy_cons (codeAny_handlers_test ?_) (by intro q;cases q)
 refine wpAny_mono (UB (X:=X.suite (.ref a) _) (v:=.ref Cl) hg hm rfl hdb pins s σ H (λv H'=>v=.ref Cl/\H'=H) (I.suite _ _) ⟨rfl,rfl⟩) (λc s₁ q=>?_) (λ_ _ z=>z)
 obtain⟨v,H',I1,rv,rfl,rfl⟩:=q
 obtain rfl:c=Value.ref Cl:=rv
 have I2:qx X pins σ H' s₁:=I.unsuite I1
 obtain⟨nm,q,N,bs,hdct,sn,sub,ab,col,dd,k0,k1,k2,k3,k5,hC⟩:=em.obj
 obtain⟨nm',q',N',bs',hdct',sn',sub',ab',col',dd',k0',k1',k2',k3',k5',hC'⟩:=em'
 obtain⟨⟨fl,he,hz⟩,_,_⟩:=(show qH X.prog X.w H' s₁.heap a (QY a C dx (.ref T)) from I2.hok a _ ha)
 obtain⟨st,_,_⟩:=(show qH X.prog X.w H' s₁.heap T (x5 T .none) from I2.hok T _ hT)
 have gC:=I2.kIn _ _ hC
 have gD:=I2.kIn _ _ hC'
 obtain⟨hp,g,d,tk,os⟩:=s₁
 refine kx (bC:=Value.ref C::bm) (bD:=Value.ref Cl::bm') he rfl gC gD (λT Q k=>wpAny_isSubtype_exc gC k) (λT Q k=>wpAny_isSubtype_exc gD k) (by rw[List.contains_cons,hB,Bool.or_true]) ?_
 cases hb:(Value.ref C::bm).contains (.ref Cl) with
 | false=>
   rw[hb,if_neg Bool.false_ne_true]at h
   exact hr pins _ σ H' D a C dx T I2 ha hT h
 | true=>
   rw[hb,if_pos rfl]at h
   refine(show codeAny _ _ _ _ _ from codeAny_handlers_suite_as ?_)
   refine Jo (fs:=zq X.stack) he hz st λh' F st'=>?_
   have I3:qx X pins σ H' {heap:=h',gens:=g,drawn:=d,toks:=tk,os:=os}:=I2.flown (H':=H') F ⟨λb hb'=>by cases List.mem_singleton.mp hb';exact⟨_,hT⟩,λb o _ z=>z,λb _ z=>z⟩ (λb hb'=>by cases List.mem_singleton.mp hb';obtain⟨ts',z,_⟩:=st';exact⟨_,z⟩) λb o z hb'=>by
     rcases hb' with hb' | hb'
     . rw[z]at hb';cases hb'
     . cases List.mem_singleton.mp hb'
       rw[hT]at z
       cases z
       exact Xw st'
   refine Zu I3 hN hj (.inl hl) (v:=.ref a) rfl (λs' I4=>?_) (.inr hl)
   refine wpAny_mono (hs (.ref a) _ pins s' _ H' (D.gone j) (I4.suite _ _) h) (λfl s3 q=>?_) (λ_ _ z=>z)
   cases fl with
   | next=>
     obtain⟨σ3,H3,I5,q⟩:=q
     exact zK (I.unsuite I5) hN hj hl λs4 I6=>⟨_,_,I6,q⟩
   | brk=>
     obtain⟨σ3,H3,I5,q⟩:=q
     exact zK (I.unsuite I5) hN hj hl λs4 I6=>⟨_,_,I6,q⟩
   | cont=>
     obtain⟨σ3,H3,I5,q⟩:=q
     exact zK (I.unsuite I5) hN hj hl λs4 I6=>⟨_,_,I6,q⟩
   | ret u=>
     obtain⟨v,σ3,H3,I5,r,q⟩:=q
     exact zK (I.unsuite I5) hN hj hl λs4 I6=>⟨v,_,_,I6,r,q⟩
def RV (tb:(St->XK)->TS) (th:TH):TS:=λD σ H=>∃R:Addr->Addr->Hp->Prop,tb (λσ' c d Hx=>σ'=σ/\∃C dx,c=.ref C/\d=some dx/\R C dx Hx) D σ H/\
 ∀(a C dx T:Addr) (Hx H':Hp),R C dx Hx->Hx a=some (J5 a C dx)->(∀b o,b≠a->Hx b=some o->H' b=some o)->H' a=some (QY a C dx (.ref T))->th C a dx D σ H'
theorem wn {X:Cx} {body:List Stmt} {h0:ExceptHandler} {hs:List ExceptHandler} {tb:(St->XK)->TS} {th:TH} {pos:Pos} (hst:X.stack=X.env::X.outer) (hfm:X.env.frame=some X.env.locals)
   (hb:∀(pn:List (Addr×Obj)) (W:Value->Shared->Prop) (E:St->XK),ZQ (YT X.prog X.w) (X.tried pn W) E->wa (X.tried pn W) body (tb E)) (hh:PH X (h0::hs) th):PS X (.Try body (h0::hs) [] [] pos) (RV tb th):=by
 intro pins s σ H D I h
 obtain⟨R,hbd,hx⟩:=h
 refine wpAny_Try_except ?_
 refine wpAny_mono (hb (X.pn++pins) (λe s₁=>wpAny (model X.prog X.w) X.A (noteFrame e X.env) (λ_ s₂=>wpAny (model X.prog X.w) X.A (setFlight e none) (λ_ s₃=>wpAny (model X.prog X.w) X.A (handleBy e X.env (h0::hs)) (SP X pins D) X.xe s₃) X.xe s₂) X.xe s₁) _ ?_ [] s σ H D (I.tried _) hbd) (λf s1 q=>?_) (λ_ _ z=>z)
 . intro pins' σ' H1 s1 e s' I1 hc
   obtain⟨a,C,dx,T,Hx,H2,rfl,os,bare,un,hok,ha,ht,hxT,hxa,hxs,rfl,C',dx',eC,eD,hR⟩:=hc
   cases eC
   cases eD
   have I2:qx X pins σ' H2 s':=I.untried (I1.call' os un hok bare λb z=>absurd z (by simp))
   obtain⟨⟨fl,he,hz⟩,_,_⟩:=(show qH X.prog X.w H2 s'.heap a (QY a C dx (.ref T)) from I2.hok a _ ha)
   obtain⟨st0,_,_⟩:=(show qH X.prog X.w H2 s'.heap T (x5 T .none) from I2.hok T _ ht)
   have nT0:T≠a:=λz=>by
     obtain⟨ts,q,_⟩:=st0
     rw[z,he]at q
     cases q
   have fr:=I2.ok.frames
   have ff:=I2.stack
   rw[hst]at fr ff
   refine UH fr ff hfm he hz st0 nT0 λh1 T' hT F tT q1 q2=>?_
   have lt:=(Array.getElem?_eq_some_iff.mp hz).1
   have g1:(fl.setIfInBounds 1 (Value.ref T'))[1]?=some (.ref T'):=by simp [lt]
   have nT:T'≠a:=λz=>by
     obtain⟨ts,q,_⟩:=q2
     rw[z,q1]at q
     cases q
   refine Jo (fs:=zq X.stack) q1 g1 q2 λh2 F2 stt=>?_
   have anf:∀b o,H2 b=some o->b∉zq X.stack:=λb o q z=>by
     have:=I2.stkFree b z
     rw[q]at this
     cases this
   have hTn:H2 T'=none:=I2.hok.fresh hT
   have nTT:T'≠T:=(ql ht hTn).symm
   have q3:=F2.keep a _ (anf a _ ha) (by simp [Ne.symm nT]) q1
   obtain⟨oT,hoT⟩:=tT
   have q4:=F2.keep T _ (anf T _ ht) (by simp [Ne.symm nTT]) hoT
   rw[<-hst]at F
   have I3:=I2.flown (H':=upd (upd (upd H2 a (QY a C dx (.ref T'))) T (.ext λh=>∃o,h.get? T=some o)) T' (x5 T' .none)) (U8.then F F2 hT) ⟨λb hb=>by
       simp only[List.mem_cons,List.not_mem_nil,or_false]at hb
       rcases hb with rfl | rfl
       . exact⟨_,ha⟩
       . exact⟨_,ht⟩,λb o hb q=>by
       simp only[List.mem_cons,List.not_mem_nil,or_false,not_or]at hb
       rw[qg (ql q hTn),qg hb.2,qg hb.1];exact q,λb hb q=>by
       rw[qg (Nat.ne_of_lt (Nat.lt_of_lt_of_le hb hT)),qg (λz=>by rw[z,ht]at q;cases q),qg (λz=>by rw[z,ha]at q;cases q)];exact q⟩ (λb hb=>by
       simp only[List.mem_cons,List.not_mem_nil,or_false]at hb
       rcases hb with rfl | rfl
       . exact⟨_,q3⟩
       . exact⟨_,q4⟩) λb o q hb=>by
     by_cases e1:b=T'
     . subst e1
       rw[qd]at q
       cases q
       exact Xw stt
     . rw[qg e1]at q
       by_cases e2:b=T
       . subst e2
         rw[qd]at q
         cases q
         exact⟨⟨_,q4⟩,⟨_,q4⟩,λh1 h2 ⟨u,z⟩ k=>⟨u,k u z⟩⟩
       . rw[qg e2]at q
         by_cases e3:b=a
         . subst e3
           rw[qd]at q
           cases q
           exact zM ⟨_,q3,g1⟩
         . rw[qg e3]at q
           rcases hb with hb | hb
           . rw[q]at hb;cases hb
           . simp only[List.mem_cons,List.not_mem_nil,or_false]at hb
             exact(hb.elim e3 e2).elim
   have ea:upd (upd (upd H2 a (QY a C dx (.ref T'))) T (.ext λh=>∃o,h.get? T=some o)) T' (x5 T' .none) a=some (QY a C dx (.ref T')):=by rw[qg (Ne.symm nT),qg (Ne.symm nT0),qd]
   refine hh pins _ σ' _ D a C dx T' I3 ea qd (hx a C dx T' Hx _ hR hxa (λb o nb q=>?_) ea)
   have n1:b≠T:=λz=>by rw[z,hxT]at q;cases q
   have q':=hxs b o nb q
   rw[qg (ql q' hTn),qg n1,qg nb]
   exact q'
 . cases f with
   | next=>
     obtain⟨σ',H',I',q⟩:=q
     exact wpAny_execs_nil ⟨σ',H',I.untried I',q⟩
   | brk=>
     obtain⟨σ',H',I',q⟩:=q
     exact⟨σ',H',I.untried I',q⟩
   | cont=>
     obtain⟨σ',H',I',q⟩:=q
     exact⟨σ',H',I.untried I',q⟩
   | ret u=>
     obtain⟨v,σ',H',I',r,q⟩:=q
     exact⟨v,σ',H',I.untried I',r,q⟩
@[irreducible] def JH (X:Cx) (hs:List ExceptHandler) (t:TH):Prop:=PH X hs t
theorem JH.of {X:Cx} {hs:List ExceptHandler} {t:TH} (h:PH X hs t):JH X hs t:=by unfold JH;exact h
theorem JH.to {X:Cx} {hs:List ExceptHandler} {t:TH} (h:JH X hs t):PH X hs t:=by unfold JH at h;exact h
theorem xp {X:Cx} {hs:List ExceptHandler}:JH X hs xF:=.of vQ
theorem xq {X:Cx} {x n:Str} {p pos:Pos} {j:Nat} {b₀:Stmt} {suite:List Stmt} {rest:List ExceptHandler} {ts:TS} {tr:TH} {Cl:Addr} (hg:Gl X x) (hm:X.mg x=some (.ref Cl)) (hD:Kf X.K Cl) (hN:X.N.Nodup) (hj:X.N[j]?=some n)
   (hl:X.env.scope.names.lookup n=some .local) (hs:∀v E,Wi (X.suite v E) (b₀::suite) ts) (hr:JH X rest tr) (hdb:(x==("__debug__":Str))=false:=by decide):JH X (.ExceptHandler (some (.Name x p)) (some n) (b₀::suite) pos::rest) (Ue X.K Cl j ts tr):=
 .of (VZ hg hm hD hN hj hl (λv E=>(hs v E).to) hr.to hdb)
theorem Gy {X:Cx} {body:List Stmt} {h0:ExceptHandler} {hs:List ExceptHandler} {tb:(St->XK)->TS} {th:TH} {pos:Pos} (hst:X.stack=X.env::X.outer) (hfm:X.env.frame=some X.env.locals)
   (hb:∀(pn:List (Addr×Obj)) (W:Value->Shared->Prop) (E:St->XK),ZQ (YT X.prog X.w) (X.tried pn W) E->Wi (X.tried pn W) body (tb E)) (hh:JH X (h0::hs) th):JS X (.Try body (h0::hs) [] [] pos) (RV tb th):=
 .of (wn hst hfm (λpn W E h=>(hb pn W E h).to) hh.to)
def Ki (K:PySem.W.Frag) (bm:List Value) (ta:TE) (f:Str):TE:=λσ H Q=>ta σ H λx H1=>∃a C dx hd fs v,x=.ref a/\H1 a=some (QY a C dx hd)/\H1 dx=some (.xd fs)/\zu K C bm/\jF K C f/\fs.lookup f=some v/\Q v H1
def yv (K:PySem.W.Frag) (bm:List Value):List V->Hp->VK->Prop:=λxs H Q=>∃a C dx hd fs c b,xs=[.ref a,c]/\KD c=true/\H a=some (QY a C dx hd)/\H dx=some (.xd fs)/\zu K C bm/\PySem.W.kitOne K (.ref C) (u0 c)=some b/\Q (.bl b) H
section
variable {X:Cx} {f:Str} {e:Expr} {pos:Pos} {ta:TE} {bm:List Value}
theorem uJ (he:JE X e ta) (hb:attributeBase e f X.env (eval e X.env)=eval e X.env):JE X (.Attribute e f pos) (Ki X.K bm ta f):=.of (by
 have he:=he.to
 intro pins s σ H Q I h
 refine U2 hb (jf (he pins s σ H _ I h) λu s1 z=>?_)
 obtain⟨x,H1,I1,rx,a,C,dx,hd,fs,v,ex,ea,ed,c,n,l,q⟩:=z
 subst ex
 obtain rfl:u=Value.ref a:=rx
 exact kt I1 ea ed c n l λu' s2 I2 ru=>⟨v,H1,I2,ru,q⟩)
theorem W6 (hn:PySem.W.specialIn X.K (.builtin "object.__class__") "__get__"=some (some (.builtin "getset_descriptor.__get__"))) (htk:PySem.W.takesIn X.K (.builtin "object.__class__")=some true):Qe X (.builtin "isinstance") (yv X.K bm):=by
 intro pins s σ H xs us Q I r h
 obtain⟨a,C,dx,hd,fs,c,b,rfl,hc,ha,hdx,ec,ek,q⟩:=h
 obtain⟨u,w',rfl,ru,rw'⟩:=V8 r
 have ew:w'=u0 c:=by
   cases c with
   | ty n=>exact rw'
   | ref z=>exact rw'
   | _=>cases hc
 subst ew
 cases ru
 exact xx I ha hdx ec hn htk ek λtk=>⟨.bl b,H,I.tok tk,rfl,q⟩
end
end L2
set_option Elab.async false
set_option linter.all false
set_option maxRecDepth 100000
set_option maxHeartbeats 4000000
namespace PySem
open PySem.Spec
namespace F
theorem plain_dupd_loop:plainId "dict.update.loop"=true:=by decide+kernel
theorem entry_dupd_loop:entryFor table "dict.update.loop"=some Builtin.«dict.update.loop»:=entryFor_of_fast (by kernel_rfl)
end F
theorem Heap.DictOf.keepsAt {prog:Program} {w:World} {κ:Type} [DecidableEq κ] {knd:KeyKind prog w κ} {h h':Heap} {a:Addr} {kvs:List (κ×Value)} (hm:h.DictOf knd a kvs) (k:∀o,h.get? a=some o->h'.get? a=some o):h'.DictOf knd a kvs:=
 let ⟨o,es,ep,ho,r⟩:=hm;⟨o,es,ep,k o ho,r⟩
section
variable {prog:Program} {w:World} {A:Around} {R:Result->Shared->Prop} {I:Addr} {fp wr:List Addr} {n:Nat} {P:Nat->Value->Prop} {St:Nat->Heap->Prop} {κ:Type} [DecidableEq κ] {knd:KeyKind prog w κ}
def Rl (knd:KeyKind prog w κ) (h:Heap) (wr:List Addr) (d:Addr) (v:Value) (kv:κ×Value):Prop:=∃p o c k,v=.ref p/\h.get? p=some o/\o.cls=.type "tuple"/\o.data=.seq #[k,kv.2] c/\knd.is kv.1 k=true/\p∉wr/\p≠d
theorem ZO (W:Walks prog w A.in1 I fp wr n P St) (kv:Nat->κ×Value) (d:Addr) (hdf:d∉fp) (hn:n<=1000):
   ∀(k i:Nat) (s:Shared) (t:Tok) (kvs:List (κ×Value)),n - i=k->i<=n->St i s.heap->s.heap.DictOf knd d kvs->kvs.length<=i->(∀j v,P j v->Rl knd s.heap wr d v (kv j))->
   (∀h' tk,h'.DictOf knd d (merged kvs (((List.range n).drop i).map kv))->(∀b o,b∉wr->b≠d->s.heap.get? b=some o->h'.get? b=some o)->R (.ok (.ret .none)) {s with heap:=h',toks:=tk})->
   codeAny (model prog w) A (.builtin "dict.update.loop" ⟨[.ref d,.ref I,.int i t,.none],[]⟩) R s:=by
 have hdw:d∉wr:=λh=>hdf (W.sub _ h)
 intro k
 induction k with
 | zero=>
   intro i s t kvs hk hi hst hd hl hp hR
   have hin:i=n:=by omega
   subst hin
   refine codeAny_builtin F.entry_dupd_loop ?_
   rw[Around.under_plainId F.plain_dupd_loop _]
   show wpAny _ A.in1 (pyNext (.ref I) >>= _) _ _ s
   refine wpAny_bind (W.done s _ _ hst λh' tk hk'=>?_)
   show wpAny _ A.in1 (Builtin.Dict.addKeywords d [] >>= _) _ _ _
   refine wpAny_bind (wpAny_pure (wpAny_pure (hR h' tk ?_ λb o hb _ e=>hk' b o hb e)))
   rw[List.drop_of_length_le (by simp)]
   exact hd.keepsAt λo e=>hk' d o hdw e
 | succ k ih=>
   intro i s t kvs hk hi hst hd hl hp hR
   have hlt:i < n:=by omega
   refine codeAny_builtin F.entry_dupd_loop ?_
   rw[Around.under_plainId F.plain_dupd_loop _]
   show wpAny _ A.in1 (pyNext (.ref I) >>= _) _ _ s
   refine wpAny_bind (W.item i s _ _ hlt hst λv h' tk hP hst' hk'=>?_)
   obtain⟨p,o,c,key,rfl,ho,hc,hdat,hkey,hpw,hpd⟩:=hp i v hP
   have ho':=hk' p o hpw ho
   have hd':h'.DictOf knd d kvs:=hd.keepsAt λo e=>hk' d o hdw e
   have ty:(⟨h',s.gens,s.drawn,tk,s.os⟩:Shared).TypeIs (.ref p) "tuple":=⟨o,ho',hc⟩
   refine wpAny_bind (wpAny_holding (wpAny_bind (wpAny_tryCatch ?_)))
   unfold Builtin.Dict.pairItems
   refine wpAny_bind (wpAny_typeOf ty ?_)
   rw[if_pos (by decide)]
   refine wpAny_bind (wpAny_seqItems ho' hdat (wpAny_pure ?_))
   refine(show wpAny _ _ (holding [key,(kv i).2] (dictSet d key (kv i).2)) _ _ _ from wpAny_holding (wpAny_dictSet_pairs hkey hd' (λh'' dd hs=>?_) (by rw[sizeLine_eq];omega)))
   refine wpAny_pure ⟨plainId_quiet F.plain_dupd_loop _,?_⟩
   have keep:∀b o,b∉wr->b≠d->s.heap.get? b=some o->h''.get? b=some o:=λb o hb hbd e=>(hs.2 b hbd).trans (hk' b o hb e)
   have len:(stored kvs (kv i).1 (kv i).2).length<=i+1:=by
     have:=stored_length_le kvs (kv i).1 (kv i).2
     omega
   refine ih (i+1) _ _ (stored kvs (kv i).1 (kv i).2) (by omega) hlt (W.frame _ _ _ hst' λb hb o e=>(hs.2 b (λz=>hdf (z▸hb))).trans e) dd len (λj v hj=>?_) λh3 tk3 d3 k3=>?_
   . obtain⟨p,o,c,k,e1,e2,r⟩:=hp j v hj
     exact⟨p,o,c,k,e1,keep p o r.2.2.2.1 r.2.2.2.2 e2,r⟩
   . refine hR h3 tk3 ?_ λb o hb hbd e=>k3 b o hb hbd (keep b o hb hbd e)
     have e:(List.range n).drop i=i::(List.range n).drop (i+1):=by
       rw[List.drop_eq_getElem_cons (by simpa using hlt)]
       simp
     rw[e]
     exact d3
end
section
variable {prog:Program} {w:World} {A:Around} {E:Value->Shared->Prop} {s:Shared} {κ:Type} [DecidableEq κ] {knd:KeyKind prog w κ}
theorem XW:typeLookup (.type "list") "keys"=pure none:=by rw[typeLookup_type,builtinLookup_eq_fast];kernel_rfl
theorem XY {a:Addr} {o:Obj} {xs:Array Value} {k:Nat} {Q:Option Value->Shared->Prop} (hx:s.heap.get? a=some o) (hc:o.cls=.type "list") (hdat:o.data=.seq xs k) (hd:o.dict=none) (hA:A.handled=none)
   (h:∀h' tk,(∀b o,s.heap.get? b=some o->h'.get? b=some o)->Q none {s with heap:=h',toks:=tk}):wpAny (model prog w) A (getAttr? (.ref a) "keys") Q E s:=by
 obtain⟨c,dct,dat,sl⟩:=o
 simp only at hc hdat hd
 subst hc hdat hd
 obtain⟨hp,g,d,tk,os⟩:=s
 have hT:∀tk',(⟨hp,g,d,tk',os⟩:Shared).TypeIs (.ref a) "list":=λ_=>⟨_,hx,rfl⟩
 have f1:=sub_AttributeError
 have f3:=F.slot_list_getattribute.lookup
 have f4:=F.slot_list_getattribute.bind (.ref a)
 have f5:=am_list_getattr_none
 unfold getAttr? getAttrBy? getAttrBy
 repeat (any_goals (first | assumption | exact hT _ | ((with_reducible show wpAny _ _ (call (Value.builtin "list.__getattribute__") _ _) _ _ _);refine call_meets F.slot_list_getattribute (hT _) am_entry_list_getattribute (F.args_list_getattribute_2 _ _) (meets_getattribute_miss_list a xs k sl "keys" _ XW (by decide+kernel)) ⟨hx,hA,λh' tk' e hx'=>?_⟩) | wp_step))
 obtain⟨t',u',he⟩:=hx'.there
 show wpAny _ _ (getattributeRaised _ _ _ _ _ _ _) _ _ _
 unfold getattributeRaised
 repeat (any_goals (first | assumption | wp_step))
 exact h _ _ hx'.of.keeps
theorem zr {src:Addr} {items:Array Value} {kv:Nat->κ×Value} {Q:Value->Shared->Prop} (pl:PlainL s.heap src items) (hp:∀j v,items[j]?=some v->∃p o c key,v=.ref p/\s.heap.get? p=some o/\o.cls=.type "tuple"/\o.data=.seq #[key,(kv j).2] c/\knd.is (kv j).1 key=true)
   (hn:items.size<=1000) (hA:A.handled=none)
   (h:∀h' tk,h'.DictOf knd s.heap.objs.size (merged [] ((List.range items.size).map kv))->(∀b o,s.heap.get? b=some o->h'.get? b=some o)->Q (.ref s.heap.objs.size) {s with heap:=h',toks:=tk}):
   wpAny (model prog w) A (call (.type "dict") [.ref src]) Q E s:=by
 refine callType_codes (Q₁:=λobj s₁=>obj=.ref s.heap.objs.size/\s₁={s with heap:=s.heap.push {cls:=.type "dict",data:=.dict #[]}}) F.kt_called_dict (F.kt_typeCall_dict_1 _) F.entry_dict_init (kt_code_dict_new _ ⟨rfl,rfl⟩) ?_
 rintro obj s₁ ⟨rfl,rfl⟩
 have hnew:(s.heap.push {cls:=.type "dict",data:=.dict #[]}).DictOf knd s.heap.objs.size []:=Heap.DictOf.new s.heap
 have hp0:∀b o,s.heap.get? b=some o->(s.heap.push {cls:=.type "dict",data:=.dict #[]}).get? b=some o:=λb o e=>Heap.get?_push_of_some _ e
 obtain⟨ol,nl,ho,hc,hd,hdat⟩:=id pl
 have ty:(⟨s.heap.push {cls:=.type "dict",data:=.dict #[]},s.gens,s.drawn,s.toks,s.os⟩:Shared).TypeIs (.ref src) "list":=⟨ol,hp0 _ _ ho,hc⟩
 refine⟨hnew.typeIs,F.args_dict_init_2 _ _,?_⟩
 unfold Builtin.«dict.__init__»
 refine wpAny_bind ?_
 unfold Builtin.Dict.selfAndRest
 refine wpAny_bind (wpAny_notOrdered_dict hnew.typeIs ?_)
 show wpAny _ _ (pure (s.heap.objs.size,[Value.ref src])) _ _ _
 refine wpAny_pure ?_
 show wpAny _ _ (Builtin.Dict.updateFrom "dict.__init__" s.heap.objs.size (.ref src) [] .none) _ _ _
 unfold Builtin.Dict.updateFrom
 refine wpAny_bind (wpAny_typeOf ty ?_)
 rw[if_pos (by decide)]
 refine wpAny_bind (XY (hp0 _ _ ho) hc hdat hd hA λh1 tk1 k1=>?_)
 rw[if_pos (show (none:Option Value).isNone=true from rfl)]
 refine wpAny_bind (wpAny_rule ?_)
 have pl1:PlainL h1 src items:=⟨ol,nl,k1 _ _ (hp0 _ _ ho),hc,hd,hdat⟩
 have hlt:src < h1.objs.size:=Heap.lt_size (k1 _ _ (hp0 _ _ ho))
 have hnew1:h1.DictOf knd s.heap.objs.size []:=hnew.keepsAt λo e=>k1 _ o e
 have hld:s.heap.objs.size < h1.objs.size:=by
   obtain⟨o,_,_,e,_⟩:=hnew1
   exact Heap.lt_size e
 refine wpAny_bind (wpAny_pyIter_list pl1.isList ?_)
 refine wpAny_pure ⟨plainId_quiet F.plain_dupd_loop _,?_⟩
 have W:=Walks.list (prog:=prog) (w:=w) (A:=A.in1.in1) hA h1.objs.size src (Nat.ne_of_lt hlt) items
 have nsrc:s.heap.objs.size≠src:=Ne.symm (Nat.ne_of_lt (Heap.lt_size ho))
 refine ZO (A:=A.in1) W kv s.heap.objs.size (by simp only[List.mem_cons,List.mem_nil_iff,or_false,not_or];exact⟨Nat.ne_of_lt hld,nsrc⟩) hn items.size 0 _ _ [] (by omega) (Nat.zero_le _)
   ⟨⟨_,Heap.get?_push_size _ rfl,rfl,rfl⟩,pl1.isList.at λo e=>Heap.get?_push_of_some _ e⟩ (hnew1.push _) (Nat.zero_le _) (λj v hj=>?_) λh2 tk2 d2 k2=>⟨rfl,h h2 tk2 d2 λb o e=>?_⟩
 . obtain⟨p,o,c,key,e1,e2,e3,e4,e5⟩:=hp j v hj
   have e2':=k1 _ _ (hp0 _ _ e2)
   refine⟨p,o,c,key,e1,Heap.get?_push_of_some _ e2',e3,e4,e5,?_,Nat.ne_of_lt (Heap.lt_size e2)⟩
   simp only[List.mem_cons,List.mem_nil_iff,or_false]
   exact Nat.ne_of_lt (Heap.lt_size e2')
 . have e':=k1 _ _ (hp0 _ _ e)
   refine k2 b o ?_ (Nat.ne_of_lt (Heap.lt_size e)) (Heap.get?_push_of_some _ e')
   simp only[List.mem_cons,List.mem_nil_iff,or_false]
   exact Nat.ne_of_lt (Heap.lt_size e')
end
end PySem
namespace L2
open PySem PySem.Spec PyProof.Rows
section
variable {X:Cx} {pins:List (Addr×Obj)} {σ:St} {H:Hp} {s:Shared}
def Vw (K:PySem.W.Frag):List V->Hp->VK->Prop:=λxs H Q=>∃(p:Addr) (ps:List Addr) (kvs:List (qD×V)),xs=[.ref p]/\SqL K H p (ps.map V.ref)/\ps.length=kvs.length/\(∀(i:Nat) (a:Addr) (kv:qD×V),ps[i]?=some a->kvs[i]?=some kv->SqT K H a [kV kv.1,kv.2])/\kvs.length<=1000/\
 ∀d,H d=none->Q (.ref d) (upd H d (.dK (Qs [] kvs)))
theorem Yh (I:qx X pins σ H s):∀(ps:List Addr) (kvs:List (qD×V)),ps.length=kvs.length->(∀(i:Nat) (a:Addr) (kv:qD×V),ps[i]?=some a->kvs[i]?=some kv->SqT X.K H a [kV kv.1,kv.2])->
   ∃rs:List (qD×Value),KV kvs rs/\rs.length=ps.length/\∀(i:Nat) (a:Addr),ps[i]?=some a->∃kv o c key,rs[i]?=some kv/\s.heap.get? a=some o/\o.cls=.type "tuple"/\o.data=.seq #[key,kv.2] c/\(qR X.prog X.w).is kv.1 key=true
 | [],[],_,_=>⟨[],.nil,rfl,λi a e=>by simp at e⟩
 | [],_::_,h,_=>by cases h
 | _::_,[],h,_=>by cases h
 | a::ps,kv::kvs,h,k=>by
   obtain⟨rs,r1,r2,r3⟩:=Yh I ps kvs (Nat.succ.inj h) λi a' kv' e1 e2=>k (i+1) a' kv' (by simpa using e1) (by simpa using e2)
   obtain⟨its,rv,⟨o,e,c1,n1,d1⟩,_⟩:=I.tuple (k 0 a kv rfl rfl)
   cases rv with
   | cons ra rt=>
     cases rt with
     | cons rb rn=>
       cases rn
       rename_i u1 u2
       refine⟨(kv.1,u2)::rs,.cons ⟨rfl,rb⟩ r1,by simp [r2],λi a' e'=>?_⟩
       cases i with
       | zero=>
         cases e'
         exact⟨_,o,n1,u1,rfl,e,c1,d1,Yw ra⟩
       | succ i=>exact r3 i a' (by simpa using e')
theorem YF (hc:X.calm=true):Qe X (.type "dict") (Vw X.K):=by
 intro pins s σ H xs us Q I r h
 obtain⟨p,ps,kvs,rfl,hl,le,hps,hz,q⟩:=h
 obtain⟨u,rfl,ru⟩:=Qv r
 cases ru
 obtain⟨its,rv,pl,_⟩:=I.list hl
 obtain rfl:=YU rv
 obtain⟨rs,r1,r2,r3⟩:=Yh I ps kvs le hps
 have hsz:(ps.map Value.ref).toArray.size=rs.length:=by simp [r2]
 have hR:(List.range (ps.map Value.ref).toArray.size).map (λj=>(rs[j]?).getD (Sum.inl 0,Value.none))=rs:=by
   rw[hsz]
   refine List.ext_getElem? λi=>?_
   rw[List.getElem?_map]
   by_cases hi:i < rs.length
   . rw[List.getElem?_range hi,List.getElem?_eq_getElem hi]
     simp [hi]
   . rw[List.getElem?_eq_none (by rw[List.length_range];omega),List.getElem?_eq_none (by omega)]
     rfl
 refine zr (knd:=qR X.prog X.w) (kv:=λj=>(rs[j]?).getD (Sum.inl 0,Value.none)) pl (λj v hj=>?_) (by rw[hsz,r2,le];exact hz) (I.ok.hd hc) λh' tk dd kp=>?_
 . have hj':(ps.map Value.ref)[j]?=some v:=by simpa using hj
   rw[List.getElem?_map]at hj'
   cases e:ps[j]? with
   | none=>rw[e]at hj';cases hj'
   | some a=>
     rw[e]at hj'
     obtain⟨kv,o,c,key,f1,f2,f3,f4,f5⟩:=r3 j a e
     refine⟨a,o,c,key,(Option.some.inj hj').symm,f2,f3,?_,?_⟩
     . show o.data=.seq #[key,((rs[j]?).getD (Sum.inl 0,Value.none)).2] c
       rw[f1]
       exact f4
     . show (qR X.prog X.w).is ((rs[j]?).getD (Sum.inl 0,Value.none)).1 key=true
       rw[f1]
       exact f5
 . rw[hR]at dd
   have hn:=I.hok.fresh (Nat.le_refl s.heap.objs.size)
   have big:(s.heap.objs.size==sysModules)=false:=beq_eq_false_iff_ne.mpr (Ne.symm (Nat.ne_of_lt I.big))
   have hlen:(Qs [] kvs).length<=sizeLine:=by
     have:=QV kvs []
     rw[List.length_nil]at this
     rw[sizeLine_eq]
     omega
   exact⟨.ref s.heap.objs.size,_,I.laid (a:=s.heap.objs.size) (o:=.dK (Qs [] kvs)) (h':=h') (t':=tk) kp (Nat.le_refl _) (Wd hlen big (r1.merge .nil) dd),rfl,q _ hn⟩
end
end L2
set_option Elab.async false
set_option linter.all false
set_option maxRecDepth 100000
set_option maxHeartbeats 4000000
namespace L2
open PySem PySem.Spec PyProof.Rows
section
variable {P:Program} {w:World} {K:PySem.W.Frag} {mg:Str->Option Value} {base:Heap}
theorem jQ.okX {CX:Vd} {x qual:Str} {st:Stmt} {f:Addr} {fd:FuncData} {N ps:List Str} {k:Nat} {sp:Sp} (F:jQ K x qual st f fd) (S:qv N ps (qk st)) (len:∀vs H Q E,sp vs H Q E->vs.length=ps.length)
   (hbody:∀(cdv:Value) (A:Around) (outer:List Env) (s:Shared) (H:Hp) (vs:List V) (Q:VK) (E:XK),q5 k (A.deeper (envOfC qual (qk st) s.heap.objs.size f cdv))->sp vs H Q E->
     ∃t,Wi (Zn CX P w K mg base N qual (qk st) f cdv A outer s H E) (Qc st) t/\t {nx:=λ_ H'=>Q .non H',rt:=Q} (J9 N vs) H):qp P w K mg base CX (k+1) f fd ps sp:=by
 obtain⟨oc,od,kV,doc,pm,an,cdv,ct,osl,rfl,lk,hcd⟩:=F.ex
 refine KE lk hcd S len λA outer s H vs Q E hr hsp=>?_
 obtain⟨t,h,q⟩:=hbody cdv A outer s H vs Q E hr hsp
 exact⟨t,h.to,q⟩
end
section
variable {X:Cx} {es:List Expr} {t:TA} {pos:Pos}
end
end L2
set_option Elab.async false
set_option linter.all false
set_option maxRecDepth 100000
set_option maxHeartbeats 4000000
namespace L2
open PySem PySem.Spec PyProof.Rows
section
variable {X:Cx}
def R9 (K:PySem.W.Frag) (neg:Bool):R2:=λx y H Q=>∃d ds,DV K H x d/\DV K H y (.list ds)/\d.canLay0=true/\PyData.canLayAll0 ds=true/\d.depth<=40/\Q (.bl (if neg then !(ds.any λz=>PyData.eqv z d) else ds.any λz=>PyData.eqv z d)) H
theorem vF (hu:X.A.units+64 < cLine):Jv X (compareOp .NotIn) (R9 X.K true):=by
 intro pins s σ H x y v u Q I rx ry h
 obtain⟨d,ds,h1,h2,c1,c2,dp,q⟩:=h
 obtain⟨as,ra⟩:=h1.reads I rx
 obtain⟨bs,rb⟩:=h2.reads I ry
 refine SeqAt.notIn_list_reads rb ra c2 c1 ?_ ⟨.bl _,H,I,rfl,q⟩
 have:=Nat.min_le_right (PyData.depthAll ds) d.depth
 omega
end
end L2
namespace L2
open PySem PySem.Spec PyProof.Rows
end L2
set_option Elab.async false
set_option linter.all false
set_option maxRecDepth 100000
set_option maxHeartbeats 4000000
namespace L2
open PySem PySem.Spec PySem.W PyProof.Rows
theorem VI {α:Type} {l:List α} (nd:l.Nodup) {i j:Nat} {hi:i < l.length} {hj:j < l.length} (e:l[i]=l[j]):i=j:=by
 have h:=List.pairwise_iff_getElem.mp nd
 rcases Nat.lt_trichotomy i j with c | c | c
 . exact absurd e (h i j hi hj c)
 . exact c
 . exact absurd e.symm (h j i hj hi c)
section
variable {α β:Type} {lt:Nat->Nat->Bool} {n:Nat}
def evT (lt:Nat->Nat->Bool):KasT α->α
 | .ret a=>a
 | .ask i j k=>evT lt (k (lt i j))
end
def ltS (zs:List Str) (i j:Nat):Bool:=decide ((zs.getD i "").cps.toList < (zs.getD j "").cps.toList)
def srt (zs:List Str):List Nat:=if zs.length < 2 then List.range zs.length else (evT (ltS zs) (kas_sort zs.length)).toList
section
variable {P:Program} {w:World} {B:Around} {F:Value->Shared->Prop} {z:Shared}
end
section
variable {X:Cx} {o:Expr} {td:TE} {p1 p2 pos1 pos2 ap cp:Pos}
end
theorem U1 {f:Nat->Int} {bt:Nat->Nat->Bool} (hb:∀i j,bt i j=decide (f j < f i)):∀k,argBest bt k<=k/\∀i,i<=k->f i<=f (argBest bt k)
 | 0=>⟨Nat.le_refl _,λi hi=>by have:i=0:=by omega
                               subst this
                               exact Int.le_refl _⟩
 | k+1=>by
   obtain⟨h1,h2⟩:=U1 hb k
   unfold argBest
   rw[hb]
   by_cases c:f (argBest bt k) < f (k+1)
   . rw[if_pos (decide_eq_true c)]
     refine⟨Nat.le_refl _,λi hi=>?_⟩
     by_cases e:i=k+1
     . rw[e];exact Int.le_refl _
     . have:=h2 i (by omega)
       omega
   . rw[if_neg (by rw[decide_eq_false c];exact Bool.false_ne_true)]
     refine⟨by omega,λi hi=>?_⟩
     by_cases e:i=k+1
     . rw[e];omega
     . exact h2 i (by omega)
section
variable {X:Cx}
theorem Z2 {pins:List (Addr×Obj)} {σ:St} {H:Hp} {s:Shared} {ns:List Int} {its:List Value} (rv:qF (ns.map V.int) its) {i:Nat} {v:Value} (h:its.toArray[i]?=some v):∃t,v=.int (ns.getD i 0) t:=by
 have hi:its[i]?=some v:=by simpa using h
 cases e:ns[i]? with
 | none=>
   exfalso
   have h1:(ns.map V.int)[i]?=none:=by rw[List.getElem?_map,e];rfl
   rw[qF.none_of rv h1]at hi
   cases hi
 | some b=>
   have h1:(ns.map V.int)[i]?=some (V.int b):=by rw[List.getElem?_map,e];rfl
   obtain⟨u,hu,ru⟩:=rv.get h1
   rw[hi]at hu
   cases hu
   obtain⟨t,rfl⟩:=ru
   exact⟨t,by rw[List.getD_eq_getElem?_getD,e];rfl⟩
def R7 (K:PySem.W.Frag):List V->Hp->VK->Prop:=λxs H Q=>∃(p:Addr) (ns:List Int),xs=[.ref p]/\SqL K H p (ns.map V.int)/\0 < ns.length/\∀m,m∈ns->(∀x∈ns,x<=m)->Q (.int m) H
theorem uU {ns:List Int} {i:Nat} (h:i < ns.length):ns.getD i 0∈ns:=by
 rw[List.getD_eq_getElem?_getD,List.getElem?_eq_getElem h]
 exact List.getElem_mem h
theorem uN {ns:List Int} {x:Int} (h:x∈ns):∃i,i < ns.length/\ns.getD i 0=x:=by
 obtain⟨i,hi,e⟩:=List.getElem_of_mem h
 exact⟨i,hi,by rw[List.getD_eq_getElem?_getD,List.getElem?_eq_getElem hi];exact e⟩
theorem kE (hc:X.calm=true):Qe X (.builtin "max") (R7 X.K):=by
 intro pins s σ H xs us Q I r h
 obtain⟨p,ns,rfl,hq,hs,q⟩:=h
 obtain⟨u,rfl,rx⟩:=Qv r
 cases rx
 obtain⟨its,rv,pl,hz⟩:=I.list hq
 have hlt:p < s.heap.objs.size:=by
   obtain⟨o,n,e,_⟩:=pl
   exact Heap.lt_size e
 have hn:its.toArray.size=ns.length:=by
   have:=rv.length
   rw[List.length_map]at this
   simp only[List.size_toArray]
   omega
 have hh:X.A.in1.handled=none:=I.ok.hd hc
 refine call_max_walk (wpAny_pyIter_list pl.isList ?_)
 refine⟨s.heap.objs.size,[s.heap.objs.size,p],[s.heap.objs.size],its.toArray.size,λi v=>its.toArray[i]?=some v,_,λi j=>decide (ns.getD j 0 < ns.getD i 0),rfl,Walks.list hh s.heap.objs.size p (Nat.ne_of_lt hlt) its.toArray,
   ⟨⟨_,Heap.get?_push_size _ rfl,rfl,rfl⟩,pl.isList.at λo e=>Heap.get?_push_of_some _ e⟩,?_,by omega,?_,λv h' tk hv hk=>?_⟩
 . intro b hb
   show b < (s.heap.push _).objs.size
   rw[Heap.size_push]
   simp only[List.mem_cons,List.mem_nil_iff,or_false]at hb
   rcases hb with e | e
   . rw[e];exact Nat.lt_succ_self _
   . rw[e];exact Nat.lt_succ_of_lt hlt
 . intro i j vi vj s' Q' E' hi hj hQ
   obtain⟨t,rfl⟩:=Z2 (pins:=pins) (σ:=σ) (H:=H) (s:=s) rv hi
   obtain⟨t',rfl⟩:=Z2 (pins:=pins) (σ:=σ) (H:=H) (s:=s) rv hj
   exact PyProof.Rows.gt_int hQ
 . obtain⟨t,rfl⟩:=Z2 (pins:=pins) (σ:=σ) (H:=H) (s:=s) rv hv
   rw[hn]
   obtain⟨b1,b2⟩:=U1 (f:=λi=>ns.getD i 0) (bt:=λi j=>decide (ns.getD j 0 < ns.getD i 0)) (λ_ _=>rfl) (ns.length - 1)
   refine⟨.int _,H,?_,⟨_,rfl⟩,q _ (uU (by omega)) λx hx=>?_⟩
   . exact I.kept (h':=h') (t':=tk) λb o e=>hk b o (by
       intro z
       have z':b=s.heap.objs.size:=by simpa using z
       exact absurd (Heap.lt_size e) (by rw[z'];exact Nat.lt_irrefl _)) (Heap.get?_push_of_some _ e)
   . obtain⟨i,hi,rfl⟩:=uN hx
     exact b2 i (by omega)
def Nc (K:PySem.W.Frag):R2:=λx y H Q=>∃a b xs ys,x=.ref a/\y=.ref b/\SqL K H a xs/\SqL K H b ys/\xs.length+ys.length<=sizeLine/\∀l,H l=none->Q (.ref l) (upd H l (.lst (xs++ys)))
theorem Paired.app {α β:Type} {G:α->β->Prop}:∀{l m:List α} {l' m':List β},Paired G l l'->Paired G m m'->Paired G (l++m) (l'++m')
 | _,_,_,_,.nil,h=>h
 | _,_,_,_,.cons a r,h=>.cons a (Paired.app r h)
theorem uc:Jv X (binaryOp .Add) (Nc X.K):=by
 intro pins s σ H x y v u Q I rx ry h
 obtain⟨a,b,xs,ys,rfl,rfl,ha,hb,hz,q⟩:=h
 cases rx
 cases ry
 obtain⟨its,rv,pl,_⟩:=I.list ha
 obtain⟨its2,rv2,pl2,_⟩:=I.list hb
 have l1:=rv.length
 have l2:=rv2.length
 obtain⟨⟨cls,dd,data,sl⟩,ho,hc,n,hd⟩:=id pl.isList
 obtain⟨⟨cls2,dd2,data2,sl2⟩,ho2,hc2,n2,hd2⟩:=id pl2.isList
 simp only at hc hd hc2 hd2
 subst hc hd hc2 hd2
 have e:its.toArray++its2.toArray=(its++its2).toArray:=by simp
 refine concat_meets ⟨_,ho,rfl⟩ ⟨_,ho2,rfl⟩ noFill_list_add seq_list_add PySem.F.slot_list_add PySem.F.entry_list_add (PySem.F.args_list_add_2 _ _) (list_addW a b its.toArray its2.toArray n n2 dd dd2 sl sl2 (by simp only[List.size_toArray];omega)) ⟨ho,ho2,?_⟩
 rw[e]
 exact⟨.ref s.heap.objs.size,_,I.laid (t':=s.toks) (o:=.lst (xs++ys)) (λb u h=>Heap.get?_push_of_some _ h) (Nat.le_refl _) ⟨by rw[List.length_append];exact hz,its++its2,_,Paired.app rv rv2,Heap.get?_push_size _ rfl⟩,rfl,q _ (I.hok.fresh (Nat.le_refl _))⟩
theorem vS:Ry X "dict.clear" (λx xs H Q=>∃(a:Addr) (kvs:List (qD×V)),x=.ref a/\xs=[]/\H a=some (.dK kvs)/\Q .non (upd H a (.dK []))):=by
 intro pins s σ H x xs v us Q I rx rs h
 obtain⟨a,kvs,rfl,rfl,e,q⟩:=h
 cases rx
 cases rs
 obtain⟨z,hd,vs,rel,dd⟩:=xR I.hok e
 refine call_meetsIn PySem.F.slot_dict_clear dd.typeIs PySem.F.entry_dict_clear (PySem.F.args_dict_clear_1 _) (meets_dict_clear (qR X.prog X.w) a) ⟨vs,dd,by rw[<-Paired.length rel];exact z,λh' dd' hs=>?_⟩
 have he:∃q,h'.get? a=some q:=let ⟨q,_,_,hq,_⟩:=dd';⟨q,hq⟩
 exact⟨.non,_,zO (t':=s.toks) I (by rw[e];exact True.intro) hs he (Wd (Nat.zero_le _) hd .nil dd'),rfl,q⟩
end
end L2
set_option Elab.async false
set_option linter.all false
set_option maxRecDepth 100000
set_option maxHeartbeats 4000000
namespace L2
open PySem PySem.Spec PySem.W PyProof.Rows
section
variable {X:Cx}
def Ku (K:PySem.W.Frag):R2:=λx y H Q=>∃(a b:Addr) (xs:List V),x=.ref a/\y=.ref b/\SqL K H a xs/\SqL K H b []/\Q (.bl (!xs.isEmpty)) H
theorem zB (hu:X.A.units < cLine):Jv X (compareOp .NotEq) (Ku X.K):=by
 intro pins s σ H x y v u Q I rx ry h
 obtain⟨a,b,xs,rfl,rfl,ha,hb,q⟩:=h
 cases rx
 cases ry
 obtain⟨its,rv,pl,_⟩:=I.list ha
 obtain⟨its2,rv2,pl2,_⟩:=I.list hb
 have l2:its2=[]:=List.eq_nil_of_length_eq_zero rv2.length.symm
 subst l2
 cases xs with
 | nil=>
   have l1:its=[]:=List.eq_nil_of_length_eq_zero rv.length.symm
   subst l1
   exact EqBoolInt.of_rcne (SeqAt.RcNeAt.lists (e:=λ_=>true) pl.isList pl2.isList rfl hu λj h1 h2=>absurd h1 (Nat.not_lt_zero j)) ⟨.bl _,H,I,rfl,q⟩
 | cons x xs=>
   cases its with
   | nil=>cases rv
   | cons u' us'=>exact EqBoolInt.of_rcne (SeqAt.RcNeAt.lists_lengths pl.isList pl2.isList (by simp) hu) ⟨.bl true,H,I,rfl,q⟩
end
end L2
set_option Elab.async false
set_option linter.all false
set_option maxRecDepth 100000
set_option maxHeartbeats 4000000
namespace L2
open PySem PySem.Spec PySem.W PyProof.Rows
section
variable {P:Program} {w:World} {B:Around} {F:Value->Shared->Prop} {z:Shared}
end
section
variable {X:Cx}
end
end L2
set_option Elab.async false
set_option linter.all false
set_option maxRecDepth 100000
set_option maxHeartbeats 4000000
namespace L2
open PySem PySem.Spec PySem.W PyProof.Rows
section
variable {prog:Program} {w:World} {A:Around} {R:Result->Shared->Prop} {I:Addr} {fp wr:List Addr} {G:Array GenState->Array GenState->Prop} {n:Nat} {P:Nat->Value->Prop} {St:Nat->Shared->Prop}
end
section
variable {prog:Program} {w:World} {A:Around} {E:Value->Shared->Prop} {s:Shared}
end
section
variable {X:Cx} {e:Expr} {te:TE} {p1 p2 pos1 pos2:Pos}
end
end L2
set_option Elab.async false
set_option linter.all false
set_option maxRecDepth 100000
set_option maxHeartbeats 4000000
namespace L2
open PySem PyProof.Rows
theorem YG {α:Type} {K:PySem.W.Frag} {a D:Addr} {xs:List α} {enc:α->V} {out:α->Option V} {rest:St} {H:Hp} {tt:TT} {te:TE} {Q:Hp->Prop} (hD:H D=none) (ha:H a=some (.lst (xs.map enc))) (len:xs.length < sizeLine)
   (ht:∀x∈xs,∀G,Same H G->∀R:Bool->Hp->Prop,(∀G',Same G G'->R (out x).isSome G')->tt (some (enc x)::rest) G R)
   (he:∀x∈xs,∀v,out x=some v->∀G,Same H G->∀R:V->Hp->Prop,(∀G',Same G G'->R v G')->te (some (enc x)::rest) G R)
   (k:∀G,Same H G->G D=some (.lst (xs.filterMap out))->Q G):Zs (Rq K a) (Qw 0) tt te D (none::rest) H Q:=by
 have sD:Same H (upd H D (.lst [])):=λb o h=>by
   rw[qg (λe=>by rw[e,hD]at h;cases h)]
   exact h
 refine QJ (K:=K) (a:=a) (xs:=xs.map enc) (λi σ' G=>(∃v0,σ'=v0::rest)/\Same H G/\G D=some (.lst ((xs.take i).filterMap out))) ⟨⟨none,rfl⟩,sD,qd⟩ (λi σ' G _ ⟨_,s,_⟩=>.of (s _ _ ha)) ?_ ?_
 . rintro i y σ' G hy ⟨⟨v0,rfl⟩,s,hG⟩
   rw[List.getElem?_map]at hy
   cases ex:xs[i]? with
   | none=>rw[ex]at hy;cases hy
   | some x=>
     rw[ex]at hy
     obtain rfl:=(Option.some.inj hy).symm
     have hx:x∈xs:=List.mem_of_getElem? ex
     have et:(xs.take (i+1)).filterMap out=(xs.take i).filterMap out++(out x).toList:=by
       rw[List.take_add_one,ex,List.filterMap_append]
       cases c:out x<;>simp [c]
     show tt (some (enc x)::rest) G _
     refine ht x hx G s _ λG1 s1=>?_
     cases c:out x with
     | none=>
       show if false=true then _ else _
       rw[if_neg Bool.false_ne_true]
       refine⟨⟨_,rfl⟩,λb o h=>s1 _ _ (s _ _ h),?_⟩
       rw[et,c]
       simpa using s1 _ _ hG
     | some v=>
       show if true=true then _ else _
       rw[if_pos rfl]
       refine he x hx v c G1 (λb o h=>s1 _ _ (s _ _ h)) _ λG2 s2=>?_
       refine⟨_,s2 _ _ (s1 _ _ hG),?_,⟨_,rfl⟩,?_,?_⟩
       . refine Nat.lt_of_le_of_lt (List.length_filterMap_le _ _) ?_
         rw[List.length_take]
         omega
       . intro b o h
         rw[qg (λe=>by rw[e,hD]at h;cases h)]
         exact s2 _ _ (s1 _ _ (s _ _ h))
       . rw[et,c]
         exact qd
 . rintro σ' G ⟨_,s,hG⟩
   rw[List.length_map,List.take_of_length_le (Nat.le_refl _)]at hG
   exact k G s hG
theorem U0 {α:Type} {K:PySem.W.Frag} {a D:Addr} {xs:List α} {enc:α->V} {out:α->Option V} {rest:St} {H:Hp} {tt:TT} {te:TE} {Q:Hp->Prop} (hD:H D=none) (ha:H a=some (.tup (xs.map enc))) (len:xs.length < sizeLine)
   (ht:∀x∈xs,∀G,Same H G->∀R:Bool->Hp->Prop,(∀G',Same G G'->R (out x).isSome G')->tt (some (enc x)::rest) G R)
   (he:∀x∈xs,∀v,out x=some v->∀G,Same H G->∀R:V->Hp->Prop,(∀G',Same G G'->R v G')->te (some (enc x)::rest) G R)
   (k:∀G,Same H G->G D=some (.lst (xs.filterMap out))->Q G):Zs (KJ K a) (Qw 0) tt te D (none::rest) H Q:=by
 have sD:Same H (upd H D (.lst [])):=λb o h=>by
   rw[qg (λe=>by rw[e,hD]at h;cases h)]
   exact h
 refine UZ (K:=K) (a:=a) (xs:=xs.map enc) (λi σ' G=>(∃v0,σ'=v0::rest)/\Same H G/\G D=some (.lst ((xs.take i).filterMap out))) ⟨⟨none,rfl⟩,sD,qd⟩ (λi σ' G _ ⟨_,s,_⟩=>.of (s _ _ ha)) ?_ ?_
 . rintro i y σ' G hy ⟨⟨v0,rfl⟩,s,hG⟩
   rw[List.getElem?_map]at hy
   cases ex:xs[i]? with
   | none=>rw[ex]at hy;cases hy
   | some x=>
     rw[ex]at hy
     obtain rfl:=(Option.some.inj hy).symm
     have hx:x∈xs:=List.mem_of_getElem? ex
     have et:(xs.take (i+1)).filterMap out=(xs.take i).filterMap out++(out x).toList:=by
       rw[List.take_add_one,ex,List.filterMap_append]
       cases c:out x<;>simp [c]
     show tt (some (enc x)::rest) G _
     refine ht x hx G s _ λG1 s1=>?_
     cases c:out x with
     | none=>
       show if false=true then _ else _
       rw[if_neg Bool.false_ne_true]
       refine⟨⟨_,rfl⟩,λb o h=>s1 _ _ (s _ _ h),?_⟩
       rw[et,c]
       simpa using s1 _ _ hG
     | some v=>
       show if true=true then _ else _
       rw[if_pos rfl]
       refine he x hx v c G1 (λb o h=>s1 _ _ (s _ _ h)) _ λG2 s2=>?_
       refine⟨_,s2 _ _ (s1 _ _ hG),?_,⟨_,rfl⟩,?_,?_⟩
       . refine Nat.lt_of_le_of_lt (List.length_filterMap_le _ _) ?_
         rw[List.length_take]
         omega
       . intro b o h
         rw[qg (λe=>by rw[e,hD]at h;cases h)]
         exact s2 _ _ (s1 _ _ (s _ _ h))
       . rw[et,c]
         exact qd
 . rintro σ' G ⟨_,s,hG⟩
   rw[List.length_map,List.take_of_length_le (Nat.le_refl _)]at hG
   exact k G s hG
theorem u4 {n:Nat} {D:Addr} {out:Nat->Option V} {rest:St} {H:Hp} {tt:TT} {te:TE} {Q:Hp->Prop} (hD:H D=none) (len:n < sizeLine)
   (ht:∀x,x < n->∀G,Same H G->∀R:Bool->Hp->Prop,(∀G',Same G G'->R (out x).isSome G')->tt (some (.int (x:Int))::rest) G R)
   (he:∀x,x < n->∀v,out x=some v->∀G,Same H G->∀R:V->Hp->Prop,(∀G',Same G G'->R v G')->te (some (.int (x:Int))::rest) G R)
   (k:∀G,Same H G->G D=some (.lst ((List.range n).filterMap out))->Q G):Zs (KL 0 n) (Qw 0) tt te D (none::rest) H Q:=by
 have sD:Same H (upd H D (.lst [])):=λb o h=>by
   rw[qg (λe=>by rw[e,hD]at h;cases h)]
   exact h
 refine Jb (λi σ' G=>(∃v0,σ'=v0::rest)/\Same H G/\G D=some (.lst ((List.range i).filterMap out))) ⟨⟨none,rfl⟩,sD,qd⟩ ?_ ?_
 . rintro i σ' G hi ⟨⟨v0,rfl⟩,s,hG⟩
   rw[Int.zero_add]
   have et:(List.range (i+1)).filterMap out=(List.range i).filterMap out++(out i).toList:=by
     rw[List.range_succ,List.filterMap_append]
     cases c:out i<;>simp [c]
   show tt (some (.int (i:Int))::rest) G _
   refine ht i hi G s _ λG1 s1=>?_
   cases c:out i with
   | none=>
     show if false=true then _ else _
     rw[if_neg Bool.false_ne_true]
     refine⟨⟨_,rfl⟩,λb o h=>s1 _ _ (s _ _ h),?_⟩
     rw[et,c]
     simpa using s1 _ _ hG
   | some v=>
     show if true=true then _ else _
     rw[if_pos rfl]
     refine he i hi v c G1 (λb o h=>s1 _ _ (s _ _ h)) _ λG2 s2=>?_
     refine⟨_,s2 _ _ (s1 _ _ hG),?_,⟨_,rfl⟩,?_,?_⟩
     . refine Nat.lt_of_le_of_lt (List.length_filterMap_le _ _) ?_
       rw[List.length_range]
       omega
     . intro b o h
       rw[qg (λe=>by rw[e,hD]at h;cases h)]
       exact s2 _ _ (s1 _ _ (s _ _ h))
     . rw[et,c]
       exact qd
 . rintro σ' G ⟨_,s,hG⟩
   exact k G s hG
end L2
set_option Elab.async false
set_option linter.all false
set_option maxRecDepth 100000
set_option maxHeartbeats 4000000
namespace L2
open PySem PyProof.Rows
section
variable {prog:Program} {w:World} {KK:Type} [DecidableEq KK] {kd:HeapKind prog w KK} {A:Around} {E:Value->Shared->Prop} {s:Shared}
end
section
variable {X:Cx} {pins:List (Addr×Obj)} {σ:St} {H:Hp} {s:Shared} {a b:Addr} {v:V} {r:Value} {A:Around} {E:Value->Shared->Prop}
end
section
variable {X:Cx} {o e f:Expr} {apos cpos:Pos} {td ty tx:TE}
end
end L2
set_option Elab.async false
set_option linter.all false
set_option maxRecDepth 100000
set_option maxHeartbeats 4000000
namespace L2
open PySem PyProof.Rows
section
variable {X:Cx}
def Nb:R2:=λx y H Q=>∃a b xs ys,x=.ref a/\y=.ref b/\H a=some (.tup xs)/\H b=some (.tup ys)/\xs.length+ys.length<=sizeLine/\∀r H',Same H H'->H' r=some (.tup (xs++ys))->Q (.ref r) H'
theorem ub:Jv X (binaryOp .Add) Nb:=by
 intro pins s σ H x y v u Q I rx ry h
 obtain⟨a,b,xs,ys,rfl,rfl,ha,hb,hz,q⟩:=h
 cases rx
 cases ry
 have sq:∀{c:Addr} {zs:List V},H c=some (.tup zs)->SqT X.K H c zs:=λh=>.of h
 obtain⟨its,r1,p1,_⟩:=I.tuple (sq ha)
 obtain⟨its2,r2,p2,_⟩:=I.tuple (sq hb)
 have sm:Same H H:=λ_ _ h=>h
 by_cases hx:xs=[]
 . subst hx
   cases r1
   obtain⟨⟨c1,d1,e1,f1⟩,o1,k1,n1,g1⟩:=id p1
   obtain⟨⟨c2,d2,e2,f2⟩,o2,k2,n2,g2⟩:=id p2
   simp only at k1 g1 k2 g2
   subst k1 g1 k2 g2
   exact concat_meets ⟨_,o1,rfl⟩ ⟨_,o2,rfl⟩ noFill_tuple_add seq_tuple_add PySem.F.slot_tuple_add PySem.F.entry_tuple_add (PySem.F.args_tuple_add_2 _ _) (tuple_addW0 a b _ _ n1 n2 d1 d2 f1 f2 rfl) ⟨o1,o2,.ref b,H,I,rfl,q b H sm hb⟩
 . refine HT.cat_tup p1 p2 (λz=>hx (r1.nil_iff.mp z)) (λz=>⟨.ref a,H,I,rfl,q a H sm ?_⟩) (λz=>?_) (by rw[<-r1.length,<-r2.length];exact hz)
   . rw[r2.nil_iff.mp z,List.append_nil]
     exact ha
   . have fr:=I.hok.fresh (Nat.le_refl s.heap.objs.size)
     refine⟨.ref s.heap.objs.size,_,I.laid (t':=s.toks) (o:=.tup (xs++ys)) (λc ob e=>Heap.get?_push_of_some _ e) (Nat.le_refl _) ⟨by rw[List.length_append];exact hz,_,r1.append r2,IsTup.new _ _⟩,rfl,q _ _ (λc o e=>?_) qd⟩
     rw[qg (λw=>by rw[w,fr]at e;cases e)]
     exact e
end
end L2
set_option Elab.async false
set_option linter.all false
set_option maxRecDepth 100000
set_option maxHeartbeats 4000000
namespace L2
open PySem PySem.Spec PyProof.Rows
section
variable {X:Cx} {pins:List (Addr×Obj)} {σ:St} {H:Hp} {s:Shared} {tg:Expr}
def xO (o:Obj):Nat:=match o.data with
 | .dict _ ep=>ep
 | _=>0
theorem qx.freeze {a:Addr} {kvs:List (qD×V)} (I:qx X pins σ H s) (e:H a=some (.dK kvs)):∃o,qx X pins σ (upd H a (.frz o (.dK kvs))) s:=by
 obtain⟨z,hd,vs,rel,o,es,ep,ho,r⟩:=(show qH X.prog X.w H s.heap a (.dK kvs) from I.hok a _ e)
 have mu:Rn (H a):=by rw[e];exact True.intro
 have un:Un X.fs [] H (upd H a (.frz o (.dK kvs))) s.heap s.heap:=Un.write mu (.inl rfl) (λb u _ q=>q) ⟨o,ho⟩
 have ok:Jd X.prog X.w (upd H a (.frz o (.dK kvs))) s.heap:=I.hok.write mu (.inl rfl) (λb u _ q=>q) ⟨o,ho⟩ ⟨ho,z,hd,vs,rel,o,es,ep,ho,r⟩
 exact⟨o,I.un (t':=s.toks) un ok⟩
def N4 (te:TE):TE:=λσ H Q=>te σ H λx H1=>∃a kvs,x=.ref a/\H1 a=some (.dK kvs)/\∀o,Q x (upd H1 a (.frz o (.dK kvs)))
theorem VR {e:Expr} {te:TE} (h:JE X e te):JE X e (N4 te):=.of (by
 have h:=h.to
 intro pins s σ H Q I hw
 refine jf (h pins s σ H _ I hw) λv s1 ⟨x,H1,I1,r1,a,kvs,ex,ea,q⟩=>?_
 obtain⟨o,I2⟩:=I1.freeze ea
 exact⟨x,_,I2,r1,q o⟩)
def Rr (a:Addr) (o:Obj) (kvs:List (qD×V)) (zs:List Str):It:=
 ⟨λi H=>H a=some (.frz o (.dK kvs))/\i < zs.length,λi H x H'=>H'=H/\∃z,zs[i]?=some z/\x=.str z,λi H=>H a=some (.frz o (.dK kvs))/\i=zs.length⟩
theorem VX {P:Program} {w:World} {h:Heap} {a:Addr} {o:Obj} {kvs:List (qD×V)} (ok:Jd P w H h) (e:H a=some (.frz o (.dK kvs))):(a==sysModules)=false/\∃vs,KV kvs vs/\h.DictAt (qR P w) a vs (xO o):=by
 obtain⟨ho,z,hd,vs,rel,o',es,ep,ho',ex,dat,r⟩:=(show qH P w H h a (.frz o (.dK kvs)) from ok a _ e)
 rw[ho]at ho'
 cases ho'
 refine⟨hd,vs,rel,o,es,ho,ex,?_,r⟩
 unfold xO
 rw[dat]
theorem uE {P:Program} {w:World} {kvs:List (qD×V)} {vs:List (qD×Value)} {zs:List Str} (rel:KV kvs vs) (ek:kvs.map (·.1)=zs.map Sum.inr) {i:Nat} {z:Str} {k:qD} {y v:Value} (ez:zs[i]?=some z) (f1:vs[i]?=some (k,y)) (f2:(qR P w).is k v=true):qK (.str z) v:=by
 have hi:i < kvs.length:=by
   have h1:=(List.getElem?_eq_some_iff.mp ez).1
   have h2:kvs.length=zs.length:=by simpa using congrArg List.length ek
   omega
 obtain⟨q',g1,g2,_⟩:=Jh rel (List.getElem?_eq_getElem hi)
 rw[f1]at g1
 cases g1
 have h1:(kvs.map (·.1))[i]?=some kvs[i].1:=by rw[List.getElem?_map,List.getElem?_eq_getElem hi];rfl
 rw[ek,List.getElem?_map,ez]at h1
 have e3:k=Sum.inr z:=g2.symm.trans (Option.some.inj h1).symm
 subst e3
 rcases jh (show Yv (Sum.inr z) v=true from f2) with ⟨_,_,c,_⟩ | ⟨w',t,c,rfl⟩
 . cases c
 . cases c
   exact⟨t,rfl⟩
theorem ve {P:Program} {w:World} {K:PySem.W.Frag} (a it:Addr) (o:Obj) (kvs:List (qD×V)) (zs:List Str) (ek:kvs.map (·.1)=zs.map Sum.inr):W8 P w K tg (Rr a o kvs zs) [it] it (λi h=>h.IsKeyIter it a i zs.length (xO o)) where
 mem:=by simp
 obj:=λi h st b hb=>by
   have e:b=it:=by simpa using hb
   subst e
   obtain⟨o,e,c,d⟩:=st
   exact⟨o,e,λv z=>by rw[d]at z;cases z⟩
 keep:=λi h h' st k=>let ⟨o,e,r⟩:=st;⟨o,k it (by simp) o e,r⟩
 item:=by
   intro X hP hw hK hc i pins s σ H E I hf st hg
   subst hP hw hK
   obtain⟨f0,f1,f2,f3,f4,f5⟩:=hf it (by simp)
   obtain⟨ea,hi⟩:=hg
   obtain⟨_,vs,rel,dat⟩:=VX I.hok ea
   have lv:vs.length=zs.length:=by
     have h1:kvs.length=zs.length:=by simpa using congrArg List.length ek
     rw[<-Paired.length rel,h1]
   have ne:a≠it:=λe=>by rw[e,f0]at ea;cases ea
   rw[<-lv]at st
   refine(Walks.dictKeys (I.ok.hd hc) it a ne vs (xO o)).item i s _ _ (by omega) ⟨st,dat⟩ λv h' tk hv st' kk=>?_
   have I1:qx X pins σ H {s with heap:=h',toks:=tk}:=I.turned (λb o hb e=>kk b o (by simpa using hb) e) f0 f1 f3 f4 f5
   obtain⟨k,y,g1,g2⟩:=hv
   obtain⟨o2,e2,c2,d2⟩:=id st'.1
   refine⟨_,rfl,WS (s:={s with heap:=h',toks:=tk}) e2 c2 d2 (by decide) ⟨.str zs[i],H,I1,uE rel ek (List.getElem?_eq_getElem hi) g1 g2,⟨rfl,_,List.getElem?_eq_getElem hi,rfl⟩,?_,λb hb=>(hf b hb).1⟩⟩
   rw[<-lv]
   exact st'.1
 done:=by
   intro X hP hw hK hc i pins s σ H E I hf st hg
   subst hP hw hK
   obtain⟨f0,f1,f2,f3,f4,f5⟩:=hf it (by simp)
   obtain⟨ea,hi⟩:=hg
   obtain⟨_,vs,rel,dat⟩:=VX I.hok ea
   have lv:vs.length=zs.length:=by
     have h1:kvs.length=zs.length:=by simpa using congrArg List.length ek
     rw[<-Paired.length rel,h1]
   have ne:a≠it:=λe=>by rw[e,f0]at ea;cases ea
   subst hi
   rw[<-lv]at st
   exact(Walks.dictKeys (I.ok.hd hc) it a ne vs (xO o)).done s _ _ ⟨st,dat⟩ λh' tk kk=>⟨rfl,I.turned (λb o hb e=>kk b o (by simpa using hb) e) f0 f1 f3 f4 f5⟩
 self:=λ_ _ _ _ _ st h=>wpAny_pyIter_keyiter st h
def MG (tl:TE):TI:=λσ H R=>tl σ H λx H1=>∃a o kvs zs,x=.ref a/\H1 a=some (.frz o (.dK kvs))/\kvs.map (·.1)=zs.map Sum.inr/\R (Rr a o kvs zs) H1
theorem X6 {l:Expr} {tl:TE} (hl:JE X l tl):JI X tg l (MG tl):=.of (by
 have hl:=hl.to
 intro pins s σ H R I h
 refine jf (hl pins s σ H _ I h) λv s1 ⟨x,H1,I1,r1,q1⟩=>?_
 obtain⟨a,o,kvs,zs,e,ea,ek,q⟩:=q1
 subst e
 cases r1
 obtain⟨hd,vs,rel,dat⟩:=VX I1.hok ea
 have lv:vs.length=zs.length:=by
   have h1:kvs.length=zs.length:=by simpa using congrArg List.length ek
   rw[<-Paired.length rel,h1]
 refine wpAny_pyIter_dict hd dat ?_
 refine⟨s1.heap.objs.size,[s1.heap.objs.size],_,_,H1,rfl,I1.kept (t':=s1.toks) λb o e=>Heap.get?_push_of_some _ e,ve a _ o kvs zs ek,?_,λb hb=>?_,q⟩
 . rw[<-lv]
   exact⟨_,Heap.get?_push_size _ rfl,rfl,rfl⟩
 . have e:b=s1.heap.objs.size:=by simpa using hb
   subst e
   exact I1.fpOk (Nat.le_refl _) (I1.hok.fresh (Nat.le_refl _)))
end
section
variable {a:Addr} {o:Obj} {kvs:List (qD×V)} {zs:List Str} {g:TG} {σ:St} {H:Hp}
theorem Wc {tb:TS} {D:Qu} (Pv:Nat->St->Hp->Prop) (h0:Pv 0 σ H) (hl:∀i σ H,i<=zs.length->Pv i σ H->H a=some (.frz o (.dK kvs)))
   (hs:∀i z σ H,zs[i]?=some z->Pv i σ H->g (.str z) σ H λσ2 H2=>tb {D with nx:=Pv (i+1),ct:=Pv (i+1),bk:=D.nx} σ2 H2) (hd:∀σ H,Pv zs.length σ H->D.nx σ H):
   ∃W:Nat->Nat->St->Hp->Prop,(∃m,W 0 m σ H)/\∀i m σ H,W i m σ H->
    ((Rr a o kvs zs).stop i H/\D.nx σ H)\/((Rr a o kvs zs).go i H/\∃N:St->Hp->Prop,(∀σ' H',N σ' H'->∃m',m' < m/\W (i+1) m' σ' H')/\∀x H',(Rr a o kvs zs).yld i H x H'->g x σ H' λσ2 H2=>tb {D with nx:=N,ct:=N,bk:=D.nx} σ2 H2):=by
 refine⟨λi m σ H=>m=zs.length - i/\i<=zs.length/\Pv i σ H,⟨zs.length,by simp,Nat.zero_le _,h0⟩,?_⟩
 rintro i m σ H ⟨rfl,hi,p⟩
 have q:=hl i σ H hi p
 by_cases hlt:i < zs.length
 . refine .inr ⟨⟨q,hlt⟩,Pv (i+1),λσ' H' p'=>⟨zs.length - (i+1),by omega,rfl,hlt,p'⟩,λx H' y=>?_⟩
   obtain⟨e,z,ez,rfl⟩:=y
   subst e
   exact hs i z σ _ ez p
 . have e:i=zs.length:=by omega
   subst e
   exact .inl ⟨⟨q,rfl⟩,hd σ H p⟩
theorem u6 {tt:TT} {te:TE} {D:Addr} {Q:Hp->Prop} (Pv:Nat->St->Hp->Prop) (h0:Pv 0 σ (upd H D (.lst []))) (hl:∀i σ' H',i<=zs.length->Pv i σ' H'->H' a=some (.frz o (.dK kvs)))
   (hs:∀i z σ' H',zs[i]?=some z->Pv i σ' H'->g (.str z) σ' H' (YH tt te D (Pv (i+1)))) (hd:∀σ' H',Pv zs.length σ' H'->Q H'):Zs (Rr a o kvs zs) g tt te D σ H Q:=
 Z7 (n:=zs.length) Pv h0 (λi σ' H' hi p=>⟨⟨hl i σ' H' (Nat.le_of_lt hi) p,hi⟩,λx H2 y=>by
   obtain⟨e,z,ez,rfl⟩:=y
   subst e
   exact hs i z σ' _ ez p⟩) λσ' H' p=>⟨⟨hl _ σ' H' (Nat.le_refl _) p,rfl⟩,hd σ' H' p⟩
end
end L2
set_option Elab.async false
set_option linter.all false
set_option maxRecDepth 100000
set_option maxHeartbeats 4000000
namespace L2
open PySem PySem.Spec PyProof.Rows
section
variable {X:Cx} {pins pins0:List (Addr×Obj)} {σ σ0:St} {H H0:Hp} {s s0:Shared}
theorem qx.thaw {a:Addr} {o:Obj} {kvs kvs0:List (qD×V)} (I0:qx X pins0 σ0 H0 s0) (e0:H0 a=some (.dK kvs0)) (I:qx X pins σ H s) (e:H a=some (.frz o (.dK kvs))):qx X pins σ (upd H a (.dK kvs)) s:=by
 have nn:∀b,H b=none->b≠a:=λb q z=>by rw[z,e]at q;cases q
 refine⟨I.ok,I.os,I.bare,⟨I.base.keep,I.base.slot,λb o' q n hx=>?_,I.base.there,λb xs q=>?_,λb o' u q=>?_,λb ps q=>?_⟩,I.loc,I.cell,?_,λx c q=>?_,λp hp=>?_,λb u q=>?_,I.len⟩
 . have:=I.base.free b o' q n hx
   rw[qg (nn b this)];exact this
 . have:=I.base.tups b xs q
   rw[qg (λz=>by rw[z,e]at this;cases this)];exact this
 . have h1:=I.base.frzs b o' u q
   have h2:=I0.base.frzs b o' u q
   rw[qg (λz=>by rw[z,e0]at h2;cases h2)];exact h1
 . obtain⟨m,h1⟩:=I.base.tbls b ps q
   exact⟨m,by rw[qg (λz=>by rw[z,e]at h1;cases h1)];exact h1⟩
 . rw[qg (nn _ I.free)];exact I.free
 . rw[qg (nn _ (I.freeC x c q))];exact I.freeC x c q
 . obtain⟨h1,h2,h3⟩:=I.pin p hp
   exact⟨h1,by rw[qg (nn _ h2)];exact h2,h3⟩
 . have own:∀c y,H c=some (.own y)->upd H a (.dK kvs) c=some (.own y):=λc y z=>by rw[qg (λw=>by rw[w,e]at z;cases z)];exact z
   have tup:∀c xs,H c=some (.tup xs)->upd H a (.dK kvs) c=some (.tup xs):=λc y z=>by rw[qg (λw=>by rw[w,e]at z;cases z)];exact z
   by_cases hb:b=a
   . subst hb
     rw[qd]at q
     cases q
     obtain⟨_,ok⟩:=(show qH X.prog X.w H s.heap b (.frz o (.dK kvs)) from I.hok b _ e)
     exact ok.stay (λc w _ z=>z) (λc z=>own c _ z) tup
   . rw[qg hb]at q
     exact(I.hok b u q).stay (λc w _ z=>z) (λc z=>own c _ z) tup
end
def Qu.thaw (D:Qu) (a:Addr) (o:Obj) (kvs:List (qD×V)):Qu:={nx:=λσ H=>H a=some (.frz o (.dK kvs))/\D.nx σ (upd H a (.dK kvs)),rt:=λv H=>H a=some (.frz o (.dK kvs))/\D.rt v (upd H a (.dK kvs)),bk:=λσ H=>H a=some (.frz o (.dK kvs))/\D.bk σ (upd H a (.dK kvs)),ct:=λσ H=>H a=some (.frz o (.dK kvs))/\D.ct σ (upd H a (.dK kvs))}
def RW (ts:TS):TS:=λD σ H=>∃a kvs,H a=some (.dK kvs)/\∀o,ts (D.thaw a o kvs) σ (upd H a (.frz o (.dK kvs)))
theorem uF {X:Cx} {st:Stmt} {ts:TS} (h:JS X st ts):JS X st (RW ts):=.of (by
 have h:=h.to
 intro pins s σ H D I hw
 obtain⟨a,kvs,ea,q⟩:=hw
 obtain⟨o,I2⟩:=I.freeze ea
 refine wpAny_mono (h pins s σ _ _ I2 (q o)) (λf s1 z=>?_) (λ_ _ z=>z)
 cases f with
 | next=>obtain⟨σ1,H1,I1,e1,q1⟩:=z;exact⟨σ1,_,I.thaw ea I1 e1,q1⟩
 | brk=>obtain⟨σ1,H1,I1,e1,q1⟩:=z;exact⟨σ1,_,I.thaw ea I1 e1,q1⟩
 | cont=>obtain⟨σ1,H1,I1,e1,q1⟩:=z;exact⟨σ1,_,I.thaw ea I1 e1,q1⟩
 | ret u=>obtain⟨v,σ1,H1,I1,r1,e1,q1⟩:=z;exact⟨v,σ1,_,I.thaw ea I1 e1,r1,q1⟩)
section
variable {X:Cx}
def R6 (K:PySem.W.Frag):R2:=λx y H Q=>∃(a b:Addr) (kvs kws:List (qD×V)),x=.ref a/\y=.ref b/\Rd H a (.dK kvs)/\Rd H b (.dK kws)/\kvs.length=kws.length/\(∀p∈kvs,∃u d,qQ kws p.1=some u/\DV K H p.2 d/\DV K H u d/\PySem.SeqAt.shaped d=true)/\Q (.bl false) H
theorem ym {P:Program} {w:World} {H:Hp} {h:Heap} {a:Addr} {kvs:List (qD×V)} (ok:Jd P w H h) (e:Rd H a (.dK kvs)):(a==sysModules)=false/\∃vs,KV kvs vs/\h.DictOf (qR P w) a vs:=by
 obtain⟨_,hd,vs,rel,d⟩:=e.ok ok
 exact⟨hd,vs,rel,d⟩
theorem w9 (hu:X.A.units+70 < cLine):Jv X (compareOp .NotEq) (R6 X.K):=by
 intro pins s σ H x y v u Q I rx ry h
 obtain⟨a,b,kvs,kws,rfl,rfl,ea,eb,len,all,q⟩:=h
 cases rx
 cases ry
 obtain⟨hda,va,ra,da⟩:=ym I.hok ea
 obtain⟨hdb,vb,rb,db⟩:=ym I.hok eb
 have la:=Paired.length ra
 have lb:=Paired.length rb
 have hits:∀(l:List (qD×V)) (m:List (qD×Value)),KV l m->(∀p∈l,p∈kvs)->PySem.W.KeqHits X.A.in1 s vb m true:=by
   intro l m r
   induction r with
   | nil=>intro _;exact .nil
   | @cons p p' l m r1 r2 ih=>
     intro hin
     obtain⟨w1,d,e1,d1,d2,sh⟩:=all p (hin p (List.mem_cons_self ..))
     have rel:=rb.val p.1
     rw[e1]at rel
     obtain⟨k,y⟩:=p'
     obtain⟨ek,rv⟩:=r1
     cases hv:valueAt vb p.1 with
     | none=>rw[hv]at rel;exact rel.elim
     | some y'=>
       rw[hv]at rel
       obtain⟨as,r3⟩:=d1.reads I rv
       obtain⟨bs,r4⟩:=d2.reads I rel
       have e2:=PySem.W.keq_at (A:=X.A) (s:=s) r3 r4 sh sh (by show X.A.units+1+64 < cLine;omega)
       rw[YC sh]at e2
       have:=PySem.W.KeqHits.hit (A:=X.A.in1) (s:=s) (kb:=vb) (k:=k) (v:=y) (r:=m) (e:=true) (b:=true) (by have ek':p.1=k:=ek;rw[<-ek'];exact hv) e2 (ih λp hp=>hin p (List.mem_cons_of_mem _ hp))
       exact this
 refine PySem.W.keq_ne (r:=true) hda hdb da db (by omega) (λ_=>hits kvs va ra λ_ h=>h) ⟨.bl _,H,I,?_,q⟩
 show Value.bool _=Value.bool _
 rw[<-la,<-lb,len]
 simp
theorem Jx (b:Str) (u:Tok) (l:Addr) (c:Value) (es:Array DictEntry) (ep:Nat) (dd:Option Addr) (sl:Array (Option Value)):
   Meets (Builtin.«str.__eq__» ⟨[.str b u,.ref l],[]⟩) (λ_ R s=>s.heap.get? l=some {cls:=c,dict:=dd,data:=.dict es ep,slots:=sl}/\R (.ok (.ret .notImplemented)) s):=
 .of_wp λprog w A R s h=>by obtain⟨hp,g,d,tk,os⟩:=s;obtain⟨hl,h⟩:=h;wp_walk using wpAny_loadPart' hl,wpAny_load hl;exact⟨_,rfl,h⟩
theorem WG {A:Around} {s:Shared} {l:Addr} {P:Program} {W:World} {vs:List (qD×Value)} (b:Str) (u:Tok) (hl:s.heap.DictOf (qR P W) l vs) (hu:A.units < cLine):SeqAt.RcAt A s (.str b u) (.ref l) false:=λprog w E Q h=>by
 obtain⟨⟨cls,dd,data,sl⟩,es,ep,ho,hc,hd,_⟩:=id hl
 have ti:=hl.typeIs
 obtain⟨hc1,_⟩:=hc
 simp only at hc1 hd
 subst hc1 hd
 refine SeqAt.rc_eq_decline_or (k:=false) (typeIs_str s b u) ti (by decide) F.sub_dict_str F.slot_str_eq F.slot_dict_eq_refl
   (λ_ hq=>call_meets F.slot_str_eq (typeIs_str s b u) F.entry_str_eq (F.args_str_eq_2 _ _) (Jx b u l _ es ep dd sl) ⟨ho,hq⟩)
   (λQ' hq=>wpAny_call_entry PySem.F.slot_dict_eq_refl ti PySem.F.entry_dict_eq ?_ (PySem.F.args_dict_eq_2 _ _))
   (λ_ hq=>wpAny_of_eq (rfl:isSame (.str b u) (.ref l)=pure false) hq) (.inr hu) h
 show wpAny _ _ (Builtin.Dict.dictSlotArgs "__eq__" ⟨[.ref l,.str b u],[]⟩ >>= _) _ _ s
 refine wpAny_bind ?_
 unfold Builtin.Dict.dictSlotArgs
 refine wpAny_bind (wpAny_notOrdered_dict ti ?_)
 show wpAny _ _ (pure (Value.ref l,Value.str b u)) _ _ s
 refine wpAny_pure ?_
 refine wpAny_bind (wpAny_isInstance (T:="str") (typeIs_str s b u) PySem.F.sub_str_dict ?_)
 simp only[Bool.not_false,if_true]
 exact wpAny_bind (wpAny_rule (wpAny_pure ⟨_,rfl,hq⟩))
theorem WX {A:Around} {s:Shared} {l:Addr} {P:Program} {W:World} {vs:List (qD×Value)} (b:Str) (u:Tok) (hl:s.heap.DictOf (qR P W) l vs) (hu:A.units < cLine):SeqAt.EqAt A s (.str b u) (.ref l) false:=λprog w E Q h=>by
 unfold eqBool
 refine wpAny_holding ?_
 refine wpAny_ite_split (λhab=>absurd (eq_of_beq hab) nofun) (λ_=>?_)
 exact wpAny_bind (WG b u hl hu prog w E _ (wpAny_truthy_bool h))
def yu (K:PySem.W.Frag):R2:=λx y H Q=>∃(a p:Addr) (kvs:List (qD×V)) (zs:List Str),x=.ref a/\y=.ref p/\H a=some (.dK kvs)/\SqL K H p (zs.map V.str)/\Q (.bl true) H
theorem yJ (hu:X.A.units+64 < cLine):Jv X (compareOp .NotIn) (yu X.K):=by
 intro pins s σ H x y v u Q I rx ry h
 obtain⟨a,p,kvs,zs,rfl,rfl,ea,hp,q⟩:=h
 cases rx
 cases ry
 obtain⟨hda,va,ra,da⟩:=ym I.hok (.inl ea)
 obtain⟨its,rv,pl,_⟩:=I.list hp
 refine SeqAt.notIn_listAt (λ_=>false) pl.isList (λy hy=>?_) ⟨.bl true,H,I,?_,q⟩
 . have hy':y∈its:=by simpa using hy
   obtain⟨i,hi,e⟩:=List.getElem_of_mem hy'
   have l:=rv.length
   obtain⟨y',e1,r1⟩:=Jh rv (List.getElem?_eq_getElem (by omega:i < (zs.map V.str).length))
   rw[List.getElem?_eq_getElem hi,e]at e1
   cases e1
   rw[List.getElem_map]at r1
   obtain⟨t,rfl⟩:=r1
   exact WX _ t da (by show X.A.units+1 < cLine;omega)
 . show Value.bool _=Value.bool _
   simp
def wX (K:PySem.W.Frag):R2:=λx y H Q=>R9 K true x y H Q\/yu K x y H Q
theorem vE (hu:X.A.units+64 < cLine):Jv X (compareOp .NotIn) (wX X.K):=λpins s σ H x y v u Q I rx ry h=>
 h.elim (λh=>vF hu pins s σ H x y v u Q I rx ry h) λh=>yJ hu pins s σ H x y v u Q I rx ry h
def K4 (K:PySem.W.Frag):R2:=λx y H Q=>∃(a b:Addr) (v:V),x=.ref a/\y=.ref b/\SqL K H a [v]/\SqL K H b [v]/\((∃c,v=.ref c)\/∃d,DV K H v d/\PySem.SeqAt.shaped (.list [d])=true)/\Q (.bl false) H
theorem yK (hu:X.A.units+64 < cLine):Jv X (compareOp .NotEq) (K4 X.K):=by
 intro pins s σ H x y v u Q I rx ry h
 obtain⟨a,b,v1,rfl,rfl,ha,hb,hv,q⟩:=h
 rcases hv with ⟨c,rfl⟩ | ⟨d,dv,sh⟩
 . cases rx
   cases ry
   obtain⟨its,rv,pl,_⟩:=I.list ha
   obtain⟨its2,rv2,pl2,_⟩:=I.list hb
   obtain⟨w1,rfl,r1⟩:=Qv rv
   obtain⟨w2,rfl,r2⟩:=Qv rv2
   cases r1
   cases r2
   exact EqBoolInt.of_rcne (SeqAt.RcNeAt.lists (e:=λ_=>true) pl.isList pl2.isList rfl (by omega) λj h1 h2=>by
     have e1:j=0:=by have:j < 1:=h1;omega
     subst e1
     exact SeqAt.EqAt.same _) ⟨.bl _,H,I,rfl,q⟩
 . exact XT hu pins s σ H _ _ v u Q I rx ry ⟨.list [d],.lst ha (.cons dv .nil),.lst hb (.cons dv .nil),sh,q⟩
end
end L2
namespace L2
open PySem PyProof.Rows
theorem u5 {a D:Addr} {o:Obj} {kvs:List (qD×V)} {zs:List Str} {out:Str->Option V} {rest:St} {H:Hp} {tt:TT} {te:TE} {Q:Hp->Prop} (hD:H D=none) (ha:H a=some (.frz o (.dK kvs))) (len:zs.length < sizeLine)
   (ht:∀x∈zs,∀G,Same H G->∀R:Bool->Hp->Prop,(∀G',Same G G'->R (out x).isSome G')->tt (some (.str x)::rest) G R)
   (he:∀x∈zs,∀v,out x=some v->∀G,Same H G->∀R:V->Hp->Prop,(∀G',Same G G'->R v G')->te (some (.str x)::rest) G R)
   (k:∀G,Same H G->G D=some (.lst (zs.filterMap out))->Q G):Zs (Rr a o kvs zs) (Qw 0) tt te D (none::rest) H Q:=by
 have sD:Same H (upd H D (.lst [])):=λb o h=>by
   rw[qg (λe=>by rw[e,hD]at h;cases h)]
   exact h
 refine u6 (λi σ' G=>(∃v0,σ'=v0::rest)/\Same H G/\G D=some (.lst ((zs.take i).filterMap out))) ⟨⟨none,rfl⟩,sD,qd⟩ (λi σ' G _ ⟨_,s,_⟩=>s _ _ ha) ?_ ?_
 . rintro i x σ' G ex ⟨⟨v0,rfl⟩,s,hG⟩
   have hx:x∈zs:=List.mem_of_getElem? ex
   have et:(zs.take (i+1)).filterMap out=(zs.take i).filterMap out++(out x).toList:=by
     rw[List.take_add_one,ex,List.filterMap_append]
     cases c:out x<;>simp [c]
   show tt (some (.str x)::rest) G _
   refine ht x hx G s _ λG1 s1=>?_
   cases c:out x with
   | none=>
     show if false=true then _ else _
     rw[if_neg Bool.false_ne_true]
     refine⟨⟨_,rfl⟩,λb o h=>s1 _ _ (s _ _ h),?_⟩
     rw[et,c]
     simpa using s1 _ _ hG
   | some v=>
     show if true=true then _ else _
     rw[if_pos rfl]
     refine he x hx v c G1 (λb o h=>s1 _ _ (s _ _ h)) _ λG2 s2=>?_
     refine⟨_,s2 _ _ (s1 _ _ hG),?_,⟨_,rfl⟩,?_,?_⟩
     . refine Nat.lt_of_le_of_lt (List.length_filterMap_le _ _) ?_
       rw[List.length_take]
       omega
     . intro b o h
       rw[qg (λe=>by rw[e,hD]at h;cases h)]
       exact s2 _ _ (s1 _ _ (s _ _ h))
     . rw[et,c]
       exact qd
 . rintro σ' G ⟨_,s,hG⟩
   rw[List.take_of_length_le (Nat.le_refl _)]at hG
   exact k G s hG
end L2
set_option Elab.async false
set_option linter.all false
set_option maxRecDepth 100000
set_option maxHeartbeats 4000000
namespace HT
open PySem PySem.Spec PyProof.Rows
section
variable {prog:Program} {w:World} {A:Around} {E:Value->Shared->Prop} {s:Shared}
theorem getItem_tuple_whole {t sl:Addr} {items:Array Value} {vl vu:Value} {lo hi:Option Int} {Q:Value->Shared->Prop} (ht:IsTup s.heap t items) (hs:s.heap.IsSliceOf sl vl vu .none) (pl:IsPart vl lo) (pu:IsPart vu hi)
   (hw:sIx items.size 0 lo=0/\sIx items.size items.size hi=items.size) (h:Q (.ref t) s):wpAny (model prog w) A (getItem (.ref t) (.ref sl)) Q E s:=by
 obtain⟨os,hos,hcs,hds⟩:=id hs
 have hTs:s.TypeIs (.ref sl) "slice":=⟨os,hos,hcs⟩
 unfold getItem
 try with_reducible refine wpAny_holding ?_
 first | refine wpAny_bind (wpAny_pure ?_) | skip
 refine wpAny_bind (wpAny_sequenceKey ht.typeIs (by decide) ?_)
 refine wpAny_bind (wpAny_callSpecial?_slot (name:=Str.ofString "__getitem__") ht.typeIs PyProof.Rows.slot_tuple_getitem
   (wpAny_call_entry PyProof.Rows.slot_tuple_getitem ht.typeIs entry_tuple_getitem ?_ (args_tuple_getitem _ _)))
 show wpAny _ _ (Builtin.Tuple.tupleItemsOf (.ref t) >>= _) _ _ s
 refine wpAny_bind (tupleItemsOf_ ht ?_)
 refine wpAny_bind (wpAny_typeOf hTs ?_)
 rw[if_pos (by decide)]
 refine wpAny_bind (Q3 hs pl pu ?_)
 have hno:(((sIx items.size 0 lo:Nat):Int)==0&&(1:Int)==1&&(sIx items.size items.size hi - sIx items.size 0 lo)==items.size)=true:=by
   rw[hw.1,hw.2]
   simp
 show wpAny _ _ (if (((sIx items.size 0 lo:Nat):Int)==0&&(1:Int)==1&&(sIx items.size items.size hi - sIx items.size 0 lo)==items.size)=true then _ else _) _ _ s
 rw[if_pos hno]
 refine wpAny_bind ?_
 unfold Builtin.Tuple.tupleIsExact
 refine wpAny_bind (wpAny_typeOf ht.typeIs (wpAny_pure ?_))
 rw[if_pos (by decide)]
 first
   | exact wpAny_bind (wpAny_rule (wpAny_pure ⟨_,rfl,wpAny_pure h⟩))
   | exact wpAny_bind (wpAny_rule (wpAny_bind (wpAny_pure (wpAny_pure ⟨_,rfl,wpAny_pure h⟩))))
end
end HT
namespace L2
open PySem PySem.Spec PyProof.Rows
section
variable {X:Cx}
def RZ (K:PySem.W.Frag):V->Option Int->Option Int->Hp->VK->Prop:=λx lo hi H Q=>R4 K x lo hi H Q\/∃a xs,x=.ref a/\SqT K H a xs/\(HT.sIx xs.length 0 lo=0/\HT.sIx xs.length xs.length hi=xs.length)/\Q (.ref a) H
theorem wD:NE X (RZ X.K):=by
 intro pins s σ H x v vl vu lo hi sl Q I rx hs pl pu h
 rcases h with h | ⟨a,xs,rfl,hx,hw,q⟩
 . exact k6 pins s σ H x v vl vu lo hi sl Q I rx hs pl pu h
 . cases rx
   obtain⟨its,r,ht,hz⟩:=I.tuple hx
   have hlen:its.toArray.size=xs.length:=by rw[List.size_toArray];exact r.length.symm
   exact⟨"tuple",_,PyProof.Rows.slot_tuple_getitem.lookup,ht.typeIs,HT.getItem_tuple_whole ht hs pl pu (by rw[hlen];exact hw) ⟨.ref a,H,I,rfl,q⟩⟩
end
end L2
namespace L2
open PySem PyProof.Rows
theorem xV {K:PySem.W.Frag} {a D:Addr} {xs:List V} {g:TG} {tt:TT} {te:TE} {σ:St} {H:Hp} {Q:Hp->Prop} (Pv:Nat->St->Hp->Prop) (h0:Pv 0 σ (upd H D (.lst []))) (hl:∀i σ' H',i<=xs.length->Pv i σ' H'->SqL K H' a xs)
   (hs:∀i x σ' H' p,xs[i]?=some x->H' p=none->Pv i σ' H'->g (.ref p) σ' (upd H' p (.tup [.int (i:Nat),x])) (YH tt te D (Pv (i+1)))) (hd:∀σ' H',Pv xs.length σ' H'->Q H'):Zs (RA K a) g tt te D σ H Q:=
 Z7 (n:=xs.length) Pv h0 (λi σ' H' hi p=>⟨⟨xs,xs[i],hl i σ' H' (Nat.le_of_lt hi) p,by simp [hi]⟩,λx H2 y=>by
   obtain⟨pp,hp,rfl,e⟩:=y
   rw[e xs _ (hl i σ' H' (Nat.le_of_lt hi) p) (List.getElem?_eq_getElem hi)]
   exact hs i _ σ' H' pp (List.getElem?_eq_getElem hi) hp p⟩) λσ' H' p=>⟨⟨xs,hl _ σ' H' (Nat.le_refl _) p,Nat.le_refl _⟩,hd σ' H' p⟩
end L2
namespace Rb
def setN (ns:List Nat):Nat:=ns.foldl (λb n=>b ||| 2^n) 0
def memN (b n:Nat):List Nat:=(List.range n).filter λi=>b.testBit i
def Lacks (r:Nat) (ns:List Nat):Prop:=r∉ns/\∀x,x < r->x∈ns
theorem xK (ns:List Nat):∀b k,(ns.foldl (λb n=>b ||| 2^n) b).testBit k=(b.testBit k || decide (k∈ns)):=by
 induction ns with
 | nil=>intro b k;simp
 | cons n ns ih=>
   intro b k
   rw[List.foldl_cons,ih,Nat.testBit_or,Nat.testBit_two_pow]
   by_cases h:n=k
   . subst h;simp
   . have h':¬k=n:=λe=>h e.symm
     simp [h,h']
theorem testBit_setN (ns:List Nat) (k:Nat):(setN ns).testBit k=decide (k∈ns):=by
 unfold setN
 rw[xK]
 simp
theorem mem_memN {b n i:Nat}:i∈memN b n↔i < n/\b.testBit i=true:=by
 unfold memN
 simp
theorem Ws {b k m:Nat} (h:b < 2^m) (hk:m<=k):b.testBit k=false:=Nat.testBit_lt_two_pow (Nat.lt_of_lt_of_le h (Nat.pow_le_pow_right (by decide) hk))
theorem Xc {b m:Nat} (h:b < 2^m):∀n,m<=n->memN b n=memN b m:=by
 intro n hn
 obtain⟨k,rfl⟩:=Nat.le.dest hn
 unfold memN
 rw[List.range_add,List.filter_append]
 have e:((List.range k).map (m+·)).filter (λi=>b.testBit i)=[]:=by
   rw[List.filter_eq_nil_iff]
   intro i hi
   obtain⟨j,_,rfl⟩:=List.mem_map.mp hi
   rw[Ws h (Nat.le_add_right _ _)]
   simp
 rw[e,List.append_nil]
theorem memN_same {b m n:Nat} (hm:b < 2^m) (hn:b < 2^n):memN b n=memN b m:=by
 by_cases h:m<=n
 . exact Xc hm n h
 . exact(Xc hn m (by omega)).symm
theorem setN_lt {ns:List Nat} {m:Nat} (h:∀x∈ns,x < m):setN ns < 2^m:=by
 refine Nat.lt_pow_two_of_testBit _ λi hi=>?_
 rw[testBit_setN]
 refine decide_eq_false λz=>?_
 have:=h i z
 omega
theorem pigeon:∀(n:Nat) (ns:List Nat),(∀x,x < n->x∈ns)->n<=ns.length:=by
 intro n
 induction n with
 | zero=>intro ns _;exact Nat.zero_le _
 | succ n ih=>
   intro ns h
   have hn:n∈ns:=h n (Nat.lt_succ_self n)
   have:=ih (ns.erase n) λx hx=>(List.mem_erase_of_ne (by omega)).mpr (h x (Nat.lt_succ_of_lt hx))
   rw[List.length_erase_of_mem hn]at this
   have hp:0 < ns.length:=List.length_pos_of_mem hn
   omega
theorem Lacks.uniq {r s:Nat} {ns:List Nat} (h:Lacks r ns) (g:Lacks s ns):r=s:=by
 rcases Nat.lt_trichotomy r s with z | z | z
 . exact absurd (g.2 r z) h.1
 . exact z
 . exact absurd (h.2 s z) g.1
def Jr (ns:List Nat):Nat->Nat
 | 0=>0
 | i+1=>if Jr ns i∈ns then Jr ns i+1 else Jr ns i
theorem VP (ns:List Nat):∀i,(∀x,x < Jr ns i->x∈ns)/\Jr ns i<=i/\(Jr ns i < i->Jr ns i∉ns):=by
 intro i
 induction i with
 | zero=>exact⟨λx hx=>absurd hx (Nat.not_lt_zero _),Nat.le_refl _,λh=>absurd h (Nat.lt_irrefl _)⟩
 | succ i ih=>
   obtain⟨h1,h2,h3⟩:=ih
   unfold Jr
   by_cases h:Jr ns i∈ns
   . rw[if_pos h]
     refine⟨λx hx=>?_,by omega,λhlt=>absurd h (h3 (by omega))⟩
     by_cases e:x=Jr ns i
     . rw[e];exact h
     . exact h1 x (by omega)
   . rw[if_neg h]
     exact⟨h1,by omega,λ_=>h⟩
theorem lackI_lacks (ns:List Nat):Lacks (Jr ns (ns.length+1)) ns:=by
 obtain⟨h1,h2,h3⟩:=VP ns (ns.length+1)
 refine⟨h3 ?_,h1⟩
 have:=pigeon _ _ h1
 omega
def lackN (ns:List Nat):Nat:=Jr ns (ns.length+1)
theorem lackN_eq {r:Nat} {ns:List Nat} (h:Lacks r ns):r=lackN ns:=h.uniq (lackI_lacks ns)
theorem memN_succ (b i:Nat):memN b (i+1)=memN b i++(if b.testBit i then [i] else []):=by
 unfold memN
 rw[List.range_succ,List.filter_append]
 congr 1
 by_cases h:b.testBit i=true
 . simp [h]
 . simp [h]
theorem testBit_div (b i:Nat):b.testBit i=decide (b / 2^i % 2=1):=by
 rw[Nat.testBit_eq_decide_div_mod_eq]
theorem setN_snoc (ns:List Nat) (n:Nat):setN (ns++[n])=setN ns ||| 2^n:=by unfold setN;rw[List.foldl_append];rfl
end Rb
namespace Rb
inductive W where
 | num (n:Nat)
 | edl (b:Nat)
deriving DecidableEq
def okW:W->Prop
 | .num n=>n < 16
 | .edl b=>b < 65536
end Rb
set_option linter.all false
namespace MLab
def NY (ns:List Nat):Nat:=ns.foldr (λa b=>a^^^b) 0
section
variable {α:Type} (G:α->List α)
structure Kb (ok:α->Prop) (num:α->Option Nat) (stp:α->Nat):Prop where
 cl:∀{x y},ok x->y∈G x->ok y
 n1:∀{x n m},ok x->num x=some n->m < n->∃y∈G x,num y=some m/\stp y < stp x
 n2:∀{x y n},ok x->num x=some n->y∈G x->num y≠some n
 n3:∀{x y n},ok x->num x=some n->y∈G x->(∀m,num y=some m->n < m)->∃z∈G y,num z=some n/\stp z < stp x
 n4:∀{x y n m},ok x->num x=some n->y∈G x->num y=some m->m < n->stp y < stp x
 e:∀{x m},ok x->num x=none->(∀j,j < m->∃y∈G x,num y=some j)->(∀y∈G x,num y≠some m)->∃y∈G x,num y=none/\∀z∈G y,num z≠some m
section
variable {β:Type} (M:β->List β)
mutual
inductive NH:β->Prop
 | mk {a:β} (h:∀b∈M a,Won b):NH a
inductive Won:β->Prop
 | mk {a b:β} (m:b∈M a) (h:NH b):Won a
end
end
def mv:List α->List (List α)
 | []=>[]
 | x::h=>(G x).map (λy=>y::h)++(mv h).map (λb=>x::b)
variable {G} {ok:α->Prop} {num:α->Option Nat} {stp:α->Nat}
def Mp (num:α->Option Nat) (h:List α):List Nat:=h.filterMap num
def ends (num:α->Option Nat) (h:List α):Nat:=(h.filter λx=>(num x).isNone).length
def Drawn (G:α->List α) (num:α->Option Nat) (h:List α):Prop:=(∃p x q,h=p++x::q/\num x=none/\ends num (p++q)=0/\∀y∈G x,num y≠some (NY (Mp num (p++q))))\/2<=ends num h
end
section
variable {α:Type} [DecidableEq α] (G:α->List α) (N:List α)
abbrev Rs (α:Type):=List (Nat×List α)
def qB (rs:Rs α) (z:α):Option Nat:=(rs.find? λr=>decide (z∈r.2)).map (·.1)
def jD (rs:Rs α) (z:α):Nat:=rs.findIdx λr=>decide (z∈r.2)
def zt (f:α->Option Nat) (x:α) (n:Nat):Prop:=(∀j,j < n->∃y∈G x,f y=some j)/\(∀y∈G x,f y≠some n)/\∀y∈G x,f y=none->∃z∈G y,f z=some n
structure Wl (rs:Rs α) (n:Nat) (ns:List α):Prop where
 iff:∀x,x∈ns↔x∈N/\qB rs x=none/\zt G (qB rs) x n
 sub:ns.Sublist N
inductive j0 (n:Nat):Rs α->Rs α->Prop
 | stop {rs:Rs α} (h:Wl G N rs n []):j0 n rs rs
 | more {rs rs':Rs α} {ns:List α} (h:Wl G N rs n ns) (ne:ns≠[]) (k:j0 n (rs++[(n,ns)]) rs'):j0 n rs rs'
inductive All:Nat->Rs α->Rs α->Prop
 | stop {n:Nat} {rs:Rs α} (h:Wl G N rs n []):All n rs rs
 | more {n:Nat} {rs rs' rs'':Rs α} (h:j0 G N n rs rs') (ne:rs'≠rs) (k:All (n+1) rs' rs''):All n rs rs''
variable {G N}
theorem Ja {rs:Rs α} {n:Nat} {ns:List α} {z:α}:qB (rs++[(n,ns)]) z=match qB rs z with | some m=>some m | none=>if z∈ns then some n else none:=by
 unfold qB
 rw[List.find?_append]
 cases e:rs.find? (λr=>decide (z∈r.2)) with
 | some r=>rfl
 | none=>
   by_cases c:z∈ns
   . simp [c]
   . simp [c]
theorem QQ {rs:Rs α} {z:α}:qB rs z=none↔∀r∈rs,z∉r.2:=by
 unfold qB
 rw[Option.map_eq_none_iff,List.find?_eq_none]
 simp
theorem QN {rs:Rs α} {n m:Nat} {ns:List α} {z:α} (h:qB rs z=some m):jD (rs++[(n,ns)]) z=jD rs z/\jD rs z < rs.length:=by
 have ex:∃r∈rs,z∈r.2:=Classical.byContradiction λno=>by
   have:=QQ.mpr λr hr hz=>no ⟨r,hr,hz⟩
   rw[h]at this
   cases this
 obtain⟨r,hr,hz⟩:=ex
 have lt:jD rs z < rs.length:=List.findIdx_lt_length_of_exists ⟨r,hr,decide_eq_true hz⟩
 refine⟨?_,lt⟩
 unfold jD at lt ⊢
 rw[List.findIdx_append,if_pos lt]
theorem Ut {rs:Rs α} {n:Nat} {ns:List α} {z:α} (h:qB rs z=none) (hz:z∈ns):jD (rs++[(n,ns)]) z=rs.length:=by
 have e:jD rs z=rs.length:=by
   unfold jD
   rw[List.findIdx_eq_length]
   intro r hr
   exact decide_eq_false (QQ.mp h r hr)
 unfold jD at e ⊢
 rw[List.findIdx_append,if_neg (by rw[e];exact Nat.lt_irrefl _)]
 simp [hz,List.findIdx_cons]
variable (G N) in
structure KG (rs:Rs α) (n:Nat):Prop where
 inN:∀{x m},qB rs x=some m->x∈N
 le:∀{x m},qB rs x=some m->m<=n
 n1:∀{x k m},qB rs x=some k->m < k->∃y∈G x,qB rs y=some m/\jD rs y < jD rs x
 n2:∀{x y k},qB rs x=some k->y∈G x->qB rs y≠some k
 n3:∀{x y k},qB rs x=some k->y∈G x->(∀m,qB rs y=some m->k < m)->∃z∈G y,qB rs z=some k/\jD rs z < jD rs x
 n4:∀{x y k m},qB rs x=some k->y∈G x->qB rs y=some m->m < k->jD rs y < jD rs x
theorem Zd {rs:Rs α} {n m:Nat} {ns:List α} {z:α} (h:qB rs z=some m):qB (rs++[(n,ns)]) z=some m:=by rw[Ja,h]
theorem US {rs:Rs α} {n:Nat} {ns:List α} {z:α} (h:qB rs z=none) (hz:z∈ns):qB (rs++[(n,ns)]) z=some n:=by
 rw[Ja,h]
 exact if_pos hz
theorem jV {rs:Rs α} {n m:Nat} {ns:List α} {z:α} (h:qB (rs++[(n,ns)]) z=some m):(qB rs z=some m/\jD (rs++[(n,ns)]) z=jD rs z/\jD rs z < rs.length)\/(qB rs z=none/\z∈ns/\m=n/\jD (rs++[(n,ns)]) z=rs.length):=by
 cases e:qB rs z with
 | some k=>
   rw[Zd e]at h
   cases h
   exact .inl ⟨rfl,QN e⟩
 | none=>
   rw[Ja,e]at h
   by_cases c:z∈ns
   . have h:(if z∈ns then some n else none)=some m:=h
     rw[if_pos c]at h
     cases h
     exact .inr ⟨rfl,c,rfl,Ut e c⟩
   . have h:(if z∈ns then some n else none)=some m:=h
     rw[if_neg c]at h
     cases h
theorem xL {rs:Rs α} {n:Nat} {ns:List α} {z:α} (h:qB (rs++[(n,ns)]) z=none):qB rs z=none:=by
 cases e:qB rs z with
 | none=>rfl
 | some k=>rw[Zd e]at h;cases h
theorem KG.more {rs:Rs α} {n:Nat} {ns:List α} (v:KG G N rs n) (r:Wl G N rs n ns):KG G N (rs++[(n,ns)]) n:=by
 refine⟨λ{x m} h=>?_,λ{x m} h=>?_,λ{x k m} h lt=>?_,λ{x y k} h hy e=>?_,λ{x y k} h hy gt=>?_,λ{x y k m} h hy ey lt=>?_⟩
 . rcases jV h with ⟨h,_⟩ | ⟨_,h,_⟩
   . exact v.inN h
   . exact((r.iff x).mp h).1
 . rcases jV h with ⟨h,_⟩ | ⟨_,_,rfl,_⟩
   . exact v.le h
   . exact Nat.le_refl _
 . rcases jV h with ⟨h,es,_⟩ | ⟨h,hx,rfl,es⟩
   . obtain⟨y,hy,ey,ly⟩:=v.n1 h lt
     exact⟨y,hy,Zd ey,by rw[es,(QN ey).1];exact ly⟩
   . obtain⟨y,hy,ey⟩:=((r.iff x).mp hx).2.2.1 m lt
     exact⟨y,hy,Zd ey,by rw[es,(QN (n:=k) (ns:=ns) ey).1];exact(QN (n:=k) (ns:=ns) ey).2⟩
 . rcases jV h with ⟨h,_⟩ | ⟨h,hx,rfl,_⟩
   . rcases jV e with ⟨e,_⟩ | ⟨e1,hy',e2,_⟩
     . exact v.n2 h hy e
     . obtain⟨z,hz,ez,_⟩:=v.n3 h hy (λm q=>by rw[e1]at q;cases q)
       rw[e2]at ez
       exact((r.iff y).mp hy').2.2.2.1 z hz ez
   . have g:=((r.iff x).mp hx).2.2
     rcases jV e with ⟨e,_⟩ | ⟨e,hy',_,_⟩
     . exact g.2.1 y hy e
     . obtain⟨z,hz,ez⟩:=g.2.2 y hy e
       exact((r.iff y).mp hy').2.2.2.1 z hz ez
 . rcases jV h with ⟨h,es,_⟩ | ⟨h,hx,rfl,es⟩
   . obtain⟨z,hz,ez,lz⟩:=v.n3 h hy (λm q=>gt m (Zd q))
     exact⟨z,hz,Zd ez,by rw[es,(QN ez).1];exact lz⟩
   . have bare:qB rs y=none:=by
       cases e:qB rs y with
       | none=>rfl
       | some m=>
         have:=gt m (Zd e)
         have:=v.le e
         omega
     obtain⟨z,hz,ez⟩:=((r.iff x).mp hx).2.2.2.2 y hy bare
     exact⟨z,hz,Zd ez,by rw[es,(QN (n:=k) (ns:=ns) ez).1];exact(QN (n:=k) (ns:=ns) ez).2⟩
 . rcases jV h with ⟨h,es,_⟩ | ⟨h,hx,rfl,es⟩
   . rcases jV ey with ⟨ey,es',_⟩ | ⟨_,_,em,_⟩
     . rw[es,es']
       exact v.n4 h hy ey lt
     . have:=v.le h
       omega
   . rcases jV ey with ⟨ey,es',l'⟩ | ⟨_,_,rfl,_⟩
     . rw[es,es']
       exact l'
     . omega
variable (G N) in
def EP (rs:Rs α) (m:Nat):Prop:=∀x∈N,qB rs x=none->(∀j,j < m->∃y∈G x,qB rs y=some j)->(∀y∈G x,qB rs y≠some m)->∃y∈G x,qB rs y=none/\∀z∈G y,qB rs z≠some m
theorem xN {rs:Rs α} {n:Nat} (r:Wl G N rs n []):EP G N rs n:=λx hx e lo hi=>Classical.byContradiction λno=>by
 refine absurd ((r.iff x).mpr ⟨hx,e,lo,hi,λy hy ey=>Classical.byContradiction λq=>no ⟨y,hy,ey,λz hz ez=>q ⟨z,hz,ez⟩⟩⟩) (by simp)
theorem uY {rs:Rs α} {n m:Nat} {ns:List α} (v:KG G N rs n) (r:Wl G N rs n ns) (lt:m < n) (h:EP G N rs m):EP G N (rs++[(n,ns)]) m:=λx hx e lo hi=>by
 have old:∀{z j},j<=m->qB (rs++[(n,ns)]) z=some j->qB rs z=some j:=λ{z j} hj ez=>by
   rcases jV ez with ⟨ez,_⟩ | ⟨_,_,rfl,_⟩
   . exact ez
   . omega
 obtain⟨y,hy,ey,ly⟩:=h x hx (xL e) (λj hj=>let ⟨y,hy,ey⟩:=lo j hj;⟨y,hy,old (by omega) ey⟩) (λy hy ey=>hi y hy (Zd ey))
 refine⟨y,hy,?_,λz hz ez=>ly z hz (old (Nat.le_refl _) ez)⟩
 cases q:qB (rs++[(n,ns)]) y with
 | none=>rfl
 | some k=>
   rcases jV q with ⟨q,_⟩ | ⟨_,hy',rfl,_⟩
   . rw[ey]at q;cases q
   . obtain⟨z,hz,ez⟩:=((r.iff y).mp hy').2.2.1 m lt
     exact absurd ez (ly z hz)
theorem uP {n:Nat} {rs rs':Rs α} (g:j0 G N n rs rs'):KG G N rs n->(∀m,m < n->EP G N rs m)->KG G N rs' n/\∀m,m<=n->EP G N rs' m:=by
 induction g with
 | stop r=>exact λv h=>⟨v,λm hm=>by
     rcases Nat.lt_or_ge m n with c | c
     . exact h m c
     . have:m=n:=by omega
       subst this
       exact xN r⟩
 | more r ne k ih=>exact λv h=>ih (v.more r) λm hm=>uY v r hm (h m hm)
theorem Rj (cl:∀x∈N,∀y∈G x,y∈N) {n:Nat} {rs rs':Rs α} (a:All G N n rs rs'):KG G N rs n->(∀x m,qB rs x=some m->m < n)->(∀m,m < n->EP G N rs m)->Kb G (·∈N) (qB rs') (jD rs'):=by
 induction a with
 | @stop n rs r=>
   intro v lt h
   refine⟨λ{x y} hx hy=>cl x hx y hy,λ{x n m} _=>v.n1,λ{x y n} _=>v.n2,λ{x y n} _=>v.n3,λ{x y n m} _=>v.n4,λ{x m} hx e lo hi=>?_⟩
   rcases Nat.lt_trichotomy m n with c | rfl | c
   . exact h m c x hx e lo hi
   . exact xN r x hx e lo hi
   . obtain⟨y,_,ey⟩:=lo n c
     have:=lt y n ey
     omega
 | @more n rs rs1 rs2 g ne k ih=>
   intro v lt h
   obtain⟨v',h'⟩:=uP g v h
   exact ih ⟨v'.inN,λ{x m} e=>Nat.le_succ_of_le (v'.le e),v'.n1,v'.n2,v'.n3,v'.n4⟩ (λx m e=>Nat.lt_succ_of_le (v'.le e)) λm hm=>h' m (by omega)
theorem wm (n:Nat):KG G N ([]:Rs α) n:=⟨λh=>(nomatch h),λh=>(nomatch h),λh=>(nomatch h),λh=>(nomatch h),λh=>(nomatch h),λh=>(nomatch h)⟩
theorem xj (cl:∀x∈N,∀y∈G x,y∈N) {rs:Rs α} (a:All G N 0 [] rs):Kb G (·∈N) (qB rs) (jD rs):=Rj cl a (wm 0) (λx m h=>(nomatch h)) λm h=>absurd h (Nat.not_lt_zero m)
end
end MLab
set_option linter.all false
namespace MLab
section
variable {α:Type} (G:α->List α)
def gS:α ⊕ Nat->List (α ⊕ Nat)
 | .inl z=>(G z).map .inl
 | .inr h=>(List.range h).map .inr
def VG (num:α->Option Nat):α ⊕ Nat->Option Nat
 | .inl z=>num z
 | .inr h=>some h
variable {G} {ok:α->Prop} {num:α->Option Nat} {stp:α->Nat}
def two (b:α×Nat):List (α ⊕ Nat):=[.inl b.1,.inr b.2]
end
section
variable {β:Type} {M:β->List β}
end
end MLab
set_option linter.all false
namespace MLab
section
variable {α:Type} [DecidableEq α] {G:α->List α} {N:List α}
theorem Zt:∀{l m:List α},l.Sublist m->m.Nodup->l=m.filter λx=>decide (x∈l)
 | _,_,.slnil,_=>rfl
 | l,a::m,.cons _ h,nd=>by
   rw[List.nodup_cons]at nd
   have na:a∉l:=λz=>nd.1 (h.subset z)
   rw[List.filter_cons,if_neg (by simpa using na)]
   exact Zt h nd.2
 | a::l,_::m,.cons₂ _ h,nd=>by
   rw[List.nodup_cons]at nd
   rw[List.filter_cons,if_pos (by simp)]
   congr 1
   have e:=Zt h nd.2
   refine e.trans (List.filter_congr λx hx=>?_)
   have ne:x≠a:=λz=>nd.1 (z▸hx)
   simp [ne]
theorem Wl.uniq (nd:N.Nodup) {rs:Rs α} {n:Nat} {ns ms:List α} (a:Wl G N rs n ns) (b:Wl G N rs n ms):ns=ms:=by
 rw[Zt a.sub nd,Zt b.sub nd]
 exact List.filter_congr λx _=>decide_eq_decide.mpr ((a.iff x).trans (b.iff x).symm)
theorem j0.uniq (nd:N.Nodup) {n:Nat} {rs a b:Rs α} (h:j0 G N n rs a):j0 G N n rs b->a=b:=by
 induction h with
 | stop r=>
   intro k
   cases k with
   | stop _=>rfl
   | more r' ne _=>exact absurd (r'.uniq nd r) ne
 | more r ne k ih=>
   intro k'
   cases k' with
   | stop r'=>exact absurd (r.uniq nd r') ne
   | more r' _ k2=>
     have:=r.uniq nd r'
     subst this
     exact ih k2
theorem j0.same {n:Nat} {rs:Rs α} (h:j0 G N n rs rs):Wl G N rs n []:=by
 have len:∀{rs a:Rs α},j0 G N n rs a->rs.length<=a.length:=λ{rs a} h=>by
   induction h with
   | stop _=>exact Nat.le_refl _
   | more r ne k ih=>
     rw[List.length_append]at ih
     omega
 generalize e:rs=a at h
 have e':rs=a:=e
 cases h with
 | stop r=>exact r
 | more r ne k=>
   have:=len k
   rw[List.length_append,List.length_singleton]at this
   omega
theorem All.uniq (nd:N.Nodup) {n:Nat} {rs a b:Rs α} (h:All G N n rs a):All G N n rs b->a=b:=by
 induction h with
 | stop r=>
   intro k
   cases k with
   | stop _=>rfl
   | more g ne _=>
     have:=g.uniq nd (j0.stop r)
     exact absurd this ne
 | more g ne k ih=>
   intro k'
   cases k' with
   | stop r'=>exact absurd (g.uniq nd (j0.stop r')) ne
   | more g' _ k2=>
     have:=g.uniq nd g'
     subst this
     exact ih k2
variable (G N) in
inductive YR:Nat->Rs α->Prop
 | nil:YR 0 []
 | more {n:Nat} {rs rs':Rs α} (h:YR n rs) (g:j0 G N n rs rs'):YR (n+1) rs'
theorem uQ {n m:Nat} {rs rs':Rs α} (g:j0 G N n rs rs') (h:∀r∈rs,r.1 < m) (lt:n < m):∀r∈rs',r.1 < m:=by
 induction g with
 | stop _=>exact h
 | more r ne k ih=>
   exact ih λx hx=>by
     rcases List.mem_append.mp hx with hx | hx
     . exact h x hx
     . rw[List.mem_singleton.mp hx];exact lt
theorem YR.lt {n:Nat} {rs:Rs α} (u:YR G N n rs):∀r∈rs,r.1 < n:=by
 induction u with
 | nil=>intro r h;cases h
 | more h g ih=>exact uQ g (λr hr=>Nat.lt_succ_of_lt (ih r hr)) (Nat.lt_succ_self _)
theorem Ra {n m:Nat} {rs:Rs α} (h:∀r∈rs,r.1 < n) {x:α} (e:qB rs x=some m):m < n:=by
 unfold qB at e
 obtain⟨r,hr,e2⟩:=Option.map_eq_some_iff.mp e
 rw[<-e2]
 exact h r (List.mem_of_find?_eq_some hr)
theorem vP {n m:Nat} {rs rs':Rs α} (h:∀r∈rs,r.1 < n) (lt:n < m) (g:j0 G N m rs rs'):rs'=rs:=by
 cases g with
 | stop _=>rfl
 | more r ne k=>
   exfalso
   rename_i ns
   obtain⟨x,t,e⟩:=List.exists_cons_of_ne_nil ne
   have hx:=((r.iff x).mp (by rw[e];exact List.mem_cons_self)).2.2
   obtain⟨y,_,ey⟩:=hx.1 n lt
   exact absurd (Ra h ey) (Nat.lt_irrefl _)
theorem Xg {n:Nat} {rs rs':Rs α} (g:j0 G N n rs rs') {x:α} {m:Nat} (e:qB rs x=some m):qB rs' x=some m:=by
 induction g with
 | stop _=>exact e
 | more _ _ _ ih=>exact ih (Zd e)
theorem xG {n:Nat} {rs rs':Rs α} (g:j0 G N n rs rs') (ne:rs'≠rs):∃x∈N,qB rs' x=some n:=by
 cases g with
 | stop _=>exact absurd rfl ne
 | more r ne' k=>
   rename_i ns
   obtain⟨x,t,e⟩:=List.exists_cons_of_ne_nil ne'
   have hx:x∈ns:=by rw[e];exact List.mem_cons_self
   have h:=(r.iff x).mp hx
   exact⟨x,h.1,Xg k (US h.2.1 hx)⟩
theorem YR.run {n:Nat} {rs:Rs α} (u:YR G N n rs):(All G N 0 [] rs/\∃m,m < n/\∀r∈rs,r.1 < m)\/((∀j,j < n->∃x∈N,qB rs x=some j)/\∀R',All G N n rs R'->All G N 0 [] R'):=by
 induction u with
 | nil=>exact .inr ⟨λj h=>absurd h (Nat.not_lt_zero j),λR' h=>h⟩
 | @more n rs rs' h g ih=>
   rcases ih with ⟨a,m,hm,lt⟩ | ⟨al,k⟩
   . have e:=vP lt hm g
     subst e
     exact .inl ⟨a,m,by omega,lt⟩
   . by_cases e:rs'=rs
     . subst e
       exact .inl ⟨k _ (.stop (j0.same g)),n,Nat.lt_succ_self _,h.lt⟩
     . refine .inr ⟨λj hj=>?_,λR' a=>k R' (.more g e a)⟩
       rcases Nat.lt_or_ge j n with c | c
       . obtain⟨x,hx,ex⟩:=al j c
         exact⟨x,hx,Xg g ex⟩
       . have:j=n:=by omega
         subst this
         exact xG g e
theorem Gq {l m:List α}:l.Nodup->(∀z∈l,z∈m)->l.length<=m.length:=by
 induction l generalizing m with
 | nil=>exact λ_ _=>Nat.zero_le _
 | cons a l ih=>
   intro hn h
   rw[List.nodup_cons]at hn
   have ha:=h a List.mem_cons_self
   have:=ih (m:=m.erase a) hn.2 λz hz=>(List.mem_erase_of_ne (λ(e:z=a)=>hn.1 (e▸hz))).mpr (h z (List.mem_cons_of_mem _ hz))
   rw[List.length_erase_of_mem ha]at this
   have:=List.length_pos_of_mem ha
   rw[List.length_cons]
   omega
theorem YR.whole {M:Nat} {R:Rs α} (u:YR G N M R) (len:N.length < M):All G N 0 [] R:=by
 rcases u.run with ⟨a,_⟩ | ⟨al,_⟩
 . exact a
 . exfalso
   have:=Gq (l:=List.range M) (m:=N.filterMap (qB R)) List.nodup_range λj hj=>by
     obtain⟨x,hx,ex⟩:=al j (List.mem_range.mp hj)
     exact List.mem_filterMap.mpr ⟨x,hx,ex⟩
   rw[List.length_range]at this
   have:=List.length_filterMap_le (qB R) N
   omega
end
end MLab
set_option linter.all false
namespace MLab
section
variable {α:Type} [DecidableEq α] {G:α->List α} {N:List α}
structure YM (N:List α) (rs:Rs α):Prop where
 ne:∀r∈rs,r.2≠[]
 sub:∀r∈rs,r.2.Sublist N
 one:∀(i j:Nat) (r t:Nat×List α) (z:α),rs[i]?=some r->rs[j]?=some t->z∈r.2->z∈t.2->i=j
theorem YM.nil:YM N ([]:Rs α):=⟨λr h=>(nomatch h),λr h=>(nomatch h),λi j r t z h=>(nomatch h)⟩
theorem YM.more {rs:Rs α} {n:Nat} {ns:List α} (a:YM N rs) (r:Wl G N rs n ns) (ne:ns≠[]):YM N (rs++[(n,ns)]):=by
 have ot:∀(i:Nat) (r':Nat×List α) (z:α),rs[i]?=some r'->z∈r'.2->z∉ns:=λi r' z e hz hn=>QQ.mp ((r.iff z).mp hn).2.1 r' (List.mem_of_getElem? e) hz
 have cs:∀{i:Nat} {x:Nat×List α},(rs++[(n,ns)])[i]?=some x->(rs[i]?=some x)\/(i=rs.length/\x=(n,ns)):=λ{i x} h=>by
   rcases Nat.lt_or_ge i rs.length with c | c
   . rw[List.getElem?_append_left c]at h;exact .inl h
   . rw[List.getElem?_append_right c]at h
     cases e:i - rs.length with
     | zero=>rw[e]at h;exact .inr ⟨by omega,(Option.some.inj h).symm⟩
     | succ k=>rw[e]at h;cases h
 refine⟨λx h=>?_,λx h=>?_,λi j x t z h1 h2 m1 m2=>?_⟩
 . rcases List.mem_append.mp h with h | h
   . exact a.ne x h
   . rw[List.mem_singleton.mp h];exact ne
 . rcases List.mem_append.mp h with h | h
   . exact a.sub x h
   . rw[List.mem_singleton.mp h];exact r.sub
 . rcases cs h1 with e1 | ⟨e1,rfl⟩<;>rcases cs h2 with e2 | ⟨e2,rfl⟩
   . exact a.one i j x t z e1 e2 m1 m2
   . exact absurd m2 (ot i x z e1 m1)
   . exact absurd m1 (ot j t z e2 m2)
   . omega
theorem j0.apt {n:Nat} {rs R:Rs α} (g:j0 G N n rs R):YM N rs->YM N R:=by
 induction g with
 | stop r=>exact id
 | more r ne k ih=>exact λa=>ih (a.more r ne)
theorem All.apt {n:Nat} {rs R:Rs α} (g:All G N n rs R):YM N rs->YM N R:=by
 induction g with
 | stop r=>exact id
 | more r ne k ih=>exact λa=>ih (r.apt a)
theorem YM.in_ {R:Rs α} (a:YM N R) {i:Nat} {r:Nat×List α} (e:R[i]?=some r) {z:α}:z∈r.2↔(qB R z).isSome=true/\jD R z=i:=by
 constructor
 . intro hz
   have hr:=List.mem_of_getElem? e
   refine⟨?_,?_⟩
   . cases c:qB R z with
     | none=>exact absurd hz (QQ.mp c r hr)
     | some m=>rfl
   . have lt:R.findIdx (λr=>decide (z∈r.2)) < R.length:=List.findIdx_lt_length_of_exists ⟨r,hr,decide_eq_true hz⟩
     have h1:=List.findIdx_getElem (w:=lt)
     exact a.one _ i _ r z (List.getElem?_eq_getElem lt) e (of_decide_eq_true h1) hz
 . rintro⟨h1,h2⟩
   have ex:∃x∈R,decide (z∈x.2)=true:=by
     refine Classical.byContradiction λno=>?_
     have:qB R z=none:=QQ.mpr λx hx hz=>no ⟨x,hx,decide_eq_true hz⟩
     rw[this]at h1;cases h1
   have lt:R.findIdx (λr=>decide (z∈r.2)) < R.length:=List.findIdx_lt_length_of_exists ex
   have h3:=List.findIdx_getElem (w:=lt)
   have h4:R[R.findIdx (λr=>decide (z∈r.2))]?=some R[R.findIdx (λr=>decide (z∈r.2))]:=List.getElem?_eq_getElem lt
   have h5:R.findIdx (λr=>decide (z∈r.2))=i:=h2
   have h6:R[i]?=some R[R.findIdx (λr=>decide (z∈r.2))]:=(congrArg (λk=>R[k]?) h5).symm.trans h4
   rw[e]at h6
   rw[<-Option.some.inj h6]at h3
   exact of_decide_eq_true h3
theorem YM.round (nd:N.Nodup) {R:Rs α} (a:YM N R) {i:Nat} {r:Nat×List α} (e:R[i]?=some r):r.2=N.filter λz=>(qB R z).isSome&&decide (jD R z=i):=by
 rw[Zt (a.sub r (List.mem_of_getElem? e)) nd]
 refine List.filter_congr λz _=>?_
 rw[show (decide (z∈r.2))=decide ((qB R z).isSome=true/\jD R z=i) from decide_eq_decide.mpr (a.in_ e)]
 cases qB R z<;>simp
theorem YM.step {R:Rs α} {z:α} {m:Nat} (e:qB R z=some m):jD R z < R.length:=by
 refine List.findIdx_lt_length_of_exists ?_
 refine Classical.byContradiction λno=>?_
 have:qB R z=none:=QQ.mpr λx hx hz=>no ⟨x,hx,decide_eq_true hz⟩
 rw[this]at e;cases e
end
end MLab
namespace MLab
section
variable {α:Type} [DecidableEq α] {N:List α}
theorem YM.each {R:Rs α} (a:YM N R) {i:Nat} (h:i < R.length):∃z∈N,(qB R z).isSome=true/\jD R z=i:=by
 have e:R[i]?=some R[i]:=List.getElem?_eq_getElem h
 have hr:=List.mem_of_getElem? e
 obtain⟨z,zs,ez⟩:=List.exists_cons_of_ne_nil (a.ne _ hr)
 have hz:z∈(R[i]).2:=by rw[ez];exact List.mem_cons_self ..
 exact⟨z,(a.sub _ hr).subset hz,(a.in_ e).mp hz⟩
end
end MLab
set_option Elab.async false
set_option linter.all false
set_option maxRecDepth 100000
set_option maxHeartbeats 4000000
namespace Rh
open PySem L2
def top (i:Nat):Stmt:=PySem.Challenge.pw_ringheaps_k41_labels_found.main.body.getD i (.Pass ⟨0,0,0,0⟩)
abbrev Zz:Stmt:=top 16
abbrev Uw:Stmt:=top 51
abbrev zy:Stmt:=top 52
abbrev zX:Stmt:=top 53
abbrev zZ:Stmt:=top 54
abbrev z7:Stmt:=top 55
abbrev Us:Stmt:=top 56
abbrev XL:Stmt:=top 67
end Rh
namespace Rh
open PySem L2 PyProof.Rows
structure je (K:PySem.W.Frag) (mg:Str->Option Value) (x:Str) (st:Stmt) (ps:List Str) (f:Addr) (fd:FuncData):Prop where
 fn:jQ K x x st f fd
 ns:mg x=some (.ref f)
 bi:jK K fd ps []
theorem qJ {X:Cx} {x:Str} {st:Stmt} {ps:List Str} {f:Addr} {fd:FuncData} {k:Nat} {sp:Sp} {e:Expr} {es:List Expr} {t:TA} {p pos:Pos} (h:je X.K X.mg x st ps f fd) (G:qp X.prog X.w X.K X.mg X.base qM k f fd ps sp) (hr:q5 k X.A)
   (hg:Gl X x) (ha:JA X (e::es) t) (hdb:(x==("__debug__":Str))=false:=by decide) (he:starEach (e::es) X.env=(false,eval e X.env)::starEach es X.env:=by rfl) (hpl:(backTo pos (starEach es X.env)).any (·.1)=false:=by rfl):
   JE X (.Call (.Name x p) (e::es) [] pos) (zQ sp [] E0 t):=.of (UC G hr hg h.ns h.fn.kp h.bi .nil Zb ha.to hdb he hpl)
theorem qm {H:Hp} {b p:Addr} {o o':HO} (h:H b=some o) (hp:H p=none):upd H p o' b=some o:=by
 rw[qg (ql h hp)]
 exact h
theorem qj {H:Hp} {p:Addr} {o:HO} (hp:H p=none):Same H (upd H p o):=λb u h=>qm h hp
theorem Same.upd {H H':Hp} {p:Addr} {o:HO} (s:Same H H') (hp:H p=none):Same H (upd H' p o):=λb u h=>by
 rw[qg (ql h hp)]
 exact s b u h
def src (n s t:Int):List (qD×V):=[(Sum.inr "number",.int n),(Sum.inr "seed",.int s),(Sum.inr "turn",.int t)]
theorem NT:¬(Str.ofString "number")=Str.ofString "seed":=by decide+kernel
theorem Mr:¬(Str.ofString "number")=Str.ofString "turn":=by decide+kernel
theorem Mq:¬(Str.ofString "seed")=Str.ofString "turn":=by decide+kernel
theorem nsn:¬(Str.ofString "seed")=Str.ofString "number":=by decide+kernel
theorem ntn:¬(Str.ofString "turn")=Str.ofString "number":=by decide+kernel
theorem nts:¬(Str.ofString "turn")=Str.ofString "seed":=by decide+kernel
theorem xB {a b:Str} (h:¬a=b):¬(Sum.inr a:qD)=Sum.inr b:=λe=>h (Sum.inr.inj e)
section
variable {H:Hp} {d:Addr} {n s t:Int}
theorem gN (h:H d=some (.dK (src n s t))):jB H d (.str "number") (some (.int n)):=by
 have e:qQ (src n s t) (Sum.inr "number":qD)=some (.int n):=ji rfl
 have q:=jB.k (k:=(Sum.inr "number":qD)) h
 rw[e]at q
 exact q
theorem gS (h:H d=some (.dK (src n s t))):jB H d (.str "seed") (some (.int s)):=by
 have e:qQ (src n s t) (Sum.inr "seed":qD)=some (.int s):=(jk (xB NT)).trans (ji rfl)
 have q:=jB.k (k:=(Sum.inr "seed":qD)) h
 rw[e]at q
 exact q
theorem gT (h:H d=some (.dK (src n s t))):jB H d (.str "turn") (some (.int t)):=by
 have e:qQ (src n s t) (Sum.inr "turn":qD)=some (.int t):=(jk (xB Mr)).trans ((jk (xB Mq)).trans (ji rfl))
 have q:=jB.k (k:=(Sum.inr "turn":qD)) h
 rw[e]at q
 exact q
theorem RM:(src n s t).length < sizeLine:=qo (by show 3<=1000;decide)
theorem pN (h:H d=some (.dK (src n s t))) (v:Int):QM H d (.str "number") (.int v) (upd H d (.dK (src v s t))):=by
 have e:jy (src n s t) (Sum.inr "number":qD) (.int v)=src v s t:=by
   unfold jy src
   simp [nsn,ntn]
 have q:=QM.k (k:=(Sum.inr "number":qD)) (v:=.int v) h RM
 rw[e]at q
 exact q
theorem pT (h:H d=some (.dK (src n s t))) (v:Int):QM H d (.str "turn") (.int v) (upd H d (.dK (src n s v))):=by
 have e:jy (src n s t) (Sum.inr "turn":qD) (.int v)=src n s v:=by
   unfold jy src
   simp [Mr,Mq]
 have q:=QM.k (k:=(Sum.inr "turn":qD)) (v:=.int v) h RM
 rw[e]at q
 exact q
end
def zS:Sp:=λvs H Q _=>∃(d:Addr) (m n s t:Int),vs=[.ref d,.int m]/\H d=some (.dK (src n s t))/\0 < m/\m.natAbs < 2^200/\∀r n' t',0<=r->r < m->Q (.int r) (upd H d (.dK (src n' s t')))
def Wx:Sp:=λvs H Q _=>∃c:Int,vs=[.int c]/\∀d n s,H d=none->Q (.ref d) (upd H d (.dK (src n s 0)))
def k4 (K:PySem.W.Frag):Sp:=λvs H Q _=>∃(a:Addr) (ns:List Int) (k:Int),vs=[.ref a,.int k]/\SqL K H a (ns.map V.int)/\0<=k/\∀v,Q (.int v) H
section
variable {P:Program} {w:World} {K:PySem.W.Frag} {mg:Str->Option Value} {base:Heap}
theorem XI:qv ["_law_source_here","_law_many","_law_digit","_law_number"] ["_law_source_here","_law_many"] (qk zX):=⟨rfl,rfl,rfl,by decide+kernel,rfl,by decide+kernel,by decide+kernel⟩
theorem zC {f:Addr} {fd:FuncData} (F:jQ K "_law_take" "_law_take" zX f fd):qp P w K mg base qM 1 f fd ["_law_source_here","_law_many"] zS:=by
 refine F.okJ XI (λvs H Q E h=>?_) (λcdv A outer s H vs Q E hr h=>?_)
 . obtain⟨d,m,n,sd,t,rfl,_⟩:=h
   rfl
 . obtain⟨d,m,n,sd,t,rfl,hd,m0,m1,k⟩:=h
   have hu:=jA hr
   refine⟨_,qe (qL (qu Y8 (qG hu (jv 0) qS (λ_ _=>rfl)) qi (qz _))
       (qe (qw (i:=2) XI.nd rfl (Or.inl rfl) (qI Jj (qG hu (jv 0) qS (λ_ _=>rfl)) (jv 1)))
       (qe (jl hu (jv 0) qS (qI yM (qG hu (jv 0) qS (λ_ _=>rfl)) (jv 1)) rfl)
       (qh (qA (jv 2))))) qC)
     (qe (jl hu (jv 0) qS (qI Qr (qG hu (jv 0) qS (λ_ _=>rfl)) qi) rfl)
     (qe (qw (i:=3) XI.nd rfl (Or.inl rfl) (qI Jj (qI Ji (qI Qr (qG hu (jv 0) qS (λ_ _=>rfl)) (qI Ji qi (qG hu (jv 0) qS (λ_ _=>rfl)))) qi) qi))
     (qe (qw (i:=3) XI.nd rfl (Or.inl rfl) (qI Jj (qI Ji (jv 3) (jv 3)) qi))
     (qh (qA (qI Jj (qI ua (qI Jj (qI Ji (qI Qr (jv 3) (qG hu (jv 0) qS (λ_ _=>rfl))) (qI Qr (jv 3) qi)) qi) qi) (jv 1))))))),?_⟩
   refine⟨_,rfl,d,_,rfl,gN hd,_,_,rfl,rfl,_,rfl,?_⟩
   refine ka (λ_=>?_) (λ_=>?_)
   . refine⟨_,rfl,d,_,rfl,gN hd,_,rfl,_,_,rfl,rfl,m0,?_⟩
     refine⟨_,rfl,d,_,rfl,gN hd,_,rfl,_,_,rfl,rfl,⟨m0,m1⟩,_,rfl,d,_,rfl,pN hd _,?_⟩
     exact⟨_,rfl,k _ _ _ (Int.emod_nonneg _ (by omega)) (Int.emod_lt_of_pos _ m0)⟩
   . refine⟨_,rfl,d,_,rfl,gT hd,_,_,rfl,rfl,_,rfl,d,_,rfl,pT hd _,?_⟩
     have h1:upd H d (.dK (src n sd (t+1))) d=some (.dK (src n sd (t+1))):=qd
     refine⟨_,rfl,d,_,rfl,gS h1,_,rfl,d,_,rfl,gT h1,_,_,rfl,rfl,.inl ⟨by decide,by decide⟩,_,_,rfl,rfl,_,_,rfl,rfl,.inr ⟨by decide,by decide⟩,_,_,rfl,rfl,(by show (0:Int) < 2147483647;decide),?_⟩
     generalize ha:((sd+7919*(t+1))*48271) % 2147483647=x
     have x0:0<=x:=by rw[<-ha];exact Int.emod_nonneg _ (by decide)
     have x1:x < 2147483647:=by rw[<-ha];exact Int.emod_lt_of_pos _ (by decide)
     refine⟨_,rfl,_,rfl,_,_,rfl,rfl,.inl ⟨by omega,by omega⟩,_,_,rfl,rfl,(by show (0:Int) < 2147483629;decide),?_⟩
     generalize hb:(x*x) % 2147483629=y
     have y0:0<=y:=by rw[<-hb];exact Int.emod_nonneg _ (by decide)
     have y1:y < 2147483629:=by rw[<-hb];exact Int.emod_lt_of_pos _ (by decide)
     refine⟨_,rfl,_,rfl,d,_,rfl,gT h1,_,_,rfl,rfl,_,rfl,_,_,rfl,rfl,_,_,rfl,rfl,.inr ⟨by omega,by omega⟩,_,_,rfl,rfl,(by show (0:Int) < 2147483587;decide),_,_,rfl,rfl,⟨by decide,by decide⟩,_,rfl,_,_,rfl,rfl,m0,?_⟩
     exact k _ _ _ (Int.emod_nonneg _ (by omega)) (Int.emod_lt_of_pos _ m0)
end
end Rh
namespace Rh
open PySem L2 PyProof.Rows
structure Jc (mg:Str->Option Value):Prop where
 len:mg "len"=none
 max:mg "max"=none
 min:mg "min"=none
 int:mg "int"=none
 rng:mg "range"=none
theorem vU (n s t:Int):Qs [] (src n s t)=src n s t:=by
 unfold Qs src
 simp only[List.foldl_cons,List.foldl_nil]
 unfold jy
 simp [NT,Mr,Mq,nsn,ntn,nts]
section
variable {P:Program} {w:World} {K:PySem.W.Frag} {mg:Str->Option Value} {base:Heap}
theorem ya:qv ["_law_cell"] ["_law_cell"] (qk zy):=⟨rfl,rfl,rfl,by decide+kernel,rfl,by decide+kernel,by decide+kernel⟩
theorem vH {f:Addr} {fd:FuncData} (F:jQ K "_law_source" "_law_source" zy f fd) (B:Jc mg):qp P w K mg base qM 1 f fd ["_law_cell"] Wx:=by
 refine F.okJ ya (λvs H Q E h=>?_) (λcdv A outer s H vs Q E hr h=>?_)
 . obtain⟨c,rfl,_⟩:=h
   rfl
 . obtain⟨c,rfl,k⟩:=h
   refine⟨_,qh (qA (uK
     (Yx qS (qI Ji (qE (Xi rfl) (by rfl) B.max boot_max (qb qi (qb (jv 0) qf)))
       (jC Xj (by rfl) B.int boot_int (qb (Qb yL (jv 0) (qI Gb qi qi) (qz _)) qf)))
     (Yx qS (qI Jj (jv 0) qi) (Yx qS qi uG))) rfl rfl (by simp) (by decide))),?_⟩
   intro p hp
   refine⟨_,rfl,_,_,rfl,_,rfl,_,_,rfl,rfl,⟨by decide,by decide,by decide⟩,_,_,rfl,rfl,.inr ⟨_,rfl,_,_,rfl,rfl,.inr ?_,_,rfl,_,_,rfl,rfl,(by show (0:Int) < 2147483629;decide),?_⟩⟩
   . split<;>exact⟨by decide,by decide⟩
   . refine⟨qd,src _ _ 0,rfl,(by show 3<=15;decide),?_⟩
     rw[vU,jG]
     exact k p _ _ hp
theorem K0:qv ["_law_script","_law_k"] ["_law_script","_law_k"] (qk Uw):=⟨rfl,rfl,rfl,by decide+kernel,rfl,by decide+kernel,by decide+kernel⟩
theorem uq {f:Addr} {fd:FuncData} (F:jQ K "_law_cell_at" "_law_cell_at" Uw f fd) (B:Jc mg):qp P w K mg base qM 1 f fd ["_law_script","_law_k"] (k4 K):=by
 refine F.okJ K0 (λvs H Q E h=>?_) (λcdv A outer s H vs Q E hr h=>?_)
 . obtain⟨a,ns,k,rfl,_⟩:=h
   rfl
 . obtain⟨a,ns,k,rfl,hS,k0,q⟩:=h
   refine⟨_,qe (qL (qu QF (jv 1) (qE jp (by rfl) B.len boot_len (qb (jv 0) qf)) (qz _))
       (qh (qA (qN jU (jv 0) (jv 1) (λ_ _=>rfl)))) qC)
     (qh (qA (qI Qr (qI Ji qi (jv 1)) qi))),?_⟩
   refine⟨_,rfl,_,rfl,a,_,rfl,.inl hS,_,_,rfl,rfl,_,rfl,?_⟩
   refine ka (λh=>?_) (λ_=>?_)
   . have h1:k < ((ns.map V.int).length:Int):=of_decide_eq_true h
     rw[List.length_map]at h1
     have h2:k.toNat < ns.length:=by omega
     have h3:(ns.map V.int)[k.toNat]?=some (V.int ns[k.toNat]):=by rw[List.getElem?_map,List.getElem?_eq_getElem h2];rfl
     have h4:k=((k.toNat:Nat):Int):=by omega
     refine⟨_,rfl,_,rfl,a,_,k,V.int ns[k.toNat],rfl,rfl,hS,?_,q _⟩
     have h5:=QS h3
     rw[<-h4]at h5
     exact h5
   . exact⟨_,rfl,_,_,rfl,rfl,.inl ⟨by decide,by decide⟩,_,_,rfl,rfl,q _⟩
end
end Rh
set_option Elab.async false
set_option linter.all false
set_option maxRecDepth 100000
set_option maxHeartbeats 4000000
namespace Rh
open PySem L2 PyProof.Rows
def Fr (H:Hp) (d:Addr) (H':Hp):Prop:=∀b o,H b=some o->b≠d->H' b=some o
theorem Fr.refl {H:Hp} {d:Addr}:Fr H d H:=λ_ _ h _=>h
theorem Fr.at_d {H H':Hp} {d:Addr} {o:HO} (h:Fr H d H'):Fr H d (upd H' d o):=λb u hb hn=>by
 rw[qg hn]
 exact h b u hb hn
theorem Fr.new {H H':Hp} {d p:Addr} {o:HO} (h:Fr H d H') (hp:H' p=none):Fr H d (upd H' p o):=λb u hb hn=>qm (h b u hb hn) hp
theorem Fr.own {H H':Hp} {d p:Addr} {o:HO} (h:Fr H d H') (hp:H p=none):Fr H d (upd H' p o):=λb u hb hn=>by
 rw[qg (ql hb hp)]
 exact h b u hb hn
theorem Fr.trans {H H' H'':Hp} {d:Addr} (h:Fr H d H') (k:Fr H' d H''):Fr H d H'':=λb u hb hn=>k b u (h b u hb hn) hn
theorem Fr.fresh {H H':Hp} {d p:Addr} {o:HO} (h:Fr H d H') (hd:H' d=some o) (hp:H' p=none):H p=none:=by
 cases e:H p with
 | none=>rfl
 | some u=>
   by_cases n:p=d
   . subst n
     rw[hd]at hp
     cases hp
   . rw[h p u e n]at hp
     cases hp
def jr (c:Nat):Bool:=decide (97<=c)&&decide (c<=122)
def qV (z:Str):Bool:=(decide (1<=z.length)&&decide (z.length<=8))&&z.cps.toList.all jr
def U5:Str:="abcdefghijklmnopqrstuvwxyz"
theorem Xr:U5.cps.toList=[97,98,99,100,101,102,103,104,105,106,107,108,109,110,111,112,113,114,115,116,117,118,119,120,121,122]:=by decide+kernel
theorem xY:U5.cps.toList=(List.range 26).map (97+·):=by rw[Xr];rfl
theorem U4:U5.length<=sizeLine:=by
 show U5.cps.size<=sizeLine
 rw[<-Array.length_toList,Xr]
 decide
theorem xZ {r:Int} (h0:0<=r) (h1:r < 26):Vc U5.cps.toList r=some (97+r.toNat):=by
 have h2:U5.cps.toList[r.toNat]?=some (97+r.toNat):=by
   rw[xY,List.getElem?_map,List.getElem?_range (by omega)]
   rfl
 have h4:=QS h2
 have h5:r=((r.toNat:Nat):Int):=by omega
 rw[<-h5]at h4
 exact h4
theorem Xd {r:Int} (h0:0<=r) (h1:r < 26):jr (97+r.toNat)=true:=by
 unfold jr
 rw[decide_eq_true (by omega:97<=97+r.toNat),decide_eq_true (by omega:97+r.toNat<=122)]
 rfl
theorem GH (ws:List Nat):(Txt.join (Str.ofString "") (ws.map λk=>(⟨#[k]⟩:Str))).cps.toList=ws:=by
 show (Builtin.Str.glued (Str.ofString "") _).cps.toList=_
 rw[StrLaws.glued_eq_join]
 have e:(Str.ofString "")=⟨#[]⟩:=by decide+kernel
 rw[e,PyProof.Rows.join_ones]
theorem kh {z:Str} {A B:List Nat} {c:Nat} (e:z.cps.toList=A++[c]++B) (hA:A.all jr=true) (hc:jr c=true) (hB:B.all jr=true) (hl:A.length+B.length<=7):qV z=true:=by
 have l:z.length=A.length+1+B.length:=by
   show z.cps.size=_
   rw[<-Array.length_toList,e]
   simp
   omega
 unfold qV
 rw[decide_eq_true (by omega:1<=z.length),decide_eq_true (by omega:z.length<=8),e,List.all_append,List.all_append,hA,hB]
 simp [hc]
def UG (f s:Int) (k:Nat):Nat:=97+((f+s*(k:Int)) % 26).toNat
theorem uv:∀s∈[(1:Int),3,5,7,9,11],∀k,k < 14->∀j,j < 14->(s*((k:Nat):Int) - s*((j:Nat):Int)) % 26=0->k=j:=by decide+kernel
theorem uu {f s:Int} {k j:Nat} (hs:s=1\/s=3\/s=5\/s=7\/s=9\/s=11) (hk:k < 14) (hj:j < 14) (h:UG f s k=UG f s j):k=j:=by
 unfold UG at h
 refine uv s (by simpa using hs) k hk j hj ?_
 generalize s*(k:Int)=x at h ⊢
 generalize s*(j:Int)=y at h ⊢
 omega
def QT (A:List Nat) (f s:Int) (zs:List Str):Prop:=∀j z,zs[j]?=some z->∃B,z.cps.toList=A++[UG f s j]++B/\B.all jr=true/\A.length+B.length<=7
theorem QT.snoc {A:List Nat} {f s:Int} {zs:List Str} (h:QT A f s zs) {z:Str} {B:List Nat} (e:z.cps.toList=A++[UG f s zs.length]++B) (hB:B.all jr=true) (hl:A.length+B.length<=7):QT A f s (zs++[z]):=by
 intro j y hy
 by_cases hj:j < zs.length
 . rw[List.getElem?_append_left hj]at hy
   exact h j y hy
 . have hj':j=zs.length:=by
     have:=(List.getElem?_eq_some_iff.mp hy).1
     rw[List.length_append,List.length_singleton]at this
     omega
   subst hj'
   rw[List.getElem?_append_right (Nat.le_refl _),Nat.sub_self]at hy
   obtain rfl:=(Option.some.inj hy).symm
   exact⟨B,e,hB,hl⟩
theorem QT.names {A:List Nat} {f s:Int} {zs:List Str} (h:QT A f s zs) (hA:A.all jr=true):∀z∈zs,qV z=true:=λz hz=>by
 obtain⟨j,hj⟩:=List.getElem?_of_mem hz
 obtain⟨B,e,hB,hl⟩:=h j z hj
 refine kh e hA ?_ hB hl
 unfold UG
 exact Xd (Int.emod_nonneg _ (by decide)) (Int.emod_lt_of_pos _ (by decide))
theorem QT.nodup {A:List Nat} {f s:Int} {zs:List Str} (h:QT A f s zs) (hs:s=1\/s=3\/s=5\/s=7\/s=9\/s=11) (hz:zs.length<=14):zs.Nodup:=by
 refine List.pairwise_iff_getElem.mpr λi j hi hj hij e=>?_
 obtain⟨B,b1,_⟩:=h j _ (List.getElem?_eq_getElem hj)
 obtain⟨C,c1,_⟩:=h i _ (List.getElem?_eq_getElem hi)
 rw[e]at c1
 have e2:(A++[UG f s j]++B)[A.length]?=(A++[UG f s i]++C)[A.length]?:=by rw[<-b1,<-c1]
 rw[List.append_assoc,List.append_assoc,List.getElem?_append_right (Nat.le_refl _),List.getElem?_append_right (Nat.le_refl _),Nat.sub_self]at e2
 have e3:UG f s j=UG f s i:=Option.some.inj e2
 exact absurd (uu hs (by omega) (by omega) e3) (by omega)
theorem W7 {A:List Nat} (h:A.all jr=true) (n:Nat):(A.take n).all jr=true:=by
 rw[List.all_eq_true]at h ⊢
 exact λx hx=>h x (List.mem_of_mem_take hx)
theorem KR {r:Int} (h0:0<=r) (h1:r < 6):∃m:Int,(m=1\/m=3\/m=5\/m=7\/m=9\/m=11)/\Vc [V.int 1,V.int 3,V.int 5,V.int 7,V.int 9,V.int 11] r=some (.int m):=by
 have:r=0\/r=1\/r=2\/r=3\/r=4\/r=5:=by omega
 rcases this with rfl | rfl | rfl | rfl | rfl | rfl
 . exact⟨1,by decide,rfl⟩
 . exact⟨3,by decide,rfl⟩
 . exact⟨5,by decide,rfl⟩
 . exact⟨7,by decide,rfl⟩
 . exact⟨9,by decide,rfl⟩
 . exact⟨11,by decide,rfl⟩
def Uk:Sp:=λvs H Q _=>∃(d:Addr) (m:Nat) (n s t:Int),vs=[.ref d,.int m]/\H d=some (.dK (src n s t))/\m<=14/\
 ∀(l:Addr) (zs:List Str) (n' t':Int) (H':Hp),H l=none->H' l=some (.lst (zs.map V.str))->zs.length=m->(∀z∈zs,qV z=true)->zs.Nodup->H' d=some (.dK (src n' s t'))->Fr H d H'->Q (.ref l) H'
theorem Wu:∀zs:List Str,(zs.map λ_=>1).sum=zs.length
 | []=>rfl
 | z::zs=>by rw[List.map_cons,List.sum_cons,Wu zs,List.length_cons];omega
section
variable {P:Program} {w:World} {K:PySem.W.Frag} {mg:Str->Option Value} {base:Heap}
abbrev Gj:List Str:=["_law_source_here","_law_many","_law_letters","_law_word","_law_ahead","_law_first","_law_step","_law_names_here","_law_k","_law_behind"]
theorem Qx:qv Gj ["_law_source_here","_law_many"] (qk zZ):=⟨rfl,rfl,rfl,by decide+kernel,rfl,by decide+kernel,by decide+kernel⟩
theorem yT {f fT:Addr} {fd fdT:FuncData} (F:jQ K "_law_names" "_law_names" zZ f fd) (B:Jc mg) (hT:je K mg "_law_take" zX ["_law_source_here","_law_many"] fT fdT):qp P w K mg base qM 2 f fd ["_law_source_here","_law_many"] Uk:=by
 have GT:qp P w K mg base qM 1 fT fdT ["_law_source_here","_law_many"] zS:=zC hT.fn
 refine F.okJ Qx (λvs H Q E h=>?_) (λcdv A outer s H vs Q E hr h=>?_)
 . obtain⟨d,m,n,sd,t,rfl,_⟩:=h
   rfl
 . obtain⟨d,m,n,sd,t,rfl,hd,hm,q⟩:=h
   refine⟨_,qe (qw (i:=2) Qx.nd rfl (Or.inr rfl) qS)
     (qe (qw (i:=3) Qx.nd rfl (Or.inl rfl) (zg PySem.F.plainAttrs_str PySem.F.slot_str_join PySem.F.type_str_join uz qS (qb
       (QI (N':=["_law_k","_law_letters","_law_source_here"]) (ix:=[none,some 2,some 0]) rfl ⟨rfl,rfl,rfl,rfl,rfl⟩
         (ju (by rfl) B.rng (qb qi qf))
         (λC s2 H2 fp pins=>⟨qt (i:=0) (show (["_law_k","_law_letters","_law_source_here"]:List Str).Nodup by decide+kernel) rfl (Or.inl rfl),Qa,
           qN xw (jv 1) (qJ hT GT hr (by rfl) (qb (jv 2) (qb qi qf))) (λ_ _=>rfl)⟩)) qf)))
     (qe (qw (i:=4) Qx.nd rfl (Or.inl rfl) (JP k7 (jv 3) ZJ (ZI (qI Ji (qJ hT GT hr (by rfl) (qb (jv 0) (qb qi qf))) (qJ hT GT hr (by rfl) (qb (jv 0) (qb qi qf)))))))
     (qe (qw (i:=5) Qx.nd rfl (Or.inl rfl) (qJ hT GT hr (by rfl) (qb (jv 0) (qb qi qf))))
     (qe (qw (i:=6) Qx.nd rfl (Or.inl rfl) (qN jU (jE (qb qi (qb qi (qb qi (qb qi (qb qi (qb qi qf))))))) (qJ hT GT hr (by rfl) (qb (jv 0) (qb qi qf))) (λ_ _=>rfl)))
     (qe (qw (i:=7) Qx.nd rfl (Or.inl rfl) (jE qf))
     (qe (qT PassesOwn.never rfl (ju (by rfl) B.rng (qb (jv 1) qf)) (qt (i:=8) Qx.nd rfl (Or.inl rfl))
       (qe (qw (i:=9) Qx.nd rfl (Or.inl rfl) (JP k7 (jv 3) ZJ (ZI (qJ hT GT hr (by rfl) (qb (jv 0) (qb (qI yH qi (qE Jp (by rfl) B.len boot_len (qb (jv 4) qf))) qf))))))
       (qh (qY (zg PySem.F.plainAttrs_list PySem.F.slot_list_append PySem.F.type_list_append Qg (jv 7) (qb
         (qI Zh (qI Zh (jv 4) (qN xw (jv 2) (qI Jj (qI Qr (jv 5) (qI Ji (jv 6) (jv 8))) qi) (λ_ _=>rfl))) (jv 9)) qf))))))
     (qh (qA (jv 7))))))))),?_⟩
   refine⟨rfl,7,rfl,by decide,by decide,λD hD=>?_⟩
   have nDd:D≠d:=λe=>by rw[e,hd]at hD;cases hD
   refine Jb (λi σ' H'=>∃(v:Option V) (n' t':Int) (ws:List Nat),σ'=[v,some (.str U5),some (.ref d)]/\H' d=some (.dK (src n' sd t'))/\H' D=some (.lst ((ws.map λk=>(⟨#[k]⟩:Str)).map V.str))/\ws.length=i/\ws.all jr=true/\Fr H d H')
     ⟨none,n,t,[],rfl,qm hd hD,qd,rfl,rfl,Fr.refl.new hD⟩ ?_ ?_
   . rintro i σ' H' hi ⟨v,n',t',ws,rfl,hd',hD',hl,ha,fr⟩
     refine⟨_,rfl,_,rfl,d,26,n',sd,t',rfl,hd',by decide,by decide,λr n3 t3 r0 r1=>?_⟩
     refine⟨U5,r,_,rfl,rfl,U4,xZ r0 r1,_,(by rw[qg nDd];exact hD'),?_,?_⟩
     . rw[List.length_map,List.length_map,hl]
       exact qo (by omega)
     . refine⟨_,n3,t3,ws++[97+r.toNat],rfl,?_,?_,?_,?_,?_⟩
       . rw[qg (Ne.symm nDd)];exact qd
       . rw[List.map_append,List.map_append];exact qd
       . rw[List.length_append,hl];rfl
       . rw[List.all_append,ha]
         simp [Xd r0 r1]
       . exact(fr.at_d).own hD
   rintro σ' H1 ⟨v,n1,t1,ws,rfl,hd1,hD1,hl1,ha1,fr1⟩
   have hl1:ws.length=7:=hl1
   refine⟨Str.ofString "",D,_,rfl,rfl,.of hD1,?_,?_⟩
   . have e1:((ws.map λk=>(⟨#[k]⟩:Str)).map (·.length))=(ws.map λk=>(⟨#[k]⟩:Str)).map λ_=>1:=by
       refine List.map_congr_left λz hz=>?_
       obtain⟨c,_,rfl⟩:=List.mem_map.mp hz
       rfl
     have e2:(Str.ofString "").length=0:=by decide+kernel
     rw[e1,e2,Wu,List.length_map,hl1]
     decide
   generalize hw:Txt.join (Str.ofString "") (ws.map λk=>(⟨#[k]⟩:Str))=wd
   have hW:wd.cps.toList=ws:=by rw[<-hw];exact GH ws
   have hWl:wd.length=7:=by
     show wd.cps.size=7
     rw[<-Array.length_toList,hW,hl1]
   refine⟨_,rfl,_,rfl,d,2,n1,sd,t1,rfl,hd1,by decide,by decide,λr2 n2 t2 r20 r21=>?_⟩
   refine⟨_,rfl,d,5,n2,sd,t2,rfl,qd,by decide,by decide,λr3 n3 t3 r30 r31=>?_⟩
   rw[jG]
   have e4:∃j:Nat,r2*r3=(j:Int)/\j<=4:=by
     have h2:r2=0\/r2=1:=by omega
     rcases h2 with rfl | rfl
     . exact⟨0,by omega,by omega⟩
     . exact⟨r3.toNat,by omega,by omega⟩
   obtain⟨j,ej,hj⟩:=e4
   refine⟨_,_,rfl,rfl,.inl ⟨by omega,by omega⟩,_,rfl,wd,r2*r3,rfl,rfl,rfl,by omega,?_⟩
   rw[ej]
   generalize ha:Txt.slice wd none (some (j:Int))=ah
   have hA:ah.cps.toList=ws.take j:=by rw[<-ha,zU,hW]
   have hAl:ah.length=j:=by
     show ah.cps.size=j
     rw[<-Array.length_toList,hA,List.length_take,hl1]
     omega
   refine⟨_,rfl,d,26,n3,sd,t3,rfl,qd,by decide,by decide,λf n4 t4 f0 f1=>?_⟩
   rw[jG]
   refine⟨by show 6<=sizeLine;decide,λp hp=>?_⟩
   have npd:p≠d:=λe=>by rw[e,qd]at hp;cases hp
   refine⟨_,rfl,d,6,n4,sd,t4,rfl,(by rw[qg (Ne.symm npd)];exact qd),by decide,by decide,λr5 n5 t5 r50 r51=>?_⟩
   obtain⟨st,hst,hsa⟩:=KR r50 r51
   refine⟨p,_,r5,.int st,rfl,rfl,.of (by rw[qg npd];exact qd),hsa,?_⟩
   have fr5:Fr H d (upd (upd (upd H1 d (.dK (src n4 sd t4))) p (.lst [V.int 1,V.int 3,V.int 5,V.int 7,V.int 9,V.int 11])) d (.dK (src n5 sd t5))):=(fr1.at_d.new hp).at_d
   generalize hH5:upd (upd (upd H1 d (.dK (src n4 sd t4))) p (.lst [V.int 1,V.int 3,V.int 5,V.int 7,V.int 9,V.int 11])) d (.dK (src n5 sd t5))=H5 at fr5
   have hd5:H5 d=some (.dK (src n5 sd t5)):=by rw[<-hH5];exact qd
   refine⟨by show 0<=sizeLine;decide,λl hl=>⟨_,rfl,m,rfl,by omega,by omega,?_⟩⟩
   have hHl:H l=none:=fr5.fresh hd5 hl
   have nld:l≠d:=λe=>by rw[e,hd5]at hl;cases hl
   refine QD (lo:=0) (n:=m) (λi σ' H'=>∃(v1 v2:Option V) (n' t':Int) (zs:List Str),σ'=[some (.ref d),some (.int m),some (.str U5),some (.str wd),some (.str ah),some (.int f),some (.int st),some (.ref l),v1,v2]/\
     H' d=some (.dK (src n' sd t'))/\H' l=some (.lst (zs.map V.str))/\zs.length=i/\QT (ws.take j) f st zs/\Fr H d H')
     ⟨none,none,n5,t5,[],rfl,qm hd5 hl,qd,rfl,λj z hz=>(nomatch hz),fr5.new hl⟩ ?_ ?_
   . rintro i σ' H' hi ⟨v1,v2,n',t',zs,rfl,hd',hl',hz,hN,fr⟩
     rw[Int.zero_add]
     refine⟨_,rfl,_,rfl,_,rfl,ah,rfl,(by rw[hAl];exact Nat.le_of_lt (qo (by omega))),_,_,rfl,rfl,d,8 - (ah.length:Int),n',sd,t',rfl,hd',by omega,by omega,λr n6 t6 r0 r1=>?_⟩
     have er:r=((r.toNat:Nat):Int):=by omega
     refine⟨_,rfl,wd,r,rfl,rfl,rfl,by omega,?_⟩
     generalize hb:Txt.slice wd none (some r)=bh
     have hB:bh.cps.toList=ws.take r.toNat:=by rw[<-hb,er,zU,hW];rfl
     have hBl:bh.length<=r.toNat:=by
       show bh.cps.size<=r.toNat
       rw[<-Array.length_toList,hB,List.length_take]
       omega
     refine⟨_,rfl,.inl ⟨rfl,_,.of (by rw[qg nld];exact hl')⟩,_,rfl,_,rfl,_,rfl,_,rfl,_,rfl,_,_,rfl,rfl,.inl ⟨by omega,by omega⟩,_,_,rfl,rfl,_,_,rfl,rfl,(by show (0:Int) < 26;decide),?_⟩
     refine⟨U5,_,_,rfl,rfl,U4,xZ (Int.emod_nonneg _ (by decide)) (Int.emod_lt_of_pos _ (by decide)),?_⟩
     have e26:97+((f+st*(i:Int)) % 26).toNat=UG f st i:=rfl
     rw[e26]
     have l1:(ah++(⟨#[UG f st i]⟩:Str)).length=j+1:=by
       show (ah++(⟨#[UG f st i]⟩:Str)).cps.size=_
       rw[Str.cps_append,Array.size_append]
       show ah.length+1=_
       rw[hAl]
     refine⟨_,_,rfl,rfl,Nat.le_of_lt (qo (by show ah.length+1<=1000;omega)),_,rfl,_,_,rfl,rfl,Nat.le_of_lt (qo (by rw[l1];omega)),?_⟩
     refine⟨l,_,_,rfl,rfl,(by rw[qg nld];exact hl'),(by rw[List.length_map,hz];exact qo (by omega)),?_⟩
     refine⟨_,_,n6,t6,zs++[ah++(⟨#[UG f st i]⟩:Str)++bh],rfl,?_,?_,?_,?_,?_⟩
     . rw[qg (Ne.symm nld)];exact qd
     . rw[List.map_append];exact qd
     . rw[List.length_append,hz];rfl
     . refine hN.snoc (B:=ws.take r.toNat) ?_ (W7 ha1 _) ?_
       . rw[Str.cps_append,Str.cps_append,Array.toList_append,Array.toList_append,hA,hB,hz]
       . rw[List.length_take,List.length_take]
         omega
     . exact fr.at_d.own hHl
   . rintro σ' H' ⟨v1,v2,n',t',zs,rfl,hd',hl',hz,hN,fr⟩
     exact⟨_,rfl,q l zs n' t' H' hHl hl' hz (hN.names (W7 ha1 _)) (hN.nodup hst (by omega)) hd' fr⟩
end
end Rh
set_option Elab.async false
set_option linter.all false
set_option maxRecDepth 100000
set_option maxHeartbeats 4000000
namespace Rh
open PySem L2 PyProof.Rows
def V2 (t:TT) (σ:L2.St) (H:Hp):Prop:=∀Q:Bool->Hp->Prop,(∀b,Q b H)->t σ H Q
theorem V2.and {t u:TT} {σ:L2.St} {H:Hp} (h:V2 t σ H) (k:V2 u σ H):V2 (RK t u) σ H:=λQ q=>h _ λb=>by
 cases b
 . exact qZ (q false)
 . exact jY (k _ q)
theorem V2.or {t u:TT} {σ:L2.St} {H:Hp} (h:V2 t σ H) (k:V2 u σ H):V2 (tOr t u) σ H:=λQ q=>h _ λb=>by
 cases b
 . exact qZ (k _ q)
 . exact jY (q true)
theorem xC {tc:TT} {tp:TS} {D:Qu} {σ:L2.St} {H0:Hp} (G:Hp->Prop) (h:G H0) (ht:V2 tc σ H0) (hp:∀D:Qu,(∀H',G H'->D.nx σ H')->tp D σ H0) (k:∀H',G H'->D.nx σ H'):kM tc tp Wt D σ H0:=
 ht _ λb=>by
   cases b
   . exact qZ (k _ h)
   . exact jY (hp D k)
theorem zJ {tc:TT} {tp u:TS} {D:Qu} {σ:L2.St} {H0:Hp} (G:Hp->Prop) (h:G H0) (ht:V2 tc σ H0) (hp:∀D:Qu,(∀H',G H'->D.nx σ H')->tp D σ H0) (k:∀H',G H'->u D σ H'):KN (kM tc tp Wt) u D σ H0:=xC G h ht hp k
theorem Yz {i:Nat} {v:V} {σ:L2.St} {H:Hp} {Q:L2.St->Hp->Prop} (h:Q (σ.set i (some v)) H):Qw i v σ H Q:=h
abbrev up (k:Nat×Nat):Int×Int:=((k.1:Int),(k.2:Int))
def Kz (a b:Nat×Nat):Prop:=a.1 < b.1\/(a.1=b.1/\a.2 < b.2)
abbrev Z0 (ks:List (Nat×Nat)):List (List qD):=ks.map λk=>zc (up k)
theorem vD {a b:Nat×Nat} (h:zc (up a)=zc (up b)):a=b:=by
 unfold zc at h
 simp only[List.cons.injEq,Sum.inl.injEq,and_true]at h
 exact Prod.ext (by have:=h.1;omega) (by have:=h.2;omega)
structure Js (m i j:Nat) (ks:List (Nat×Nat)):Prop where
 ord:ks.Pairwise Kz
 lt:∀x∈ks,x.2 < m/\(x.1 < i\/(x.1=i/\x.2 < j))
 len:ks.length<=i*m+j
theorem Js.more {m i j:Nat} {ks:List (Nat×Nat)} (h:Js m i j ks):Js m i (j+1) ks:=⟨h.ord,λx hx=>by have:=h.lt x hx;omega,by have:=h.len;omega⟩
theorem Js.snoc {m i j:Nat} {ks:List (Nat×Nat)} (h:Js m i j ks) (hj:j < m):Js m i (j+1) (ks++[(i,j)]):=by
 refine⟨List.pairwise_append.mpr ⟨h.ord,List.pairwise_singleton _ _,λa ha b hb=>?_⟩,λx hx=>?_,?_⟩
 . rw[List.mem_singleton.mp hb]
   have:=h.lt a ha
   unfold Kz
   omega
 . rcases List.mem_append.mp hx with hx | hx
   . have:=h.lt x hx
     omega
   . rw[List.mem_singleton.mp hx]
     exact⟨hj,.inr ⟨rfl,Nat.lt_succ_self _⟩⟩
 . rw[List.length_append]
   have:=h.len
   show ks.length+1<=_
   omega
theorem Js.row {m i:Nat} {ks:List (Nat×Nat)} (h:Js m i m ks):Js m (i+1) 0 ks:=⟨h.ord,λx hx=>by have:=h.lt x hx;omega,by have:=h.len;rw[Nat.succ_mul];omega⟩
def Rz (m i j:Nat) (kvs:List (List qD×V)):Prop:=∃ks,Js m i j ks/\(kvs.map (·.1)=Z0 ks\/kvs.map (·.1)=Z0 (ks++[(i,j)]))
theorem U3 (kvs:List (List qD×V)) (k:List qD):((kvs.any λkv=>decide (kv.1=k))=true)↔k∈kvs.map (·.1):=by
 rw[List.any_eq_true,List.mem_map]
 simp
theorem uD {kvs:List (List qD×V)} {k:List qD} (v:V) (h:k∈kvs.map (·.1)):(jy kvs k v).map (·.1)=kvs.map (·.1):=by
 unfold jy
 rw[if_pos ((U3 kvs k).mpr h),List.map_map]
 refine List.map_congr_left λx _=>?_
 show (if x.1=k then (x.1,v) else x).1=x.1
 split<;>rfl
theorem xm {kvs:List (List qD×V)} {k:List qD} (v:V) (h:¬k∈kvs.map (·.1)):(jy kvs k v).map (·.1)=kvs.map (·.1)++[k]:=by
 unfold jy
 rw[if_neg (λz=>h ((U3 kvs k).mp z)),List.map_append]
 rfl
theorem Rz.put {m i j:Nat} {kvs:List (List qD×V)} (h:Rz m i j kvs) (v:V):Rz m i j (jy kvs (zc (up (i,j))) v):=by
 obtain⟨ks,ha,h⟩:=h
 refine⟨ks,ha,.inr ?_⟩
 rcases h with h | h
 . rw[xm,h,Z0,Z0,List.map_append]
   . rfl
   . rw[h]
     intro z
     obtain⟨x,hx,e⟩:=List.mem_map.mp z
     have e':=vD e
     have:=ha.lt x hx
     rw[e']at this
     omega
 . rw[uD,h]
   rw[h]
   exact List.mem_map.mpr ⟨(i,j),by simp,rfl⟩
theorem Rz.len {m i j:Nat} {kvs:List (List qD×V)} (h:Rz m i j kvs):kvs.length<=i*m+j+1:=by
 obtain⟨ks,ha,h⟩:=h
 have hl:=ha.len
 rcases h with h | h
 . have:=congrArg List.length h
   simp only[List.length_map]at this
   omega
 . have:=congrArg List.length h
   simp only[List.length_map,List.length_append,List.length_singleton]at this
   omega
theorem Kj {i m:Nat} (hi:i<=m) (hm:m<=14):i*m<=196:=Nat.le_trans (Nat.mul_le_mul (Nat.le_trans hi hm) hm) (by decide)
theorem NB (xs:List V):W3 xs none (some 40)=xs.take 40:=by
 unfold W3
 have e1:HT.sIx xs.length 0 none=0:=rfl
 have e2:HT.sIx xs.length xs.length (some 40)=min 40 xs.length:=by
   simp [HT.sIx]
 rw[e1,e2,List.drop_zero,Nat.sub_zero]
 by_cases h:40<=xs.length
 . rw[Nat.min_eq_left h]
 . rw[Nat.min_eq_right (by omega),List.take_of_length_le (Nat.le_refl _),List.take_of_length_le (by omega)]
def J4 (H:Hp) (ps:List Addr) (ks:List (Nat×Nat)):Prop:=ps.length=ks.length/\∀(i:Nat) (p:Addr) (k:Nat×Nat),ps[i]?=some p->ks[i]?=some k->H p=some (.tup [.int (k.1:Nat),.int (k.2:Nat)])
def Ul:Sp:=λvs H Q _=>∃(d:Addr) (m:Nat) (n s t sh lo:Int),vs=[.ref d,.int m,.int sh,.int lo]/\H d=some (.dK (src n s t))/\m<=14/\
 ∀(l:Addr) (ps:List Addr) (ks:List (Nat×Nat)) (n' t':Int) (H':Hp),H l=none->H' l=some (.lst (ps.map V.ref))->J4 H' ps ks->ks.Pairwise Kz->(∀x∈ks,x.1 < m/\x.2 < m)->ks.length<=40->H' d=some (.dK (src n' s t'))->Fr H d H'->Q (.ref l) H'
section
variable {P:Program} {w:World} {K:PySem.W.Frag} {mg:Str->Option Value} {base:Heap}
abbrev Gm:List Str:=["_law_source_here","_law_many","_law_shape","_law_low","_law_pairs","_law_k","_law_j","_law_way"]
abbrev Yi:List Str:=["_law_source_here","_law_many","_law_shape","_law_low"]
theorem Zw:qv Gm Yi (qk z7):=⟨rfl,rfl,rfl,by decide+kernel,rfl,by decide+kernel,by decide+kernel⟩
theorem yV {f fT:Addr} {fd fdT:FuncData} (F:jQ K "_law_leads" "_law_leads" z7 f fd) (B:Jc mg) (hso:mg "sorted"=none) (hT:je K mg "_law_take" zX ["_law_source_here","_law_many"] fT fdT):qp P w K mg base qM 2 f fd Yi Ul:=by
 have GT:qp P w K mg base qM 1 fT fdT ["_law_source_here","_law_many"] zS:=zC hT.fn
 refine F.okJ Zw (λvs H Q E h=>?_) (λcdv A outer s H vs Q E hr h=>?_)
 . obtain⟨d,m,n,sd,t,sh,lo,rfl,_⟩:=h
   rfl
 . obtain⟨d,m,n,sd,t,sh,lo,rfl,hd,hm,q⟩:=h
   have hu:=jA hr
   refine⟨_,qe (qw (i:=4) Zw.nd rfl (Or.inl rfl) xv)
     (qe (qT PassesOwn.never rfl (ju (by rfl) B.rng (qb (jv 1) qf)) (qt (i:=5) Zw.nd rfl (Or.inl rfl))
       (qh (qT PassesOwn.never rfl (ju (by rfl) B.rng (qb (jv 1) qf)) (qt (i:=6) Zw.nd rfl (Or.inl rfl))
         (qe (qw (i:=7) Zw.nd rfl (Or.inl rfl) (qJ hT GT hr (by rfl) (qb (jv 0) (qb qi qf))))
         (qe (qL (jR (qu j7 (jv 2) qi (qz _)) (jH (QG (jR (qu QF (jv 6) (jv 5) (qz _)) (jH (qu QF (jv 7) qi (qz _)))).pt (Qh (jR (qu yL (jv 6) (jv 5) (qz _)) (jH (qu QF (jv 7) qi (qz _)))).pt)).pt)).pt
           (qh (jl hu (jv 4) (jN (qb (jv 5) (qb (jv 6) qf))) jz rfl)) qC)
         (qe (qL (jR (qu j7 (jv 2) qi (qz _)) (jH (qu QF (jv 7) qi (qz _)))).pt
           (qh (jl hu (jv 4) (jN (qb (jv 5) (qb (jv 6) qf))) jz rfl)) qC)
         (qe (qL (jR (qu j7 (jv 2) qi (qz _)) (jH (QG (jR (qu j7 (jv 6) (qI Jj (qI Qr (jv 5) qi) (jv 1)) (qz _)) (jH (qu QF (jv 7) qi (qz _)))).pt (Qh (qu QF (jv 7) qi (qz _)))).pt)).pt
           (qh (jl hu (jv 4) (jN (qb (jv 5) (qb (jv 6) qf))) jz rfl)) qC)
         (qe (qL (jR (qu j7 (jv 2) qi (qz _)) (jR (qu QF (jv 6) (jv 5) (qz _)) (jH (QG (qu QF (jv 6) (jv 3) (qz _)) (Qh (qu QF (jv 7) qi (qz _)))).pt))).pt
           (qh (jl hu (jv 4) (jN (qb (jv 5) (qb (jv 6) qf))) jz rfl)) qC)
         (qh (qL (jR (qu j7 (jv 2) qi (qz _)) (jH (QG (jR (qu QF (jv 6) (jv 3) (qz _)) (jH (qu QF (jv 6) (jv 5) (qz _)))).pt (Qh (jR (qu yL (jv 5) (jv 3) (qz _)) (jH (qu QF (jv 7) qi (qz _)))).pt)).pt)).pt
           (qh (jl hu (jv 4) (jN (qb (jv 5) (qb (jv 6) qf))) jz rfl)) qC)))))))))
       )
     (qh (qA (JP wE (qE (V0 rfl) (by rfl) hso boot_sorted (qb (jv 4) qf)) ZJ (ZI qi))))),?_⟩
   intro D hD
   have nDd:D≠d:=λe=>by rw[e,hd]at hD;cases hD
   refine⟨_,rfl,m,rfl,by omega,by omega,?_⟩
   refine QD (lo:=0) (n:=m) (λi σ' H'=>∃(v1 v2 v3:Option V) (n' t':Int) (kvs:List (List qD×V)) (ks:List (Nat×Nat)),σ'=[some (.ref d),some (.int m),some (.int sh),some (.int lo),some (.ref D),v1,v2,v3]/\
     H' d=some (.dK (src n' sd t'))/\H' D=some (.dT kvs)/\kvs.map (·.1)=Z0 ks/\Js m i 0 ks/\Fr H d H')
     ⟨none,none,none,n,t,[],[],rfl,qm hd hD,qd,rfl,⟨.nil,λx hx=>(nomatch hx),Nat.zero_le _⟩,Fr.refl.new hD⟩ ?_ ?_
   . rintro i σ' H' hi ⟨v1,v2,v3,n',t',kvs,ks,rfl,hd',hD',ek,ha,fr⟩
     rw[Int.zero_add]
     refine⟨_,rfl,m,rfl,by omega,by omega,?_⟩
     refine QD (lo:=0) (n:=m) (λj σ' H'=>∃(v2 v3:Option V) (n' t':Int) (kvs:List (List qD×V)) (ks:List (Nat×Nat)),σ'=[some (.ref d),some (.int m),some (.int sh),some (.int lo),some (.ref D),some (.int i),v2,v3]/\
       H' d=some (.dK (src n' sd t'))/\H' D=some (.dT kvs)/\kvs.map (·.1)=Z0 ks/\Js m i j ks/\Fr H d H')
       ⟨_,_,n',t',kvs,ks,rfl,hd',hD',ek,ha,fr⟩ ?_ ?_
     . rintro j σ' H2 hj ⟨v2,v3,n2,t2,kvs,ks,rfl,hd2,hD2,ek,ha,fr⟩
       rw[Int.zero_add]
       refine⟨_,rfl,d,12,n2,sd,t2,rfl,hd2,by decide,by decide,λr n3 t3 r0 r1=>?_⟩
       have hsq:=Kj (Nat.le_of_lt hi) hm
       let G:Hp->Prop:=λH'=>∃(kvs:List (List qD×V)),H' d=some (.dK (src n3 sd t3))/\H' D=some (.dT kvs)/\Rz m i j kvs/\Fr H d H'
       have g0:G (upd H2 d (.dK (src n3 sd t3))):=⟨kvs,qd,(by rw[qg nDd];exact hD2),⟨ks,ha,.inl ek⟩,fr.at_d⟩
       have put:∀H',G H'->∀E:Qu,(∀H',G H'->E.nx [some (.ref d),some (.int m),some (.int sh),some (.int lo),some (.ref D),some (.int i),some (.int j),some (.int r)] H')->
           Ks (jm 4) (wp (jx (jm 5) (jx (jm 6) Q0))) (tC (.bl true)) E [some (.ref d),some (.int m),some (.int sh),some (.int lo),some (.ref D),some (.int i),some (.int j),some (.int r)] H':=by
         rintro H' ⟨kvs,h1,h2,h3,h4⟩ E k
         refine⟨_,rfl,_,rfl,_,rfl,by show 2<=sizeLine;decide,λp hp=>?_⟩
         have npd:p≠d:=λe=>by rw[e,h1]at hp;cases hp
         have npD:p≠D:=λe=>by rw[e,h2]at hp;cases hp
         refine⟨D,_,rfl,QM.t (k:=zc (up (i,j))) (kvs:=kvs) (by rw[qg (Ne.symm npD)];exact h2) qd (qo (by have:=h3.len;omega)),?_⟩
         refine k _ ⟨_,?_,qd,h3.put _,?_⟩
         . rw[qg (Ne.symm nDd),qg (Ne.symm npd)]
           exact h1
         . exact(h4.new hp).own hD
       refine Yz ?_
       dsimp only[List.set]
       refine zJ G g0 ?_ (put _ g0) λH3 g3=>?_
       . exact V2.and (λQ q=>⟨_,rfl,rfl,_,rfl,q _⟩) (.or (.and (λQ q=>⟨_,rfl,_,rfl,_,_,rfl,rfl,_,rfl,q _⟩) (λQ q=>⟨_,rfl,_,_,rfl,rfl,_,rfl,q _⟩)) (.and (λQ q=>⟨_,rfl,_,rfl,_,_,rfl,rfl,_,rfl,q _⟩) (λQ q=>⟨_,rfl,_,_,rfl,rfl,_,rfl,q _⟩)))
       refine zJ G g3 ?_ (put _ g3) λH4 g4=>?_
       . exact V2.and (λQ q=>⟨_,rfl,rfl,_,rfl,q _⟩) (λQ q=>⟨_,rfl,_,_,rfl,rfl,_,rfl,q _⟩)
       refine zJ G g4 ?_ (put _ g4) λH5 g5=>?_
       . exact V2.and (λQ q=>⟨_,rfl,rfl,_,rfl,q _⟩) (.or (.and (λQ q=>⟨_,rfl,_,rfl,_,_,rfl,rfl,_,rfl,_,_,rfl,rfl,(by show (0:Int) < m;omega),rfl,_,rfl,q _⟩) (λQ q=>⟨_,rfl,_,_,rfl,rfl,_,rfl,q _⟩)) (λQ q=>⟨_,rfl,_,_,rfl,rfl,_,rfl,q _⟩))
       refine zJ G g5 ?_ (put _ g5) λH6 g6=>?_
       . exact V2.and (λQ q=>⟨_,rfl,rfl,_,rfl,q _⟩) (.and (λQ q=>⟨_,rfl,_,rfl,_,_,rfl,rfl,_,rfl,q _⟩) (.or (λQ q=>⟨_,rfl,_,rfl,_,_,rfl,rfl,_,rfl,q _⟩) (λQ q=>⟨_,rfl,_,_,rfl,rfl,_,rfl,q _⟩)))
       refine xC G g6 ?_ (put _ g6) λH7 g7=>?_
       . exact V2.and (λQ q=>⟨_,rfl,rfl,_,rfl,q _⟩) (.or (.and (λQ q=>⟨_,rfl,_,rfl,_,_,rfl,rfl,_,rfl,q _⟩) (λQ q=>⟨_,rfl,_,rfl,_,_,rfl,rfl,_,rfl,q _⟩)) (.and (λQ q=>⟨_,rfl,_,rfl,_,_,rfl,rfl,_,rfl,q _⟩) (λQ q=>⟨_,rfl,_,_,rfl,rfl,_,rfl,q _⟩)))
       obtain⟨kvs,h1,h2,⟨ks,ha,h3⟩,h4⟩:=g7
       rcases h3 with h3 | h3
       . exact⟨_,_,n3,t3,kvs,ks,rfl,h1,h2,h3,ha.more,h4⟩
       . exact⟨_,_,n3,t3,kvs,_,rfl,h1,h2,h3,ha.snoc hj,h4⟩
     . rintro σ' H2 ⟨v2,v3,n2,t2,kvs,ks,rfl,hd2,hD2,ek,ha,fr⟩
       exact⟨_,_,_,n2,t2,kvs,ks,rfl,hd2,hD2,ek,ha.row,fr⟩
   . rintro σ' H1 ⟨v1,v2,v3,n1,t1,kvs,ks,rfl,hd1,hD1,ek,ha,fr⟩
     have hl:kvs.length=ks.length:=by simpa using congrArg List.length ek
     have hsq:=Kj (Nat.le_refl m) hm
     have hal:=ha.len
     refine⟨_,rfl,D,kvs,ks.map up,rfl,hD1,?_,?_,by omega,λl ps hfl lps tup=>?_⟩
     . rw[ek,List.map_map]
       rfl
     . intro i k k' e1 e2
       rw[List.getElem?_map]at e1 e2
       cases e3:ks[i]? with
       | none=>rw[e3]at e1;cases e1
       | some a=>
         cases e4:ks[i+1]? with
         | none=>rw[e4]at e2;cases e2
         | some b=>
           rw[e3]at e1
           rw[e4]at e2
           obtain rfl:=(Option.some.inj e1).symm
           obtain rfl:=(Option.some.inj e2).symm
           have h5:=List.pairwise_iff_getElem.mp ha.ord i (i+1) (List.getElem?_eq_some_iff.mp e3).1 (List.getElem?_eq_some_iff.mp e4).1 (Nat.lt_succ_self _)
           rw[(List.getElem?_eq_some_iff.mp e3).2,(List.getElem?_eq_some_iff.mp e4).2]at h5
           unfold Kz at h5
           show Ys _ _
           unfold Ys
           show (a.1:Int) < b.1\/((a.1:Int)=b.1/\(a.2:Int) < b.2)
           omega
     . refine⟨40,rfl,l,_,rfl,.of qd,λl2 hl2=>?_⟩
       rw[NB,<-List.map_take]
       have n2d:l2≠d:=λe=>by
         rw[e,qm hd1 hfl]at hl2
         cases hl2
       have hl1:H1 l2=none:=by
         by_cases e:l2=l
         . rw[e];exact hfl
         . rw[qg e]at hl2;exact hl2
       have fr2:=(fr.new (o:=.lst (ps.map V.ref)) hfl).new (o:=.lst ((ps.take 40).map V.ref)) hl2
       refine q l2 (ps.take 40) (ks.take 40) n1 t1 _ (fr.fresh hd1 hl1) qd ⟨?_,λi p k e1 e2=>?_⟩ ?_ ?_ ?_ ?_ fr2
       . rw[List.length_take,List.length_take,lps,List.length_map]
       . have i40:i < 40:=by
           have:=(List.getElem?_eq_some_iff.mp e1).1
           rw[List.length_take]at this
           omega
         rw[List.getElem?_take_of_lt i40]at e1 e2
         have h1:=tup i p (up k) e1 (by rw[List.getElem?_map,e2];rfl)
         exact qm (qm h1 hfl) hl2
       . exact ha.ord.sublist (List.take_sublist _ _)
       . intro x hx
         have:=ha.lt x (List.mem_of_mem_take hx)
         omega
       . rw[List.length_take]
         omega
       . exact qm (qm hd1 hfl) hl2
end
end Rh
set_option Elab.async false
set_option linter.all false
set_option maxRecDepth 100000
set_option maxHeartbeats 4000000
namespace Rh
open PySem L2 PyProof.Rows
structure qy (rs:List (Str×List Str)):Prop where
 nm:∀r∈rs,qV r.1=true
 nd:(rs.map (·.1)).Nodup
 to:∀r∈rs,∀z∈r.2,z∈rs.map (·.1)
 rd:∀r∈rs,r.2.Nodup
 few:(rs.map λr=>r.2.length).sum<=40
def Wj (zs:List Str) (j:Nat):Str:=zs.getD j ⟨#[]⟩
theorem wk {zs:List Str} {j:Nat} (h:j < zs.length):Wj zs j∈zs:=by
 unfold Wj
 rw[List.getD_eq_getElem?_getD,List.getElem?_eq_getElem h]
 exact List.getElem_mem h
theorem Xt {zs:List Str} {j:Nat} (h:j < zs.length):zs[j]?=some (Wj zs j):=by
 unfold Wj
 rw[List.getD_eq_getElem?_getD,List.getElem?_eq_getElem h]
 rfl
theorem V7 {zs:List Str} (hn:zs.Nodup) {i j:Nat} (hi:i < zs.length) (hj:j < zs.length) (h:Wj zs i=Wj zs j):i=j:=by
 have h1:=Xt hi
 have h2:=Xt hj
 rw[h,<-h2,List.getElem?_eq_getElem hi,List.getElem?_eq_getElem hj]at h1
 have e:zs[i]=zs[j]:=Option.some.inj h1
 rcases Nat.lt_trichotomy i j with l | l | l
 . exact absurd e (List.pairwise_iff_getElem.mp hn i j hi hj l)
 . exact l
 . exact absurd e.symm (List.pairwise_iff_getElem.mp hn j i hj hi l)
theorem QC {α β:Type} {f:α->β}:∀{l:List α},l.Nodup->(∀a∈l,∀b∈l,f a=f b->a=b)->(l.map f).Nodup
 | [],_,_=>List.nodup_nil
 | a::l,h,k=>by
   rw[List.map_cons,List.nodup_cons]
   rw[List.nodup_cons]at h
   refine⟨λz=>?_,QC h.2 λx hx y hy=>k x (List.mem_cons_of_mem _ hx) y (List.mem_cons_of_mem _ hy)⟩
   obtain⟨b,hb,e⟩:=List.mem_map.mp z
   have:=k b (List.mem_cons_of_mem _ hb) a (List.mem_cons_self) e
   subst this
   exact h.1 hb
def YX (ks:List (Nat×Nat)) (k:Nat):List Nat:=(ks.filter λx=>decide (x.1=k)).map (·.2)
theorem vf {ks:List (Nat×Nat)} (h:ks.Pairwise Kz) (k:Nat):(YX ks k).Nodup:=by
 have h1:(ks.filter λx=>decide (x.1=k)).Pairwise Kz:=h.sublist (List.filter_sublist)
 refine List.pairwise_map.mpr (List.Pairwise.imp_of_mem (λ{a b} ha hb r=>?_) h1)
 have e1:a.1=k:=of_decide_eq_true (List.mem_filter.mp ha).2
 have e2:b.1=k:=of_decide_eq_true (List.mem_filter.mp hb).2
 unfold Kz at r
 omega
theorem Vk {ks:List (Nat×Nat)} {m:Nat} (h:∀x∈ks,x.1 < m/\x.2 < m) (k:Nat):∀j∈YX ks k,j < m:=λj hj=>by
 obtain⟨x,hx,e⟩:=List.mem_map.mp hj
 have:=(h x (List.mem_filter.mp hx).1).2
 omega
theorem wx (os:List Nat) (f g:Nat->Nat):(os.map λk=>f k+g k).sum=(os.map f).sum+(os.map g).sum:=by
 induction os with
 | nil=>rfl
 | cons a os ih=>
   simp only[List.map_cons,List.sum_cons,ih]
   omega
theorem ww {os:List Nat} (h:os.Nodup) (a:Nat):(os.map λk=>if a=k then 1 else 0).sum<=1:=by
 induction os with
 | nil=>exact Nat.zero_le _
 | cons b os ih=>
   rw[List.nodup_cons]at h
   rw[List.map_cons,List.sum_cons]
   by_cases e:a=b
   . subst e
     have z:(os.map λk=>if a=k then 1 else 0)=os.map λ_=>0:=List.map_congr_left λk hk=>by
       rw[if_neg]
       intro e
       subst e
       exact h.1 hk
     rw[z,if_pos rfl]
     have:(os.map λ_=>0).sum=0:=by
       clear z ih h
       induction os with
       | nil=>rfl
       | cons c os ih=>rw[List.map_cons,List.sum_cons,ih]
     omega
   . rw[if_neg e]
     have:=ih h.2
     omega
theorem Ub {os:List Nat} (h:os.Nodup):∀ks:List (Nat×Nat),(os.map λk=>(YX ks k).length).sum<=ks.length
 | []=>by
   have:(os.map λk=>(YX [] k).length).sum=0:=by
     clear h
     induction os with
     | nil=>rfl
     | cons c os ih=>rw[List.map_cons,List.sum_cons,ih];rfl
   omega
 | x::ks=>by
   have e:(os.map λk=>(YX (x::ks) k).length)=os.map λk=>(if x.1=k then 1 else 0)+(YX ks k).length:=List.map_congr_left λk _=>by
     unfold YX
     rw[List.filter_cons]
     by_cases z:x.1=k
     . rw[if_pos (decide_eq_true z),if_pos z]
       simp only[List.map_cons,List.length_cons]
       omega
     . rw[if_neg (by simpa using z),if_neg z,Nat.zero_add]
   rw[e,wx,List.length_cons]
   have:=ww h x.1
   have:=Ub h ks
   omega
def Q5 (zs:List Str) (ks:List (Nat×Nat)) (ab:Bool) (k:Nat):Str×List Str:=
 (Wj zs k,if ab=true then ((YX ks k).map (Wj zs)).reverse else (YX ks k).map (Wj zs))
theorem vv {zs:List Str} {ks:List (Nat×Nat)} {ab:Bool} {k:Nat} {z:Str}:z∈(Q5 zs ks ab k).2↔z∈(YX ks k).map (Wj zs):=by
 unfold Q5
 cases ab
 . rw[if_neg Bool.false_ne_true]
 . rw[if_pos rfl,List.mem_reverse]
theorem vw {zs:List Str} {ks:List (Nat×Nat)} {ab:Bool} {k:Nat}:(Q5 zs ks ab k).2.length=(YX ks k).length:=by
 unfold Q5
 cases ab
 . rw[if_neg Bool.false_ne_true,List.length_map]
 . rw[if_pos rfl,List.length_reverse,List.length_map]
structure W9 (m:Nat) (os:List Nat):Prop where
 len:os.length=m
 nd:os.Nodup
 lt:∀k∈os,k < m
 all:∀j,j < m->j∈os
theorem km {zs:List Str} {ks:List (Nat×Nat)} {os:List Nat} {m:Nat} (ab:Bool) (hz:zs.length=m) (hN:∀z∈zs,qV z=true) (hd:zs.Nodup) (hk:ks.Pairwise Kz) (hl:∀x∈ks,x.1 < m/\x.2 < m) (h40:ks.length<=40) (ho:W9 m os):
   qy (os.map (Q5 zs ks ab)):=by
 have e1:(os.map (Q5 zs ks ab)).map (·.1)=os.map (Wj zs):=by rw[List.map_map];rfl
 have inj:∀a∈os,∀b∈os,Wj zs a=Wj zs b->a=b:=λa ha b hb e=>V7 hd (by rw[hz];exact ho.lt a ha) (by rw[hz];exact ho.lt b hb) e
 refine⟨λr hr=>?_,?_,λr hr z hz'=>?_,λr hr=>?_,?_⟩
 . obtain⟨k,hk',rfl⟩:=List.mem_map.mp hr
   exact hN _ (wk (by rw[hz];exact ho.lt k hk'))
 . rw[e1]
   exact QC ho.nd inj
 . obtain⟨k,hk',rfl⟩:=List.mem_map.mp hr
   rw[vv]at hz'
   obtain⟨j,hj,rfl⟩:=List.mem_map.mp hz'
   rw[e1]
   exact List.mem_map.mpr ⟨j,ho.all j (Vk hl k j hj),rfl⟩
 . obtain⟨k,hk',rfl⟩:=List.mem_map.mp hr
   have h1:((YX ks k).map (Wj zs)).Nodup:=QC (vf hk k) λa ha b hb e=>V7 hd (by rw[hz];exact Vk hl k a ha) (by rw[hz];exact Vk hl k b hb) e
   show (if ab=true then _ else _:List Str).Nodup
   cases ab
   . rw[if_neg Bool.false_ne_true]
     exact h1
   . rw[if_pos rfl]
     exact List.pairwise_reverse.mpr (h1.imp λh=>Ne.symm h)
 . have e2:((os.map (Q5 zs ks ab)).map λr=>r.2.length)=os.map λk=>(YX ks k).length:=by
     rw[List.map_map]
     exact List.map_congr_left λk _=>vw
   rw[e2]
   exact Nat.le_trans (Ub ho.nd ks) h40
theorem yG (m:Nat):W9 m (List.range m):=⟨List.length_range,List.nodup_range,λk h=>List.mem_range.mp h,λj h=>List.mem_range.mpr h⟩
theorem VA (m:Nat):W9 m (ZN m):=⟨by rw[ZN,List.length_reverse,List.length_range],List.pairwise_reverse.mpr (List.nodup_range.imp λh=>Ne.symm h),λk h=>List.mem_range.mp (List.mem_reverse.mp h),λj h=>List.mem_reverse.mpr (List.mem_range.mpr h)⟩
def zh (m:Nat):List Nat:=(List.range m).map λk=>k*5 % m
theorem ku:∀m,m < 15->(zh m).Nodup->∀j,j < m->j∈zh m:=by decide+kernel
theorem WI {m:Nat} (hm:m<=14) (h0:0 < m) (h:(zh m).Nodup):W9 m (zh m):=
 ⟨by rw[zh,List.length_map,List.length_range],h,λk hk=>by obtain⟨x,_,rfl⟩:=List.mem_map.mp hk;exact Nat.mod_lt _ h0,ku m (by omega) h⟩
theorem Xb (val:Nat->Int):∀i,(firstMet val i).length=i->((List.range i).map val).Nodup
 | 0,_=>List.nodup_nil
 | i+1,h=>by
   have h1:=firstMet_any val i (val i)
   have h2:=firstMet_length_le val i
   rw[firstMet_succ]at h
   unfold step_dedup at h
   split at h
   . omega
   . rename_i z
     rw[List.length_append,List.length_singleton]at h
     rw[List.range_succ,List.map_append,List.nodup_append]
     refine⟨Xb val i (by omega),by simp,λa ha b hb e=>?_⟩
     have eb:b=val i:=by simpa using hb
     subst eb
     subst e
     refine z ?_
     rw[h1,List.any_eq_true]
     exact⟨_,ha,by simp⟩
theorem Gp {os:List Nat} (h:¬(firstMet (λi=>(os.map λk=>((k:Nat):Int)).getD i 0) (os.map λk=>((k:Nat):Int)).length).length < os.length):os.Nodup:=by
 have h1:=firstMet_length_le (λi=>(os.map λk=>((k:Nat):Int)).getD i 0) (os.map λk=>((k:Nat):Int)).length
 have h2:=Xb (λi=>(os.map λk=>((k:Nat):Int)).getD i 0) (os.map λk=>((k:Nat):Int)).length (by rw[List.length_map]at h1 h ⊢;omega)
 have e:(List.range (os.map λk=>((k:Nat):Int)).length).map (λi=>(os.map λk=>((k:Nat):Int)).getD i 0)=os.map λk=>((k:Nat):Int):=by
   refine List.ext_getElem? λi=>?_
   rw[List.getElem?_map]
   by_cases hi:i < (os.map λk=>((k:Nat):Int)).length
   . rw[List.getElem?_range hi,List.getElem?_eq_getElem hi]
     simp only[Option.map_some,List.getD_eq_getElem?_getD,List.getElem?_eq_getElem hi,Option.getD_some]
   . rw[List.getElem?_eq_none (by rw[List.length_range];omega),List.getElem?_eq_none (by omega)]
     rfl
 rw[e]at h2
 refine(List.pairwise_map.mp h2).imp λh e=>h (by rw[e])
end Rh
set_option Elab.async false
set_option linter.all false
set_option maxRecDepth 100000
set_option maxHeartbeats 4000000
namespace Rh
open PySem L2 PyProof.Rows
def jw (H:Hp) (ps:List Addr) (rs:List (Str×List Str)):Prop:=ps.length=rs.length/\∀(i:Nat) (p:Addr) (r:Str×List Str),ps[i]?=some p->rs[i]?=some r->∃q,H p=some (.tup [.str r.1,.ref q])/\H q=some (.tup (r.2.map V.str))
def kS:Sp:=λvs H Q _=>∃(d:Addr) (mo:Nat) (n s t:Int),vs=[.ref d,.int mo]/\H d=some (.dK (src n s t))/\0 < mo/\mo<=14/\
 ∀(l:Addr) (ps:List Addr) (rs:List (Str×List Str)) (n' t':Int) (H':Hp),H l=none->H' l=some (.lst (ps.map V.ref))->jw H' ps rs->qy rs->0 < rs.length->rs.length<=mo->H' d=some (.dK (src n' s t'))->Fr H d H'->Q (.ref l) H'
structure Qk (mg:Str->Option Value):Prop where
 srt:mg "sorted"=none
 lst:mg "list"=none
 rev:mg "reversed"=none
 set:mg "set"=none
 tup:mg "tuple"=none
theorem jw.mono {H H':Hp} {ps:List Addr} {rs:List (Str×List Str)} (h:jw H ps rs) (s:Same H H'):jw H' ps rs:=⟨h.1,λi p r e1 e2=>let ⟨q,a,b⟩:=h.2 i p r e1 e2;⟨q,s _ _ a,s _ _ b⟩⟩
theorem J4.mono {H H':Hp} {ps:List Addr} {ks:List (Nat×Nat)} (h:J4 H ps ks) (s:Same H H'):J4 H' ps ks:=⟨h.1,λi p k e1 e2=>s _ _ (h.2 i p k e1 e2)⟩
theorem Fr.same {H H' H'':Hp} {d:Addr} (h:Fr H d H') (s:Same H' H''):Fr H d H'':=λb u hb hn=>s _ _ (h b u hb hn)
theorem jw.snoc {H:Hp} {ps:List Addr} {rs:List (Str×List Str)} (h:jw H ps rs) {p q:Addr} {r:Str×List Str} (hp:H p=some (.tup [.str r.1,.ref q])) (hq:H q=some (.tup (r.2.map V.str))):jw H (ps++[p]) (rs++[r]):=by
 refine⟨by rw[List.length_append,List.length_append,h.1];rfl,λi p' r' e1 e2=>?_⟩
 by_cases hi:i < ps.length
 . rw[List.getElem?_append_left hi]at e1
   rw[List.getElem?_append_left (by rw[<-h.1];exact hi)]at e2
   exact h.2 i p' r' e1 e2
 . have hi':i=ps.length:=by
     have:=(List.getElem?_eq_some_iff.mp e1).1
     rw[List.length_append,List.length_singleton]at this
     omega
   subst hi'
   rw[List.getElem?_append_right (Nat.le_refl _),Nat.sub_self]at e1
   rw[h.1,List.getElem?_append_right (Nat.le_refl _),Nat.sub_self]at e2
   obtain rfl:=(Option.some.inj e1).symm
   obtain rfl:=(Option.some.inj e2).symm
   exact⟨q,hp,hq⟩
theorem jw.upd_lst {H:Hp} {ps:List Addr} {rs:List (Str×List Str)} {l:Addr} {xs:List V} {o:HO} (h:jw H ps rs) (hl:H l=some (.lst xs)):jw (upd H l o) ps rs:=by
 refine⟨h.1,λi p r e1 e2=>?_⟩
 obtain⟨q,a,b⟩:=h.2 i p r e1 e2
 refine⟨q,?_,?_⟩
 . rw[qg (λe=>by rw[e,hl]at a;cases a)]
   exact a
 . rw[qg (λe=>by rw[e,hl]at b;cases b)]
   exact b
theorem VT {tc:TT} {tp u:TS} {D:Qu} {σ:L2.St} {H0:Hp} (R:Bool->Hp->Prop) (G:L2.St->Hp->Prop) (ht:∀Q:Bool->Hp->Prop,(∀b H1,R b H1->Q b H1)->tc σ H0 Q)
   (hT:∀H1,R true H1->∀D':Qu,(∀σ' H',G σ' H'->D'.nx σ' H')->tp D' σ H1) (hF:∀H1,R false H1->G σ H1) (k:∀σ' H',G σ' H'->u D σ' H'):KN (kM tc tp Wt) u D σ H0:=
 ht _ λb H1 r=>by
   cases b
   . exact qZ (k _ _ (hF _ r))
   . exact jY (hT _ r _ k)
theorem Kg {zs:List Str} {j:Nat} (h:j < zs.length):Vc (zs.map V.str) ((j:Nat):Int)=some (V.str (Wj zs j)):=QS (by rw[List.getElem?_map,Xt h];rfl)
theorem kJ {ks:List (Nat×Nat)} {j:Nat} {x:Nat×Nat} (k:Nat) (h:ks[j]?=some x):YX (ks.take (j+1)) k=YX (ks.take j) k++if x.1=k then [x.2] else []:=by
 unfold YX
 rw[List.take_add_one,h,List.filter_append,List.map_append]
 congr 1
 by_cases e:x.1=k
 . rw[if_pos e]
   simp [e]
 . rw[if_neg e]
   simp [e]
abbrev oL (os:List Nat):List V:=os.map λk=>V.int ((k:Nat):Int)
theorem ut (os:List Nat):oL os=(os.map λk=>((k:Nat):Int)).map V.int:=by rw[List.map_map];rfl
section
variable {P:Program} {w:World} {K:PySem.W.Frag} {mg:Str->Option Value} {base:Heap}
abbrev Nj:List Str:=["_law_source_here","_law_most","_law_many","_law_names_here","_law_shape","_law_pairs","_law_about","_law_order","_law_rows_here","_law_k","_law_leads_here"]
theorem Qq:qv Nj ["_law_source_here","_law_most"] (qk Us):=⟨rfl,rfl,rfl,by decide+kernel,rfl,by decide+kernel,by decide+kernel⟩
abbrev NC:List Str:=["_law_one","_law_j","_law_k","_law_names_here"]
theorem UY:NC.Nodup:=by decide+kernel
theorem uh {f fT fN fL:Addr} {fd fdT fdN fdL:FuncData} (F:jQ K "_law_rows" "_law_rows" Us f fd) (B:Jc mg) (G:Qk mg) (hT:je K mg "_law_take" zX ["_law_source_here","_law_many"] fT fdT)
   (hN:je K mg "_law_names" zZ ["_law_source_here","_law_many"] fN fdN) (hL:je K mg "_law_leads" z7 Yi fL fdL):qp P w K mg base qM 3 f fd ["_law_source_here","_law_most"] kS:=by
 have GT:qp P w K mg base qM 1 fT fdT ["_law_source_here","_law_many"] zS:=zC hT.fn
 have GN:qp P w K mg base qM 2 fN fdN ["_law_source_here","_law_many"] Uk:=yT hN.fn B hT
 have GL:qp P w K mg base qM 2 fL fdL Yi Ul:=yV hL.fn B G.srt hT
 refine F.okJ Qq (λvs H Q E h=>?_) (λcdv A outer s H vs Q E hr h=>?_)
 . obtain⟨d,m,n,sd,t,rfl,_⟩:=h
   rfl
 . obtain⟨d,mo,n,sd,t,rfl,hd,hmo,hm14,q⟩:=h
   have r1:q5 1 _:=hr.mono (by decide)
   refine⟨_,qe (qw (i:=2) Qq.nd rfl (Or.inr rfl) (qI Qr qi (qJ hT GT r1 (by rfl) (qb (jv 0) (qb (jv 1) qf)))))
     (qe (qw (i:=3) Qq.nd rfl (Or.inr rfl) (qJ hN GN hr (by rfl) (qb (jv 0) (qb (jv 2) qf))))
     (qe (qw (i:=4) Qq.nd rfl (Or.inl rfl) (qJ hT GT r1 (by rfl) (qb (jv 0) (qb qi qf))))
     (qe (qw (i:=5) Qq.nd rfl (Or.inl rfl) (qJ hL GL hr (by rfl) (qb (jv 0) (qb (jv 2) (qb (jv 4) (qb (qI Qr qi (qJ hT GT r1 (by rfl) (qb (jv 0) (qb qi qf)))) qf))))))
     (qe (qw (i:=6) Qq.nd rfl (Or.inl rfl) (Qb j7 (qJ hT GT r1 (by rfl) (qb (jv 0) (qb qi qf))) qi (qz _)))
     (qe (qw (i:=7) Qq.nd rfl (Or.inl rfl) (Nu rfl (by rfl) G.lst (by rfl) B.rng (jv 2)))
     (qe (qL (jt (jv 6)) (qh (QH (i:=7) (N':=["_law_k","_law_many"]) (ix:=[none,some 2]) Qq.nd rfl (Or.inl rfl) rfl ⟨rfl,rfl,rfl,rfl,rfl⟩ (ju (by rfl) B.rng (qb (jv 2) qf))
         (λC s2 H2 fp pins=>⟨qt (i:=0) (show (["_law_k","_law_many"]:List Str).Nodup by decide+kernel) rfl (Or.inl rfl),Qa,qI Jj (qI Ji (jv 0) qi) (jv 1)⟩))) qC)
     (qe (qL (qu QF (qE W5 (by rfl) B.len boot_len (qb (jC (kC rfl) (by rfl) G.set boot_set (qb (jv 7) qf)) qf)) (jv 2) (qz _))
         (qh (qw (i:=7) Qq.nd rfl (Or.inl rfl) (GU rfl (by rfl) G.lst (by rfl) G.rev (by rfl) B.rng (jv 2)))) qC)
     (qe (qw (i:=8) Qq.nd rfl (Or.inl rfl) (jE qf))
     (qe (qT PassesOwn.never rfl (qO (jv 7)) (qt (i:=9) Qq.nd rfl (Or.inr rfl))
       (qe (QH (i:=10) (N':=NC) (ix:=[none,none,some 9,some 3]) (g:=G0 K 2 (WV (Qw 0) (WV (Qw 1) G8))) (te:=Xv (K5 K) (jm 3) (jm 1)) Qq.nd rfl (Or.inl rfl) rfl ⟨rfl,rfl,rfl,rfl,rfl⟩ (qO (jv 5))
           (λC s2 H2 fp pins=>⟨Zl rfl (jn (qt (i:=0) UY rfl (Or.inl rfl)) (jn (qt (i:=1) UY rfl (Or.inl rfl)) Jl)),
             j9 (qu j7 (jv 0) (jv 2) (qz _)),qN jU (jv 3) (jv 1) (λ_ _=>rfl)⟩))
       (qe (qL (jt (jv 6)) (qh (qY (X8 PySem.F.plainAttrs_list PySem.F.slot_list_reverse PySem.F.type_list_reverse VJ (jv 10)))) qC)
       (qh (qY (zg PySem.F.plainAttrs_list PySem.F.slot_list_append PySem.F.type_list_append Qg (jv 8) (qb
         (jN (qb (qN jU (jv 3) (jv 9) (λ_ _=>rfl)) (qb (jC YQ (by rfl) G.tup boot_tuple (qb (jv 10) qf)) qf))) qf)))))))
     (qh (qA (jv 8)))))))))))),?_⟩
   refine⟨_,rfl,_,rfl,d,mo,n,sd,t,rfl,hd,by omega,by omega,λr n1 t1 r0 r1=>⟨_,_,rfl,rfl,?_⟩⟩
   obtain⟨m,em,m0,m1⟩:∃m:Nat,1+r=(m:Int)/\0 < m/\m<=mo:=⟨(1+r).toNat,by omega,by omega,by omega⟩
   have em':(λi j:Int=>V.int (i+j)) 1 r=V.int (m:Int):=congrArg V.int em
   rw[em']
   refine⟨_,rfl,_,rfl,d,m,n1,sd,t1,rfl,qd,by omega,λlz zs n2 t2 H2 hlz hlz' zl zn znd hd2 fr2=>?_⟩
   have fr2:Fr H d H2:=Fr.refl.at_d.trans fr2
   refine⟨_,rfl,d,5,n2,sd,t2,rfl,hd2,by decide,by decide,λsh n3 t3 _ _=>?_⟩
   refine⟨_,rfl,_,rfl,_,rfl,_,rfl,d,5,n3,sd,t3,rfl,qd,by decide,by decide,λlw n4 t4 _ _=>⟨_,_,rfl,rfl,d,m,n4,sd,t4,sh,1+lw,rfl,qd,by omega,λlp ps ks n5 t5 H5 hlp hlp' pat kord klt k40 hd5 fr5=>?_⟩⟩
   have nzd:lz≠d:=λe=>by rw[e,qd]at hlz;cases hlz
   have hz5:H5 lz=some (.lst (zs.map V.str)):=fr5 _ _ (by rw[qg nzd,qg nzd];exact hlz') nzd
   have fr5:Fr H d H5:=fr2.at_d.at_d.trans fr5
   refine⟨_,rfl,d,2,n5,sd,t5,rfl,hd5,by decide,by decide,λab n6 t6 _ _=>⟨rfl,?_⟩⟩
   generalize decide (V.int ab=V.int 1)=b
   have npd:lp≠d:=λe=>by rw[e,qd]at hlp;cases hlp
   have fr6:Fr H d (upd H5 d (.dK (src n6 sd t6))):=fr5.at_d
   have hd6:upd H5 d (.dK (src n6 sd t6)) d=some (.dK (src n6 sd t6)):=qd
   have hz6:upd H5 d (.dK (src n6 sd t6)) lz=some (.lst (zs.map V.str)):=by rw[qg nzd];exact hz5
   have hp6:upd H5 d (.dK (src n6 sd t6)) lp=some (.lst (ps.map V.ref)):=by rw[qg npd];exact hlp'
   have pat6:J4 (upd H5 d (.dK (src n6 sd t6))) ps ks:=⟨pat.1,λi p k e1 e2=>by
     have h1:=pat.2 i p k e1 e2
     have:p≠d:=λe=>by rw[e,hd5]at h1;cases h1
     rw[qg this]
     exact h1⟩
   generalize upd H5 d (.dK (src n6 sd t6))=H6 at fr6 hd6 hz6 hp6 pat6
   refine⟨_,rfl,m,rfl,by omega,λlo hlo=>?_⟩
   refine Yz ?_
   dsimp only[List.set]
   refine VT (λc H'=>c=b/\H'=upd H6 lo (.lst (Kh m))) (λσ' H'=>∃lo os,σ'=[some (.ref d),some (.int mo),some (.int m),some (.ref lz),some (.int sh),some (.ref lp),some (.bl b),some (.ref lo),none,none,none]/\Same H6 H'/\H6 lo=none/\H' lo=some (.lst (oL os))/\(os=List.range m\/os=zh m))
     (λQ k=>⟨_,rfl,b,rfl,k _ _ ⟨rfl,rfl⟩⟩) ?_ ?_ ?_
   . rintro H1 ⟨rfl,rfl⟩ D' k
     refine⟨_,rfl,m,rfl,by omega,by omega,λD hD=>?_⟩
     refine Jb (λi σ' H'=>∃v:Option V,σ'=[v,some (.int m)]/\H'=upd (upd H6 lo (.lst (Kh m))) D (.lst (oL ((List.range i).map λk=>k*5 % m)))) ⟨none,rfl,rfl⟩ ?_ ?_
     . rintro i σ' H' hi ⟨v,rfl,rfl⟩
       rw[Int.zero_add]
       have hi:i < m:=by simpa using hi
       refine⟨_,rfl,_,_,rfl,rfl,.inl ⟨by omega,by omega⟩,_,rfl,_,_,rfl,rfl,(by show (0:Int) < m;omega),_,qd,?_,_,rfl,?_⟩
       . rw[List.length_map,List.length_map,List.length_range]
         exact qo (by omega)
       . rw[jG,List.range_succ,List.map_append,oL,oL,List.map_append]
         rfl
     . rintro σ' H' ⟨v,rfl,rfl⟩
       have hD6:H6 D=none:=by
         by_cases e:D=lo
         . rw[e];exact hlo
         . rw[qg e]at hD;exact hD
       exact k _ _ ⟨D,zh m,rfl,λa u h=>qm (qm h hlo) hD,hD6,qd,.inr rfl⟩
   . rintro H1 ⟨rfl,rfl⟩
     exact⟨lo,List.range m,rfl,qj hlo,hlo,qd,.inl rfl⟩
   rintro σ' H7 ⟨lo,os,rfl,s7,hlo6,hlo7,hos⟩
   have los:os.length=m:=by
     rcases hos with rfl | rfl
     . exact List.length_range
     . rw[zh,List.length_map,List.length_range]
   refine VT (λc H'=>Same H7 H'/\(c=true\/os.Nodup)) (λσ' H'=>∃lo os,σ'=[some (.ref d),some (.int mo),some (.int m),some (.ref lz),some (.int sh),some (.ref lp),some (.bl b),some (.ref lo),none,none,none]/\Same H6 H'/\H' lo=some (.lst (oL os))/\W9 m os)
     ?_ ?_ ?_ ?_
   . intro Q k
     refine⟨_,rfl,lo,os.map (λk=>((k:Nat):Int)),rfl,.of (by rw[<-ut];exact hlo7),by rw[List.length_map,los];omega,λl S hl=>?_⟩
     refine⟨l,S,_,rfl,qd,_,rfl,_,_,rfl,rfl,_,rfl,k _ _ ⟨qj hl,?_⟩⟩
     by_cases h:(((firstMet (λi=>(os.map λk=>((k:Nat):Int)).getD i 0) (os.map λk=>((k:Nat):Int)).length).length:Nat):Int) < (m:Int)
     . exact .inl (decide_eq_true h)
     . exact .inr (Gp (by rw[los];omega))
   . rintro H1 ⟨s1,_⟩ D' k
     refine⟨_,rfl,m,rfl,by omega,λl hl=>?_⟩
     exact k _ _ ⟨l,ZN m,rfl,λa u h=>qm (s1 _ _ (s7 _ _ h)) hl,qd,VA m⟩
   . rintro H1 ⟨s1,h⟩
     have h:os.Nodup:=h.resolve_left (by decide)
     refine⟨lo,os,rfl,λa u h=>s1 _ _ (s7 _ _ h),s1 _ _ hlo7,?_⟩
     rcases hos with rfl | rfl
     . exact yG m
     . exact WI (by omega) m0 h
   rintro σ' H8 ⟨lo,os,rfl,s8,hlo8,ho⟩
   refine⟨by show 0<=sizeLine;decide,λlr hlr=>⟨_,rfl,lo,rfl,⟨_,.of (qm hlo8 hlr)⟩,?_⟩⟩
   refine jo (K:=K) (a:=lo) (xs:=oL os) (λi σ' H'=>∃(v9 v10:Option V) (qs:List Addr),σ'=[some (.ref d),some (.int mo),some (.int m),some (.ref lz),some (.int sh),some (.ref lp),some (.bl b),some (.ref lo),some (.ref lr),v9,v10]/\
     Same H8 H'/\H' lr=some (.lst (qs.map V.ref))/\jw H' qs ((os.take i).map (Q5 zs ks b)))
     ⟨none,none,[],rfl,qj hlr,qd,rfl,λi p r e=>(nomatch e)⟩ (λi σ' H' _ ⟨_,_,_,_,s,_⟩=>.of (s _ _ hlo8)) ?_ ?_
   . rintro i x σ' H' hx ⟨v9,v10,qs,rfl,s9,hlr9,rat⟩
     have hix:i < os.length:=by
       have:=(List.getElem?_eq_some_iff.mp hx).1
       rwa [List.length_map]at this
     obtain⟨k,hk⟩:∃k,os[i]?=some k:=⟨_,List.getElem?_eq_getElem hix⟩
     have ex:x=V.int ((k:Nat):Int):=by
       rw[List.getElem?_map,hk]at hx
       exact(Option.some.inj hx).symm
     subst ex
     have hkm:k < m:=ho.lt k (List.mem_of_getElem? hk)
     refine⟨_,rfl,lp,rfl,⟨_,.of (s9 _ _ (s8 _ _ hp6))⟩,λD hD=>?_⟩
     have nDr:D≠lr:=λe=>by rw[e,hlr9]at hD;cases hD
     have hz9:H' lz=some (.lst (zs.map V.str)):=s9 _ _ (s8 _ _ hz6)
     have pat9:J4 H' ps ks:=pat6.mono λa u h=>s9 _ _ (s8 _ _ h)
     refine QJ (K:=K) (a:=lp) (xs:=ps.map V.ref) (λj σ'' H''=>∃v0 v1:Option V,σ''=[v0,v1,some (.int k),some (.ref lz)]/\H''=upd H' D (.lst (((YX (ks.take j) k).map (Wj zs)).map V.str))) ⟨none,none,rfl,rfl⟩
       (λj σ'' G _ ⟨_,_,_,e⟩=>e▸.of (qm (s9 _ _ (s8 _ _ hp6)) hD)) ?_ ?_
     . rintro j y σ'' G hy ⟨v0,v1,rfl,rfl⟩
       have hj:j < ps.length:=by
         have:=(List.getElem?_eq_some_iff.mp hy).1
         rwa [List.length_map]at this
       obtain⟨p,hp⟩:∃p,ps[j]?=some p:=⟨_,List.getElem?_eq_getElem hj⟩
       obtain⟨kk,hkk⟩:∃p,ks[j]?=some p:=⟨_,List.getElem?_eq_getElem (by rw[<-pat9.1];exact hj)⟩
       have ey:y=V.ref p:=by
         rw[List.getElem?_map,hp]at hy
         exact(Option.some.inj hy).symm
       subst ey
       have hpt:=pat9.2 j p kk hp hkk
       have hk2:kk.2 < zs.length:=by rw[zl];exact(klt kk (List.mem_of_getElem? hkk)).2
       refine⟨p,_,rfl,.of (qm hpt hD),rfl,_,_,rfl,_,_,rfl,rfl,_,rfl,_,rfl,rfl,_,rfl,?_⟩
       rw[kJ k hkk]
       by_cases e:kk.1=k
       . have e1:decide (V.int ((kk.1:Nat):Int)=V.int ((k:Nat):Int))=true:=decide_eq_true (by rw[e])
         rw[e1,if_pos e]
         refine jY ⟨_,rfl,_,rfl,lz,_,_,_,rfl,rfl,.of (qm hz9 hD),Kg hk2,_,qd,?_,_,_,rfl,?_⟩
         . rw[List.length_map,List.length_map]
           refine qo ?_
           have h1:(YX (ks.take j) k).length<=(ks.take j).length:=by
             unfold YX
             rw[List.length_map]
             exact List.length_filter_le _ _
           rw[List.length_take]at h1
           omega
         . rw[jG,List.map_append,List.map_append]
           rfl
       . have e1:decide (V.int ((kk.1:Nat):Int)=V.int ((k:Nat):Int))=false:=decide_eq_false (by
           intro z
           have:=V.int.inj z
           omega)
         rw[e1,if_neg e,List.append_nil]
         exact qZ ⟨_,_,rfl,rfl⟩
     . rintro σ'' G ⟨v0,v1,rfl,rfl⟩
       rw[List.length_map,pat9.1,List.take_of_length_le (Nat.le_refl _)]
       refine Yz ?_
       dsimp only[List.set]
       refine VT (λc G=>c=b/\G=upd H' D (.lst (((YX ks k).map (Wj zs)).map V.str)))
         (λσ' G=>σ'=[some (.ref d),some (.int mo),some (.int m),some (.ref lz),some (.int sh),some (.ref lp),some (.bl b),some (.ref lo),some (.ref lr),some (.int k),some (.ref D)]/\G=upd H' D (.lst ((Q5 zs ks b k).2.map V.str)))
         (λQ k=>⟨_,rfl,b,rfl,k _ _ ⟨rfl,rfl⟩⟩) ?_ ?_ ?_
       . rintro H1 ⟨rfl,rfl⟩ D' kk
         refine⟨_,rfl,.inl ⟨rfl,_,.of qd⟩,D,_,rfl,rfl,qd,?_⟩
         refine kk _ _ ⟨rfl,?_⟩
         rw[jG,Q5,if_pos rfl,List.map_reverse]
       . rintro H1 ⟨rfl,rfl⟩
         exact⟨rfl,rfl⟩
       rintro σ' G ⟨rfl,rfl⟩
       have hlrG:upd H' D (.lst ((Q5 zs ks b k).2.map V.str)) lr=some (.lst (qs.map V.ref)):=by rw[qg (Ne.symm nDr)];exact hlr9
       have sG:Same H' (upd H' D (.lst ((Q5 zs ks b k).2.map V.str))):=qj hD
       refine⟨_,rfl,.inl ⟨rfl,_,.of hlrG⟩,_,rfl,_,rfl,lz,_,_,_,rfl,rfl,.of (sG _ _ hz9),Kg (by rw[zl];exact hkm),_,rfl,D,_,rfl,.inl ⟨.of qd,λlq hq=>⟨by show 2<=sizeLine;decide,λlt hlt=>?_⟩⟩⟩
       have hqlr:=qm (o':=HO.tup ((Q5 zs ks b k).2.map V.str)) hlrG hq
       have htlr:=qm (o':=HO.tup [V.str (Wj zs k),V.ref lq]) hqlr hlt
       refine⟨lr,_,_,rfl,rfl,htlr,?_,_,_,qs++[lt],rfl,?_,?_,?_⟩
       . rw[List.length_map,rat.1,List.length_map,List.length_take]
         refine qo ?_
         have:=ho.len
         omega
       . exact Same.upd (λa u h=>qm (qm (sG _ _ (s9 _ _ h)) hq) hlt) hlr
       . rw[List.map_append]
         exact qd
       . have e:os.take (i+1)=os.take i++[k]:=by rw[List.take_add_one,hk];rfl
         rw[e,List.map_append]
         refine jw.upd_lst ?_ htlr
         exact jw.snoc (q:=lq) (rat.mono λa u h=>qm (qm (sG _ _ h) hq) hlt) qd (qm qd hlt)
   . rintro σ' H' ⟨v9,v10,qs,rfl,s9,hlr9,rat⟩
     have e:(oL os).length=os.length:=List.length_map ..
     rw[e,List.take_of_length_le (Nat.le_refl _)]at rat
     have h8:H6 lr=none:=by
       cases z:H6 lr with
       | none=>rfl
       | some u=>rw[s8 _ _ z]at hlr;cases hlr
     refine⟨_,rfl,q lr qs _ n6 t6 H' (fr6.fresh hd6 h8) hlr9 rat (km b zl zn znd kord klt k40 ho) ?_ ?_ (s9 _ _ (s8 _ _ hd6)) (fr6.same λa u h=>s9 _ _ (s8 _ _ h))⟩
     . rw[List.length_map,ho.len];exact m0
     . rw[List.length_map,ho.len];exact m1
end
end Rh
set_option Elab.async false
set_option linter.all false
set_option maxRecDepth 100000
set_option maxHeartbeats 4000000
namespace Rh
open PySem L2 PyProof.Rows
abbrev Y4:Stmt:=top 20
abbrev z9:Stmt:=top 21
abbrev Uu:Stmt:=top 22
abbrev wP:Stmt:=top 23
abbrev Uv:Stmt:=top 24
abbrev wQ:Stmt:=top 25
abbrev WC:Stmt:=top 26
theorem Gh (x:Str):[x].Nodup:=by simp
structure QL (K:PySem.W.Frag) (mg:Str->Option Value):Prop where
 isi:mg "isinstance"=none
 str:mg "str"=none
 all:mg "all"=none
 enu:mg "enumerate"=none
 sum:mg "sum"=none
 lets:∃t,mg "LETTERS"=some (.str U5 t)
 lgst:∃t,mg "LONGEST_NAME"=some (.int 8 t)
 mp:∃t,mg "MOST_PLACES"=some (.int 14 t)
 mr:∃t,mg "MOST_ROADS"=some (.int 40 t)
 kss:PySem.W.kitOne K (.type "str") (.type "str")=some true
 ktt:PySem.W.kitOne K (.type "tuple") (.type "tuple")=some true
 kll:PySem.W.kitOne K (.type "list") (.type "list")=some true
theorem GY (c:Nat):(!(Builtin.Str.occurrences U5 ⟨#[c]⟩ 0 U5.length 1).isEmpty)=jr c:=by
 rw[StrLaws.found_one,xY]
 unfold jr
 rw[Bool.eq_iff_iff]
 simp only[decide_eq_true_eq,Bool.and_eq_true,List.mem_map,List.mem_range]
 constructor
 . rintro⟨k,hk,rfl⟩
   omega
 . intro h
   exact⟨c - 97,by omega,by omega⟩
theorem xX (f:Nat->Bool) (l:List Nat) (i c:Nat) (h:l[i]?=some c):(l.take i).map f++[f c]=(l.take (i+1)).map f:=by
 rw[List.take_add_one,h]
 simp
def wB:Sp:=λvs H Q _=>∃z,vs=[.str z]/\qV z=true/\∀H',Same H H'->Q (.bl true) H'
def RN:Sp:=λvs H Q _=>∃(q:Addr) (zs:List Str),vs=[.ref q]/\H q=some (.tup (zs.map V.str))/\(∀z∈zs,qV z=true)/\zs.length<=1000/\∀H',Same H H'->Q (.bl true) H'
def Kl:Sp:=λvs H Q _=>∃(p q:Addr) (r:Str×List Str),vs=[.ref p]/\H p=some (.tup [.str r.1,.ref q])/\H q=some (.tup (r.2.map V.str))/\qV r.1=true/\(∀z∈r.2,qV z=true)/\r.2.length<=1000/\∀H',Same H H'->Q (.bl true) H'
structure jg (H:Hp) (l:Addr) (ps:List Addr) (rs:List (Str×List Str)):Prop where
 at_:H l=some (.lst (ps.map V.ref))
 rows:jw H ps rs
 good:qy rs
 pos:0 < rs.length
 le:rs.length<=14
theorem jg.mono {H H':Hp} {l:Addr} {ps:List Addr} {rs:List (Str×List Str)} (h:jg H l ps rs) (s:Same H H'):jg H' l ps rs:=⟨s _ _ h.at_,h.rows.mono s,h.good,h.pos,h.le⟩
theorem qy.names {rs:List (Str×List Str)} (h:qy rs):∀r∈rs,∀z∈r.2,qV z=true:=λr hr z hz=>by
 obtain⟨r',hr',rfl⟩:=List.mem_map.mp (h.to r hr z hz)
 exact h.nm r' hr'
theorem qy.len {rs:List (Str×List Str)} (h:qy rs):∀r∈rs,r.2.length<=40:=λr hr=>by
 refine Nat.le_trans ?_ h.few
 have:∀(rs:List (Str×List Str)),r∈rs->r.2.length<=(rs.map λr=>r.2.length).sum:=by
   intro rs
   induction rs with
   | nil=>intro h;cases h
   | cons a rs ih=>
     intro h
     rw[List.map_cons,List.sum_cons]
     rcases List.mem_cons.mp h with rfl | h
     . omega
     . have:=ih h
       omega
 exact this rs hr
theorem jw.item {H:Hp} {ps:List Addr} {rs:List (Str×List Str)} (h:jw H ps rs) {i:Nat} {x:V} (hx:(ps.map V.ref)[i]?=some x):∃p q r,x=.ref p/\rs[i]?=some r/\r∈rs/\H p=some (.tup [.str r.1,.ref q])/\H q=some (.tup (r.2.map V.str)):=by
 rw[List.getElem?_map]at hx
 cases e:ps[i]? with
 | none=>rw[e]at hx;cases hx
 | some p=>
   rw[e]at hx
   have hi:i < rs.length:=by
     have:=(List.getElem?_eq_some_iff.mp e).1
     rw[h.1]at this
     exact this
   obtain⟨q,a,b⟩:=h.2 i p _ e (List.getElem?_eq_getElem hi)
   exact⟨p,q,_,(Option.some.inj hx).symm,List.getElem?_eq_getElem hi,List.getElem_mem hi,a,b⟩
def ZS:Sp:=λvs H Q _=>∃(l:Addr) (ps:List Addr) (rs:List (Str×List Str)),vs=[.ref l]/\jg H l ps rs/\∀H',Same H H'->Q .non H'
def Km:Sp:=λvs H Q _=>∃(l:Addr) (zs:List Str),vs=[.ref l]/\H l=some (.lst (zs.map V.str))/\zs.Nodup/\zs.length<=1000/\∀H',Same H H'->Q .non H'
def kZ:Sp:=λvs H Q _=>∃(q l:Addr) (es zs:List Str),vs=[.ref q,.ref l]/\H q=some (.tup (es.map V.str))/\H l=some (.lst (zs.map V.str))/\es.Nodup/\(∀z∈es,z∈zs)/\es.length<=900/\∀H',Same H H'->Q .non H'
theorem QZ {kvs:List (qD×V)} {k:qD} (h:¬k∈kvs.map (·.1)):qQ kvs k=none:=by
 cases e:qQ kvs k with
 | none=>rfl
 | some v=>exact absurd (V9 e) h
theorem Z4 (zs:List Str):(zs.map V.str).all JU=true:=by
 rw[List.all_map,List.all_eq_true]
 intro z _
 rfl
theorem X9 {z:Str} {zs:List Str} (h:z∈zs):Z3 (.str z) (zs.map V.str)=true:=by
 unfold Z3
 rw[List.any_eq_true]
 exact⟨.str z,List.mem_map.mpr ⟨z,h,rfl⟩,by show (z==z)=true;simp⟩
section
variable {P:Program} {w:World} {K:PySem.W.Frag} {mg:Str->Option Value} {base:Heap}
theorem KW:qv ["thing"] ["thing"] (qk Zz):=⟨rfl,rfl,rfl,by decide+kernel,rfl,by decide+kernel,by decide+kernel⟩
theorem XU {f:Addr} {fd:FuncData} (F:jQ K "is_name" "is_name" Zz f fd) (B:Jc mg) (T:QL K mg):qp P w K mg base qM 1 f fd ["thing"] wB:=by
 refine F.okJ KW (λvs H Q E h=>?_) (λcdv A outer s H vs Q E hr h=>?_)
 . obtain⟨x,rfl,_⟩:=h
   rfl
 . obtain⟨z,rfl,hz,q⟩:=h
   obtain⟨tl,hlets⟩:=T.lets
   obtain⟨tg,hlg⟩:=T.lgst
   refine⟨_,qe (qL (Qi (jt (qE jq (by rfl) T.isi boot_isinstance (qb (jv 0) (qb (Qz (v:=.ty "str") (by rfl) T.str boot_str rfl) qf))))) (qh (qA jz)) qC)
     (qe (qL (QG (qu QF (qE Jp (by rfl) B.len boot_len (qb (jv 0) qf)) qi (qz _))
         (Qh (qu Y8 (qE Jp (by rfl) B.len boot_len (qb (jv 0) qf)) (Jm (v:=.int 8) (by rfl) hlg ⟨_,rfl⟩) (qz _)))).pt (qh (qA jz)) qC)
     (qh (qA (qE (Z6 rfl) (by rfl) T.all boot_all (qb (QI (N':=["sign"]) (ix:=[none]) rfl ⟨rfl,rfl,rfl,rfl,rfl⟩ (GJ (jv 0)) (λC s2 H2 fp pins=>
       ⟨qt (i:=0) (Gh _) rfl (Or.inl rfl),Qa,Qb vG (jv 0) (Jm (v:=.str U5) (by rfl) hlets ⟨_,rfl⟩) (by with_unfolding_all rfl)⟩)) qf))))),?_⟩
   have hn:=hz
   unfold qV at hn
   simp only[Bool.and_eq_true,decide_eq_true_eq]at hn
   obtain⟨⟨n1,n8⟩,na⟩:=hn
   have hz':z.length<=sizeLine:=Nat.le_of_lt (qo (by omega))
   refine⟨_,rfl,_,_,_,_,rfl,rfl,.str z,T.kss,_,rfl,qZ ?_⟩
   refine⟨_,rfl,z,rfl,hz',_,_,rfl,rfl,_,rfl,?_⟩
   refine ka (λh=>?_) (λh=>?_)
   . exact absurd (of_decide_eq_true h) (by omega)
   . refine⟨_,rfl,z,rfl,hz',_,_,rfl,rfl,_,rfl,?_⟩
     refine ka (λh2=>?_) (λh2=>?_)
     . exact absurd (of_decide_eq_true h2) (by show ¬(8:Int) < (z.length:Int);omega)
     . refine⟨_,rfl,z,rfl,λD hD=>?_⟩
       refine u3 (λi σ' H'=>∃v,σ'=[v]/\H'=upd H D (.lst (((z.cps.toList.take i).map jr).map V.bl))) ⟨none,rfl,rfl⟩ ?_ ?_
       . rintro i c σ' H' hc ⟨v,rfl,rfl⟩
         refine⟨_,rfl,_,_,rfl,rfl,_,qd,?_,?_⟩
         . rw[List.length_map,List.length_map,List.length_take]
           exact Nat.lt_of_le_of_lt (Nat.min_le_right _ _) (qo (show z.cps.toList.length<=1000 by rw[Array.length_toList];exact Nat.le_trans n8 (by decide)))
         . refine⟨_,rfl,?_⟩
           rw[jG,GY]
           have hc':z.cps.toList[i]?=some c:=by simpa using hc
           rw[<-xX jr z.cps.toList i c hc',List.map_append]
           rfl
       . rintro σ' H' ⟨v,rfl,rfl⟩
         refine⟨D,_,rfl,.of qd,?_⟩
         have e0:z.cps.toList.take z.cps.size=z.cps.toList:=List.take_of_length_le (by simp)
         have e1:(z.cps.toList.map jr).all id=true:=by rw[List.all_map];exact na
         rw[e0,e1]
         exact q _ (qj hD)
theorem KU:qv ["thing"] ["thing"] (qk Y4):=⟨rfl,rfl,rfl,by decide+kernel,rfl,by decide+kernel,by decide+kernel⟩
theorem ug {f fN:Addr} {fd fdN:FuncData} (F:jQ K "is_tuple_of_names" "is_tuple_of_names" Y4 f fd) (B:Jc mg) (G:Qk mg) (T:QL K mg) (hN:je K mg "is_name" Zz ["thing"] fN fdN):qp P w K mg base qM 2 f fd ["thing"] RN:=by
 have GN:qp P w K mg base qM 1 fN fdN ["thing"] wB:=XU hN.fn B T
 refine F.okJ KU (λvs H Q E h=>?_) (λcdv A outer s H vs Q E hr h=>?_)
 . obtain⟨x,zs,rfl,_⟩:=h
   rfl
 . obtain⟨x,zs,rfl,hx,hz,hl,q⟩:=h
   refine⟨_,qh (qA (JQ (qE jq (by rfl) T.isi boot_isinstance (qb (jv 0) (qb (Qz (v:=.ty "tuple") (by rfl) G.tup boot_tuple rfl) qf)))
     (Z1 (qE (Z6 rfl) (by rfl) T.all boot_all (qb (QI (N':=["part"]) (ix:=[none]) rfl ⟨rfl,rfl,rfl,rfl,rfl⟩ (Zj (jv 0)) (λC s2 H2 fp pins=>
       ⟨qt (i:=0) (Gh _) rfl (Or.inl rfl),Qa,qJ hN GN hr (by rfl) (qb (jv 0) qf)⟩)) qf))))),?_⟩
   refine⟨_,rfl,_,_,_,_,rfl,rfl,.tup hx,T.ktt,_,rfl,jY ⟨_,rfl,x,rfl,⟨_,.of hx⟩,λD hD=>?_⟩⟩
   refine UZ (K:=K) (a:=x) (xs:=zs.map V.str) (λi σ' H'=>∃v,σ'=[v]/\Same H H'/\H' D=some (.lst ((List.replicate i true).map V.bl))) ⟨none,rfl,qj hD,qd⟩ (λi σ' H' _ ⟨_,_,s,_⟩=>.of (s _ _ hx)) ?_ ?_
   . rintro i y σ' H' hy ⟨v,rfl,s1,hD1⟩
     rw[List.getElem?_map]at hy
     cases e:zs[i]? with
     | none=>rw[e]at hy;cases hy
     | some z=>
       rw[e]at hy
       obtain rfl:=(Option.some.inj hy).symm
       have hi:=(List.getElem?_eq_some_iff.mp e).1
       refine⟨_,rfl,z,rfl,hz z (List.mem_of_getElem? e),λH2 s2=>⟨_,s2 _ _ hD1,?_,_,rfl,?_,?_⟩⟩
       . rw[List.length_map,List.length_replicate]
         exact qo (by omega)
       . exact Same.upd (s1.trans s2) hD
       . rw[qd,List.replicate_succ',List.map_append]
         rfl
   . rintro σ' H' ⟨v,rfl,s1,hD1⟩
     refine⟨D,_,rfl,.of hD1,?_⟩
     have e:(List.replicate (zs.map V.str).length true).all id=true:=by simp
     rw[e]
     exact q _ s1
theorem wM:qv ["thing"] ["thing"] (qk z9):=⟨rfl,rfl,rfl,by decide+kernel,rfl,by decide+kernel,by decide+kernel⟩
theorem yY {f fN fP:Addr} {fd fdN fdP:FuncData} (F:jQ K "is_row" "is_row" z9 f fd) (B:Jc mg) (G:Qk mg) (T:QL K mg) (hN:je K mg "is_name" Zz ["thing"] fN fdN) (hP:je K mg "is_tuple_of_names" Y4 ["thing"] fP fdP):qp P w K mg base qM 3 f fd ["thing"] Kl:=by
 have GN:qp P w K mg base qM 1 fN fdN ["thing"] wB:=XU hN.fn B T
 have GP:qp P w K mg base qM 2 fP fdP ["thing"] RN:=ug hP.fn B G T hN
 refine F.okJ wM (λvs H Q E h=>?_) (λcdv A outer s H vs Q E hr h=>?_)
 . obtain⟨p,x,r,rfl,_⟩:=h
   rfl
 . obtain⟨p,x,r,rfl,hp,hx,hn,hz,hl,q⟩:=h
   refine⟨_,qe (qL (QG (Qi (jt (qE jq (by rfl) T.isi boot_isinstance (qb (jv 0) (qb (Qz (v:=.ty "tuple") (by rfl) G.tup boot_tuple rfl) qf)))))
       (Qh (qu Kw (qE jp (by rfl) B.len boot_len (qb (jv 0) qf)) qi (qz _)))).pt jc qC)
     (qh (qA (JQ (qJ hN GN (hr.mono (by decide)) (by rfl) (qb (qN qU (jv 0) qi (λ_ _=>rfl)) qf)) (Z1 (qJ hP GP hr (by rfl) (qb (qN qU (jv 0) qi (λ_ _=>rfl)) qf)))))),?_⟩
   refine⟨_,rfl,_,_,_,_,rfl,rfl,.tup hp,T.ktt,_,rfl,qZ ⟨_,rfl,p,_,rfl,.inr (.of hp),rfl,_,rfl,qZ ?_⟩⟩
   refine⟨_,rfl,p,_,0,_,rfl,rfl,.of hp,rfl,r.1,rfl,hn,λH1 s1=>⟨_,rfl,jY ?_⟩⟩
   exact⟨_,rfl,p,_,1,_,rfl,rfl,.of (s1 _ _ hp),rfl,x,r.2,rfl,s1 _ _ hx,hz,hl,λH2 s2=>q H2 (s1.trans s2)⟩
end
end Rh
set_option Elab.async false
set_option linter.all false
set_option maxRecDepth 100000
set_option maxHeartbeats 4000000
namespace Rh
open PySem L2 PyProof.Rows
section
variable {P:Program} {w:World} {K:PySem.W.Frag} {mg:Str->Option Value} {base:Heap}
abbrev No:List Str:=["rows","number","row"]
theorem Vs:qv No ["rows"] (qk Uu):=⟨rfl,rfl,rfl,by decide+kernel,rfl,by decide+kernel,by decide+kernel⟩
theorem um {f fN fP fR:Addr} {fd fdN fdP fdR:FuncData} (F:jQ K "need_form" "need_form" Uu f fd) (B:Jc mg) (G:Qk mg) (T:QL K mg) (hN:je K mg "is_name" Zz ["thing"] fN fdN) (hP:je K mg "is_tuple_of_names" Y4 ["thing"] fP fdP)
   (hR:je K mg "is_row" z9 ["thing"] fR fdR):qp P w K mg base qM 4 f fd ["rows"] ZS:=by
 have GR:qp P w K mg base qM 3 fR fdR ["thing"] Kl:=yY hR.fn B G T hN hP
 obtain⟨tm,hmp⟩:=T.mp
 refine F.okJ Vs (λvs H Q E h=>?_) (λcdv A outer s H vs Q E hr h=>?_)
 . obtain⟨l,ps,rs,rfl,_⟩:=h
   rfl
 . obtain⟨l,ps,rs,rfl,g,q⟩:=h
   refine⟨_,qe (qL (QG (Qi (jt (qE jq (by rfl) T.isi boot_isinstance (qb (jv 0) (qb (Qz (v:=.ty "list") (by rfl) G.lst boot_list rfl) qf)))))
       (Qh (qu j7 (qE jp (by rfl) B.len boot_len (qb (jv 0) qf)) qi (qz _)))).pt jc qC)
     (qe (qL (qu Y8 (qE jp (by rfl) B.len boot_len (qb (jv 0) qf)) (Jm (v:=.int 14) (by rfl) hmp ⟨_,rfl⟩) (qz _)) jc qC)
     (qh (qT PassesOwn.never rfl (X5 (by rfl) T.enu (qb (jv 0) qf)) (Zl rfl (jn (qt (i:=1) Vs.nd rfl (Or.inl rfl)) (jn (qt (i:=2) Vs.nd rfl (Or.inl rfl)) Jl)))
       (qh (qL (Qi (jt (qJ hR GR hr (by rfl) (qb (jv 2) qf)))) jc qC))))),?_⟩
   have lp:(ps.map V.ref).length=rs.length:=by rw[List.length_map,g.rows.1]
   refine⟨_,rfl,_,_,_,_,rfl,rfl,.lst g.at_,T.kll,_,rfl,qZ ⟨_,rfl,l,_,rfl,.inl (.of g.at_),rfl,_,rfl,?_⟩⟩
   have e0:decide (V.int (((ps.map V.ref).length:Nat):Int)=V.int 0)=false:=decide_eq_false (by
     intro z
     have:=V.int.inj z
     have:=g.pos
     omega)
   rw[e0]
   refine qZ ⟨_,rfl,l,_,rfl,.inl (.of g.at_),_,_,rfl,rfl,_,rfl,?_⟩
   have e1:decide ((14:Int) < (((ps.map V.ref).length:Nat):Int))=false:=decide_eq_false (by
     have:=g.le
     omega)
   refine ka (λz=>absurd z (by rw[e1];decide)) (λ_=>?_)
   refine⟨_,rfl,l,rfl,⟨_,.of g.at_⟩,?_⟩
   refine WW (K:=K) (a:=l) (xs:=ps.map V.ref) (λi σ' H'=>∃v1 v2,σ'=[some (.ref l),v1,v2]/\Same H H') ⟨none,none,rfl,Same.refl H⟩ (λi σ' H' _ ⟨_,_,_,s⟩=>.of (s _ _ g.at_)) ?_ ?_
   . rintro i x σ' H' p hx hp ⟨v1,v2,rfl,s1⟩
     have g1:=g.mono (s1.trans (qj (o:=.tup [.int (i:Nat),x]) hp))
     obtain⟨p',q',r,rfl,_,hr',a,b⟩:=g1.rows.item hx
     refine⟨p,_,rfl,.of qd,rfl,_,_,rfl,_,_,rfl,rfl,_,rfl,p',q',r,rfl,a,b,g.good.nm r hr',g.good.names r hr',Nat.le_trans (g.good.len r hr') (by decide),λH2 s2=>⟨_,rfl,qZ ⟨_,_,rfl,?_⟩⟩⟩
     exact(s1.trans (qj hp)).trans s2
   . rintro σ' H' ⟨v1,v2,rfl,s1⟩
     exact q H' s1
abbrev Ms:List Str:=["order","ahead","name"]
theorem yb:qv Ms ["order"] (qk wP):=⟨rfl,rfl,rfl,by decide+kernel,rfl,by decide+kernel,by decide+kernel⟩
theorem Qf {zs:List Str} (hn:zs.Nodup) {i:Nat} {z:Str} (e:zs[i]?=some z):¬(Sum.inr z:qD)∈(zs.take i).map Sum.inr:=λh=>by
 obtain⟨y,hy,ey⟩:=List.mem_map.mp h
 have ey':y=z:=Sum.inr.inj ey
 subst ey'
 obtain⟨j,hj⟩:=List.getElem?_of_mem hy
 have hj1:=(List.getElem?_eq_some_iff.mp hj).1
 rw[List.length_take]at hj1
 have hji:j < i:=by omega
 rw[List.getElem?_take_of_lt hji]at hj
 have h1:=(List.getElem?_eq_some_iff.mp hj)
 have h2:=(List.getElem?_eq_some_iff.mp e)
 exact absurd (h1.2.trans h2.2.symm) (List.pairwise_iff_getElem.mp hn j i h1.1 h2.1 hji)
theorem XS {kvs:List (qD×V)} {k:qD} (v:V) (h:qQ kvs k=none):(jy kvs k v).map (·.1)=kvs.map (·.1)++[k]:=by
 rw[Qn v h,List.map_append]
 rfl
theorem Ge {f:Addr} {fd:FuncData} (F:jQ K "need_own_names" "need_own_names" wP f fd):qp P w K mg base qM 1 f fd ["order"] Km:=by
 refine F.okJ yb (λvs H Q E h=>?_) (λcdv A outer s H vs Q E hr h=>?_)
 . obtain⟨l,zs,rfl,_⟩:=h
   rfl
 . obtain⟨l,zs,rfl,hl,hn,hz,q⟩:=h
   have hu:=jA hr
   refine⟨_,qe (qw (i:=1) yb.nd rfl (Or.inl rfl) jO)
     (qh (qT PassesOwn.never rfl (qO (jv 0)) (qt (i:=2) yb.nd rfl (Or.inl rfl))
       (qe (qL (jX (QX hu (jv 2) (jv 1))) jc qC) (qh (jl hu (jv 1) (jv 2) jz rfl))))),?_⟩
   intro D hD
   refine⟨_,rfl,l,rfl,⟨_,.of (qm hl hD)⟩,?_⟩
   refine jo (K:=K) (a:=l) (xs:=zs.map V.str) (λi σ' H'=>∃v kvs,σ'=[some (.ref l),some (.ref D),v]/\Same H H'/\H' D=some (.dK kvs)/\kvs.map (·.1)=(zs.take i).map Sum.inr) ⟨none,[],rfl,qj hD,qd,rfl⟩ (λi σ' H' _ ⟨_,_,_,s,_⟩=>.of (s _ _ hl)) ?_ ?_
   . rintro i x σ' H' hx ⟨v,kvs,rfl,s1,hD1,ek⟩
     rw[List.getElem?_map]at hx
     cases e:zs[i]? with
     | none=>rw[e]at hx;cases hx
     | some z=>
       rw[e]at hx
       obtain rfl:=(Option.some.inj hx).symm
       have hi:=(List.getElem?_eq_some_iff.mp e).1
       have ez:qQ kvs (Sum.inr z:qD)=none:=QZ (by rw[ek];exact Qf hn e)
       have gz:jB H' D (.str z) none:=by
         have:=jB.k (k:=(Sum.inr z:qD)) hD1
         rw[ez]at this
         exact this
       have lk:kvs.length < sizeLine:=by
         have:=congrArg List.length ek
         rw[List.length_map,List.length_map,List.length_take]at this
         exact qo (by omega)
       refine⟨_,rfl,_,rfl,D,none,rfl,gz,_,rfl,qZ ?_⟩
       refine⟨_,rfl,_,rfl,D,_,rfl,QM.k (k:=(Sum.inr z:qD)) hD1 lk,_,_,rfl,Same.upd s1 hD,qd,?_⟩
       rw[XS _ ez,ek,List.take_add_one,e,List.map_append]
       rfl
   . rintro σ' H' ⟨v,kvs,rfl,s1,_⟩
     exact q H' s1
abbrev Np:List Str:=["ends","order","ahead","name"]
theorem Vt:qv Np ["ends","order"] (qk Uv):=⟨rfl,rfl,rfl,by decide+kernel,rfl,by decide+kernel,by decide+kernel⟩
theorem uo {f:Addr} {fd:FuncData} (F:jQ K "need_ends" "need_ends" Uv f fd):qp P w K mg base qM 1 f fd ["ends","order"] kZ:=by
 refine F.okJ Vt (λvs H Q E h=>?_) (λcdv A outer s H vs Q E hr h=>?_)
 . obtain⟨x,l,es,zs,rfl,_⟩:=h
   rfl
 . obtain⟨x,l,es,zs,rfl,hx,hl,hn,hin,hz,q⟩:=h
   have hu:=jA hr
   refine⟨_,qe (qw (i:=2) Vt.nd rfl (Or.inl rfl) jO)
     (qh (qT PassesOwn.never rfl (Zj (jv 0)) (qt (i:=3) Vt.nd rfl (Or.inl rfl))
       (qe (qL (qu Qy (jv 3) (jv 1) (by with_unfolding_all rfl)) jc qC)
       (qe (qL (jX (QX hu (jv 3) (jv 2))) jc qC) (qh (jl hu (jv 2) (jv 3) jz rfl)))))),?_⟩
   intro D hD
   refine⟨_,rfl,x,rfl,⟨_,.of (qm hx hD)⟩,?_⟩
   refine zL (K:=K) (a:=x) (xs:=es.map V.str) (λi σ' H'=>∃v kvs,σ'=[some (.ref x),some (.ref l),some (.ref D),v]/\Same H H'/\H' D=some (.dK kvs)/\kvs.map (·.1)=(es.take i).map Sum.inr) ⟨none,[],rfl,qj hD,qd,rfl⟩ (λi σ' H' _ ⟨_,_,_,s,_⟩=>.of (s _ _ hx)) ?_ ?_
   . rintro i y σ' H' hy ⟨v,kvs,rfl,s1,hD1,ek⟩
     rw[List.getElem?_map]at hy
     cases e:es[i]? with
     | none=>rw[e]at hy;cases hy
     | some z=>
       rw[e]at hy
       obtain rfl:=(Option.some.inj hy).symm
       have hi:=(List.getElem?_eq_some_iff.mp e).1
       have ez:qQ kvs (Sum.inr z:qD)=none:=QZ (by rw[ek];exact Qf hn e)
       have gz:jB H' D (.str z) none:=by
         have:=jB.k (k:=(Sum.inr z:qD)) hD1
         rw[ez]at this
         exact this
       have lk:kvs.length < sizeLine:=by
         have:=congrArg List.length ek
         rw[List.length_map,List.length_map,List.length_take]at this
         exact qo (by omega)
       refine⟨_,rfl,_,rfl,l,_,rfl,.inl (.of (s1 _ _ hl)),rfl,Z4 zs,_,rfl,?_⟩
       rw[X9 (hin z (List.mem_of_getElem? e))]
       refine qZ ⟨_,rfl,_,rfl,D,none,rfl,gz,_,rfl,qZ ?_⟩
       refine⟨_,rfl,_,rfl,D,_,rfl,QM.k (k:=(Sum.inr z:qD)) hD1 lk,_,_,rfl,Same.upd s1 hD,qd,?_⟩
       rw[XS _ ez,ek,List.take_add_one,e,List.map_append]
       rfl
   . rintro σ' H' ⟨v,kvs,rfl,s1,_⟩
     exact q H' s1
abbrev Mz:List Str:=["rows","many"]
theorem Kq:qv Mz ["rows"] (qk wQ):=⟨rfl,rfl,rfl,by decide+kernel,rfl,by decide+kernel,by decide+kernel⟩
theorem Gg {f:Addr} {fd:FuncData} (F:jQ K "need_few_roads" "need_few_roads" wQ f fd) (B:Jc mg) (T:QL K mg):qp P w K mg base qM 1 f fd ["rows"] ZS:=by
 obtain⟨tm,hmr⟩:=T.mr
 refine F.okJ Kq (λvs H Q E h=>?_) (λcdv A outer s H vs Q E hr h=>?_)
 . obtain⟨l,ps,rs,rfl,_⟩:=h
   rfl
 . obtain⟨l,ps,rs,rfl,g,q⟩:=h
   refine⟨_,qe (qw (i:=1) Kq.nd rfl (Or.inl rfl) (qE (kB rfl) (by rfl) T.sum boot_sum (qb (QI (N':=["row"]) (ix:=[none]) (te:=Rv (λxs H Q=>∃p ys,xs=[.ref p]/\(SqL K H p ys\/SqT K H p ys)/\Q (.int ys.length) H) (jx (Xv (XR K) (jm 0) (tC (.int 1))) Q0)) rfl ⟨rfl,rfl,rfl,rfl,rfl⟩ (qO (jv 0)) (λC s2 H2 fp pins=>
       ⟨qt (i:=0) (Gh _) rfl (Or.inl rfl),Qa,qE jp (by rfl) B.len boot_len (qb (qN qU (jv 0) qi (λ_ _=>rfl)) qf)⟩)) qf)))
     (qh (qL (qu Y8 (jv 1) (Jm (v:=.int 40) (by rfl) hmr ⟨_,rfl⟩) (qz _)) jc qC)),?_⟩
   refine⟨_,rfl,l,rfl,⟨_,.of g.at_⟩,λD hD=>?_⟩
   refine QJ (K:=K) (a:=l) (xs:=ps.map V.ref) (λi σ' H'=>∃v,σ'=[v]/\H'=upd H D (.lst (((rs.take i).map λr=>r.2.length).map λn=>V.int ((n:Nat):Int)))) ⟨none,rfl,rfl⟩ (λi σ' H' _ ⟨_,_,e⟩=>e▸.of (qm g.at_ hD)) ?_ ?_
   . rintro i x σ' H' hx ⟨v,rfl,rfl⟩
     obtain⟨p',q',r,rfl,er,hr',a,b⟩:=g.rows.item hx
     have hi:=(List.getElem?_eq_some_iff.mp er).1
     refine⟨_,rfl,p',_,1,_,rfl,rfl,.of (qm a hD),rfl,q',_,rfl,.inr (.of (qm b hD)),_,qd,?_,_,rfl,?_⟩
     . rw[List.length_map,List.length_map,List.length_take]
       have:=g.le
       exact qo (by omega)
     . rw[jG,List.take_add_one,er,List.map_append,List.map_append,List.length_map]
       rfl
   . rintro σ' H' ⟨v,rfl,rfl⟩
     have e:rs.take (ps.map V.ref).length=rs:=List.take_of_length_le (by rw[List.length_map,g.rows.1];exact Nat.le_refl _)
     rw[e]
     refine⟨D,_,rfl,.of qd,Nat.lt_of_le_of_lt g.good.few (by decide),?_⟩
     refine⟨_,rfl,_,_,rfl,rfl,_,rfl,?_⟩
     have:=g.good.few
     refine ka (λz=>absurd (of_decide_eq_true z) ?_) (λ_=>q _ (qj hD))
     show ¬(40:Int) < _
     omega
abbrev Nk:List Str:=["rows","order","row"]
theorem Vr:qv Nk ["rows"] (qk WC):=⟨rfl,rfl,rfl,by decide+kernel,rfl,by decide+kernel,by decide+kernel⟩
structure Kd (K:PySem.W.Frag) (mg:Str->Option Value):Prop where
 nm:∃f fd,je K mg "is_name" Zz ["thing"] f fd
 tn:∃f fd,je K mg "is_tuple_of_names" Y4 ["thing"] f fd
 rw:∃f fd,je K mg "is_row" z9 ["thing"] f fd
 fo:∃f fd,je K mg "need_form" Uu ["rows"] f fd
 ow:∃f fd,je K mg "need_own_names" wP ["order"] f fd
 en:∃f fd,je K mg "need_ends" Uv ["ends","order"] f fd
 fw:∃f fd,je K mg "need_few_roads" wQ ["rows"] f fd
theorem uj {f:Addr} {fd:FuncData} (F:jQ K "need_rows" "need_rows" WC f fd) (B:Jc mg) (G:Qk mg) (T:QL K mg) (N:Kd K mg):qp P w K mg base qM 5 f fd ["rows"] ZS:=by
 obtain⟨fN,fdN,hN⟩:=N.nm
 obtain⟨fP,fdP,hP⟩:=N.tn
 obtain⟨fR,fdR,hR⟩:=N.rw
 obtain⟨fF,fdF,hF⟩:=N.fo
 obtain⟨fO,fdO,hO⟩:=N.ow
 obtain⟨fE,fdE,hE⟩:=N.en
 obtain⟨fW,fdW,hW⟩:=N.fw
 have GF:qp P w K mg base qM 4 fF fdF ["rows"] ZS:=um hF.fn B G T hN hP hR
 have GO:qp P w K mg base qM 1 fO fdO ["order"] Km:=Ge hO.fn
 have GE:qp P w K mg base qM 1 fE fdE ["ends","order"] kZ:=uo hE.fn
 have GW:qp P w K mg base qM 1 fW fdW ["rows"] ZS:=Gg hW.fn B T
 refine F.okJ Vr (λvs H Q E h=>?_) (λcdv A outer s H vs Q E hr h=>?_)
 . obtain⟨l,ps,rs,rfl,_⟩:=h
   rfl
 . obtain⟨l,ps,rs,rfl,g,q⟩:=h
   refine⟨_,qe (qY (qJ hF GF hr (by rfl) (qb (jv 0) qf)))
     (qe (QH (i:=1) (N':=["row"]) (ix:=[none]) (te:=Xv (XR K) (jm 0) (tC (.int 0))) Vr.nd rfl (Or.inl rfl) rfl ⟨rfl,rfl,rfl,rfl,rfl⟩ (qO (jv 0)) (λC s2 H2 fp pins=>
       ⟨qt (i:=0) (Gh _) rfl (Or.inl rfl),Qa,qN qU (jv 0) qi (λ_ _=>rfl)⟩))
     (qe (qY (qJ hO GO (hr.mono (by decide)) (by rfl) (qb (jv 1) qf)))
     (qe (qT PassesOwn.never rfl (qO (jv 0)) (qt (i:=2) Vr.nd rfl (Or.inl rfl))
       (qh (qY (qJ hE GE (hr.mono (by decide)) (by rfl) (qb (qN qU (jv 2) qi (λ_ _=>rfl)) (qb (jv 1) qf))))))
     (qh (qY (qJ hW GW (hr.mono (by decide)) (by rfl) (qb (jv 0) qf))))))),?_⟩
   refine⟨_,rfl,l,ps,rs,rfl,g,λH1 s1=>?_⟩
   have g1:=g.mono s1
   refine⟨_,rfl,l,rfl,⟨_,.of g1.at_⟩,λD hD=>?_⟩
   refine QJ (K:=K) (a:=l) (xs:=ps.map V.ref) (λi σ' H'=>∃v,σ'=[v]/\H'=upd H1 D (.lst (((rs.take i).map (·.1)).map V.str))) ⟨none,rfl,rfl⟩ (λi σ' H' _ ⟨_,_,e⟩=>e▸.of (qm g1.at_ hD)) ?_ ?_
   . rintro i x σ' H' hx ⟨v,rfl,rfl⟩
     obtain⟨p',q',r,rfl,er,hr',a,b⟩:=g1.rows.item hx
     have hi:=(List.getElem?_eq_some_iff.mp er).1
     refine⟨_,rfl,p',_,0,_,rfl,rfl,.of (qm a hD),rfl,_,qd,?_,_,rfl,?_⟩
     . rw[List.length_map,List.length_map,List.length_take]
       have:=g.le
       exact qo (by omega)
     . rw[jG,List.take_add_one,er,List.map_append,List.map_append]
       rfl
   . rintro σ' H' ⟨v,rfl,rfl⟩
     have e:rs.take (ps.map V.ref).length=rs:=List.take_of_length_le (by rw[List.length_map,g.rows.1];exact Nat.le_refl _)
     rw[e]
     refine⟨_,rfl,D,rs.map (·.1),rfl,qd,g.good.nd,by rw[List.length_map];have:=g.le;omega,λH2 s2=>?_⟩
     have sD:Same H1 H2:=(qj hD).trans s2
     have hD2:H2 D=some (.lst ((rs.map (·.1)).map V.str)):=s2 _ _ qd
     have g2:=g1.mono sD
     refine⟨_,rfl,l,rfl,⟨_,.of g2.at_⟩,?_⟩
     refine jo (K:=K) (a:=l) (xs:=ps.map V.ref) (λi σ' H'=>∃v,σ'=[some (.ref l),some (.ref D),v]/\Same H2 H') ⟨none,rfl,Same.refl H2⟩ (λi σ' H' _ ⟨_,_,s⟩=>.of (s _ _ g2.at_)) ?_ ?_
     . rintro i x σ' H' hx ⟨v,rfl,s3⟩
       obtain⟨p',q',r,rfl,er,hr',a,b⟩:=(g2.mono s3).rows.item hx
       refine⟨_,rfl,p',_,1,_,rfl,rfl,.of a,rfl,_,rfl,q',D,r.2,rs.map (·.1),rfl,b,s3 _ _ hD2,g.good.rd r hr',g.good.to r hr',Nat.le_trans (g.good.len r hr') (by decide),λH4 s4=>⟨_,rfl,s3.trans s4⟩⟩
     . rintro σ' H' ⟨v,rfl,s3⟩
       exact⟨_,rfl,l,ps,rs,rfl,g2.mono s3,λH4 s4=>q H4 (((s1.trans sD).trans s3).trans s4)⟩
end
end Rh
set_option Elab.async false
set_option linter.all false
set_option maxRecDepth 100000
set_option maxHeartbeats 4000000
namespace Rh
open PySem L2 PyProof.Rows
abbrev Vv:Stmt:=QP (top 27) 0
abbrev ZF:Stmt:=QP (top 27) 1
abbrev Yb:Stmt:=QP (top 27) 2
def jW (rs:List (Str×List Str)) (r:Str×List Str):List Str:=(rs.map (·.1)).filter λz=>Z3 (.str z) (r.2.map V.str)
def jZ (CG:Addr) (H:Hp) (a:Addr) (rs:List (Str×List Str)):Prop:=∃(dx lo rd:Addr) (kvs:List (qD×V)),H a=some (.ins CG dx [("order",.ref lo),("roads",.ref rd)])/\H lo=some (.lst ((rs.map (·.1)).map V.str))/\H rd=some (.dK kvs)/\
 ∀r∈rs,∃q,qQ kvs (Sum.inr r.1)=some (.ref q)/\H q=some (.lst ((jW rs r).map V.str))
theorem jZ.mono {CG:Addr} {H H':Hp} {a:Addr} {rs:List (Str×List Str)} (h:jZ CG H a rs) (s:Same H H'):jZ CG H' a rs:=by
 obtain⟨dx,lo,rd,kvs,h1,h2,h3,h4⟩:=h
 exact⟨dx,lo,rd,kvs,s _ _ h1,s _ _ h2,s _ _ h3,λr hr=>let ⟨q,a,b⟩:=h4 r hr;⟨q,a,s _ _ b⟩⟩
theorem jg.fr {H H':Hp} {l x C dx:Addr} {fs:List (Str×V)} {ps:List Addr} {rs:List (Str×List Str)} (h:jg H l ps rs) (hx:H x=some (.ins C dx fs)) (s:Fr H x H'):jg H' l ps rs:=by
 refine⟨s _ _ h.at_ (λe=>?_),⟨h.rows.1,λi p r e1 e2=>?_⟩,h.good,h.pos,h.le⟩
 . have:=h.at_
   rw[e,hx]at this
   cases this
 . obtain⟨q,a,b⟩:=h.rows.2 i p r e1 e2
   exact⟨q,s _ _ a (λe=>by rw[e,hx]at a;cases a),s _ _ b (λe=>by rw[e,hx]at b;cases b)⟩
structure NL (K:PySem.W.Frag) (mg:Str->Option Value) (CG f:Addr) (fd:FuncData):Prop where
 cl:YL K CG
 mkr:Mk K CG f
 ns:mg "Ground"=some (.ref CG)
 no:jF K CG "order"
 nr:jF K CG "roads"
 fn:jQ K "__init__" "Ground.__init__" Vv f fd
 bi:jK K fd ["self","rows"] []
theorem nor:¬(Str.ofString "order")=Str.ofString "roads":=by decide+kernel
theorem Mn (v:V):Jg (Str.ofString "order") v []=[(Str.ofString "order",v)]:=rfl
theorem Mm (v u:V):Jg (Str.ofString "roads") u [(Str.ofString "order",v)]=[(Str.ofString "order",v),(Str.ofString "roads",u)]:=by
 unfold Jg
 rw[if_neg nor]
 rfl
theorem lkO (v u:V):([(Str.ofString "order",v),(Str.ofString "roads",u)]:List (Str×V)).lookup (Str.ofString "order")=some v:=by simp [List.lookup]
theorem MA (v u:V):([(Str.ofString "order",v),(Str.ofString "roads",u)]:List (Str×V)).lookup (Str.ofString "roads")=some u:=by
 have e:((Str.ofString "roads")==(Str.ofString "order"))=false:=by decide+kernel
 simp [List.lookup,e]
def XE (CG:Addr):Sp:=λvs H Q _=>∃(x dx l:Addr) (ps:List Addr) (rs:List (Str×List Str)),vs=[.ref x,.ref l]/\jg H l ps rs/\H x=some (.ins CG dx [])/\∀H',jZ CG H' x rs->Fr H x H'->Q .non H'
def Jy (CG:Addr):Sp:=λvs H Q _=>∃(a:Addr) (rs:List (Str×List Str)),vs=[.ref a]/\jZ CG H a rs/\∀l,H l=none->Q (.ref l) (upd H l (.lst ((rs.map (·.1)).map V.str)))
def zw (CG:Addr):Sp:=λvs H Q _=>∃(a:Addr) (rs:List (Str×List Str)) (r:Str×List Str),vs=[.ref a,.str r.1]/\jZ CG H a rs/\r∈rs/\qV r.1=true/\∀H1 l,Same H H1->H1 l=none->Q (.ref l) (upd H1 l (.lst ((jW rs r).map V.str)))
section
variable {P:Program} {w:World} {K:PySem.W.Frag} {mg:Str->Option Value} {base:Heap}
abbrev nGI:List Str:=["self","rows","row"]
theorem RU:qv nGI ["self","rows"] (qk Vv):=⟨rfl,rfl,rfl,by decide+kernel,rfl,by decide+kernel,by decide+kernel⟩
theorem yZ {f fW CG:Addr} {fd fdW:FuncData} (C:NL K mg CG f fd) (B:Jc mg) (G:Qk mg) (T:QL K mg) (N:Kd K mg) (hW:je K mg "need_rows" WC ["rows"] fW fdW):qp P w K mg base qM 6 f fd ["self","rows"] (XE CG):=by
 have GW:qp P w K mg base qM 5 fW fdW ["rows"] ZS:=uj hW.fn B G T N
 refine C.fn.okJ RU (λvs H Q E h=>?_) (λcdv A outer s H vs Q E hr h=>?_)
 . obtain⟨x,dx,l,ps,rs,rfl,_⟩:=h
   rfl
 . obtain⟨x,dx,l,ps,rs,rfl,g,hx,q⟩:=h
   have hu:=jA hr
   refine⟨_,qe (qY (qJ hW GW hr (by rfl) (qb (jv 1) qf)))
     (qe (XZ (jv 0) (QI (N':=["row"]) (ix:=[none]) (te:=Xv (XR K) (jm 0) (tC (.int 0))) rfl ⟨rfl,rfl,rfl,rfl,rfl⟩ (qO (jv 1)) (λC s2 H2 fp pins=>
       ⟨qt (i:=0) (Gh _) rfl (Or.inl rfl),Qa,qN qU (jv 0) qi (λ_ _=>rfl)⟩)) rfl)
     (qe (XZ (jv 0) jO rfl)
     (qh (qT PassesOwn.never rfl (qO (jv 1)) (qt (i:=2) RU.nd rfl (Or.inr rfl))
       (qh (jl hu (Zm (jv 0) rfl) (qN qU (jv 2) qi (λ_ _=>rfl))
         (QI (N':=["name","row"]) (ix:=[none,some 2]) (tt:=Uc (Xv (Na K false) (jm 0) (Xv (XR K) (jm 1) (tC (.int 1))))) rfl ⟨rfl,rfl,rfl,rfl,rfl⟩ (qO (Zm (jv 0) rfl)) (λC s2 H2 fp pins=>
           ⟨qt (i:=0) (show (["name","row"]:List Str).Nodup by decide+kernel) rfl (Or.inl rfl),j9 (qu J1 (jv 0) (qN qU (jv 1) qi (λ_ _=>rfl)) (by with_unfolding_all rfl)),jv 0⟩)) rfl)))))),?_⟩
   refine⟨_,rfl,l,ps,rs,rfl,g,λH1 s1=>?_⟩
   have g1:=g.mono s1
   have fr1:Fr H x H1:=λb u h _=>s1 _ _ h
   have hx1:=s1 _ _ hx
   refine⟨_,rfl,l,rfl,⟨_,.of g1.at_⟩,λlo hlo=>?_⟩
   have nlx:lo≠x:=λe=>by rw[e,hx1]at hlo;cases hlo
   refine QJ (K:=K) (a:=l) (xs:=ps.map V.ref) (λi σ' H'=>∃v,σ'=[v]/\H'=upd H1 lo (.lst (((rs.take i).map (·.1)).map V.str))) ⟨none,rfl,rfl⟩ (λi σ' H' _ ⟨_,_,e⟩=>e▸.of (qm g1.at_ hlo)) ?_ ?_
   . rintro i y σ' H' hy ⟨v,rfl,rfl⟩
     obtain⟨p',q',r,rfl,er,hr',a,b⟩:=g1.rows.item hy
     have hi:=(List.getElem?_eq_some_iff.mp er).1
     refine⟨_,rfl,p',_,0,_,rfl,rfl,.of (qm a hlo),rfl,_,qd,?_,_,rfl,?_⟩
     . rw[List.length_map,List.length_map,List.length_take]
       have:=g.le
       exact qo (by omega)
     . rw[jG,List.take_add_one,er,List.map_append,List.map_append]
       rfl
   rintro σ' H' ⟨v,rfl,rfl⟩
   have e:rs.take (ps.map V.ref).length=rs:=List.take_of_length_le (by rw[List.length_map,g.rows.1];exact Nat.le_refl _)
   rw[e]
   have fr2:Fr H x (upd H1 lo (.lst ((rs.map (·.1)).map V.str))):=fr1.new hlo
   have hlo2:upd H1 lo (.lst ((rs.map (·.1)).map V.str)) lo=some (.lst ((rs.map (·.1)).map V.str)):=qd
   have hx2:upd H1 lo (.lst ((rs.map (·.1)).map V.str)) x=some (.ins CG dx []):=qm hx1 hlo
   generalize upd H1 lo (.lst ((rs.map (·.1)).map V.str))=H2 at fr2 hlo2 hx2
   refine⟨_,rfl,x,CG,dx,[],rfl,hx2,C.cl,C.no,by decide,?_⟩
   rw[Mn]
   intro rd hrd
   have nrx:rd≠x:=λe=>by rw[e,qd]at hrd;cases hrd
   have hrd2:H2 rd=none:=by rw[qg nrx]at hrd;exact hrd
   have nrl:rd≠lo:=λe=>by rw[e,hlo2]at hrd2;cases hrd2
   have hHr:H rd=none:=fr2.fresh hx2 hrd2
   refine⟨_,rfl,x,CG,dx,_,rfl,qm qd hrd,C.cl,C.nr,by show 1 < 1000;decide,?_⟩
   rw[Mm]
   have fr5:Fr H x (upd (upd (upd H2 x (.ins CG dx [("order",.ref lo)])) rd (.dK [])) x (.ins CG dx [("order",.ref lo),("roads",.ref rd)])):=((fr2.at_d).own hHr).at_d
   have g5:=g.fr hx fr5
   refine⟨_,rfl,l,rfl,⟨_,.of g5.at_⟩,?_⟩
   refine jo (K:=K) (a:=l) (xs:=ps.map V.ref) (λi σ' H'=>∃v kvs,σ'=[some (.ref x),some (.ref l),v]/\H' x=some (.ins CG dx [("order",.ref lo),("roads",.ref rd)])/\H' lo=some (.lst ((rs.map (·.1)).map V.str))/\H' rd=some (.dK kvs)/\
     kvs.map (·.1)=((rs.map (·.1)).take i).map Sum.inr/\(∀r∈rs.take i,∃q,qQ kvs (Sum.inr r.1)=some (.ref q)/\H' q=some (.lst ((jW rs r).map V.str)))/\Fr H x H')
     ⟨none,[],rfl,qd,?_,?_,rfl,λr h=>(nomatch h),fr5⟩ (λi σ' H' _ ⟨_,_,_,_,_,_,_,_,fr⟩=>.of (g.fr hx fr).at_) ?_ ?_
   . rw[qg nlx,qg (Ne.symm nrl),qg nlx]
     exact hlo2
   . rw[qg nrx]
     exact qd
   . rintro i y σ' H' hy ⟨v,kvs,rfl,hx',hlo',hrd',ek,hv,fr⟩
     have g':=g.fr hx fr
     obtain⟨p,qq,r,rfl,er,hr',a,b⟩:=g'.rows.item hy
     have hi:=(List.getElem?_eq_some_iff.mp er).1
     have hle:=g.le
     refine⟨_,rfl,x,CG,dx,_,_,rfl,hx',C.cl,C.no,lkO _ _,lo,rfl,⟨_,.of hlo'⟩,λD hD=>?_⟩
     refine QJ (K:=K) (a:=lo) (xs:=(rs.map (·.1)).map V.str) (λj σ'' H''=>∃v0,σ''=[v0,some (.ref p)]/\H''=upd H' D (.lst ((((rs.map (·.1)).take j).filter λz=>Z3 (.str z) (r.2.map V.str)).map V.str))) ⟨none,rfl,rfl⟩
       (λj σ'' H'' _ ⟨_,_,e⟩=>e▸.of (qm hlo' hD)) ?_ ?_
     . rintro j y σ'' H'' hy ⟨v0,rfl,rfl⟩
       rw[List.getElem?_map]at hy
       cases e:(rs.map (·.1))[j]? with
       | none=>rw[e]at hy;cases hy
       | some z=>
         rw[e]at hy
         obtain rfl:=(Option.some.inj hy).symm
         refine⟨_,rfl,_,rfl,p,_,1,_,rfl,rfl,.of (qm a hD),rfl,qq,_,rfl,.inr (.of (qm b hD)),rfl,Z4 _,_,rfl,?_⟩
         have et:((rs.map (·.1)).take (j+1)).filter (λz=>Z3 (.str z) (r.2.map V.str))=((rs.map (·.1)).take j).filter (λz=>Z3 (.str z) (r.2.map V.str))++if Z3 (.str z) (r.2.map V.str)=true then [z] else []:=by
           rw[List.take_add_one,e,List.filter_append]
           congr 1
           cases ei:Z3 (.str z) (r.2.map V.str)
           . simp [ei]
           . simp [ei]
         rw[et]
         show if Z3 (.str z) (r.2.map V.str)=true then _ else _
         cases ei:Z3 (.str z) (r.2.map V.str) with
         | true=>
           refine jY ⟨_,rfl,_,qd,?_,_,rfl,?_⟩
           . rw[List.length_map]
             refine qo (Nat.le_trans (List.length_filter_le _ _) ?_)
             rw[List.length_take,List.length_map]
             omega
           . rw[jG,if_pos rfl,List.map_append]
             rfl
         | false=>
           refine qZ ⟨_,rfl,?_⟩
           rw[if_neg Bool.false_ne_true,List.append_nil]
     . rintro σ'' H'' ⟨v0,rfl,rfl⟩
       have ed:((rs.map (·.1)).take ((rs.map (·.1)).map V.str).length).filter (λz=>Z3 (.str z) (r.2.map V.str))=jW rs r:=by
         rw[List.length_map,List.take_of_length_le (Nat.le_refl _)]
         rfl
       rw[ed]
       have nD:∀{c:Addr} {o:HO},H' c=some o->c≠D:=λh e=>by rw[e,hD]at h;cases h
       have en:(rs.map (·.1))[i]?=some r.1:=by rw[List.getElem?_map,er];rfl
       have ez:qQ kvs (Sum.inr r.1:qD)=none:=QZ (by rw[ek];exact Qf g.good.nd en)
       have lk:kvs.length < sizeLine:=by
         have:=congrArg List.length ek
         rw[List.length_map,List.length_map,List.length_take,List.length_map]at this
         exact qo (by omega)
       refine⟨_,rfl,x,CG,dx,_,_,rfl,qm hx' hD,C.cl,C.nr,MA _ _,_,rfl,p,_,0,_,rfl,rfl,.of (qm a hD),rfl,rd,_,rfl,QM.k (k:=(Sum.inr r.1:qD)) (qm hrd' hD) lk,?_⟩
       refine⟨_,jy kvs (Sum.inr r.1) (.ref D),rfl,?_,?_,qd,?_,λr' hr2=>?_,?_⟩
       . rw[qg (Ne.symm nrx)];exact qm hx' hD
       . rw[qg (Ne.symm nrl)];exact qm hlo' hD
       . rw[XS _ ez,ek,List.take_add_one,en,List.map_append]
         rfl
       . rw[List.take_add_one,er]at hr2
         rcases List.mem_append.mp hr2 with h | h
         . obtain⟨q1,a1,b1⟩:=hv r' h
           refine⟨q1,?_,?_⟩
           . rw[jL,if_neg]
             . exact a1
             . intro z
               rw[z,ez]at a1
               cases a1
           . have n1:q1≠rd:=λe=>by rw[e,hrd']at b1;cases b1
             rw[qg n1]
             exact qm b1 hD
         . have er':r'=r:=by simpa using h
           subst er'
           refine⟨D,?_,?_⟩
           . rw[jL,if_pos rfl]
           . rw[qg (Ne.symm (nD hrd'))]
             exact qd
       . exact(fr.new hD).own hHr
   . rintro σ' H' ⟨v,kvs,rfl,hx',hlo',hrd',ek,hv,fr⟩
     have e:rs.take (ps.map V.ref).length=rs:=List.take_of_length_le (by rw[List.length_map,g.rows.1];exact Nat.le_refl _)
     rw[e]at hv
     exact q H' ⟨dx,lo,rd,kvs,hx',hlo',hrd',hv⟩ fr
theorem Me:qv ["self"] ["self"] (qk ZF):=⟨rfl,rfl,rfl,by decide+kernel,rfl,by decide+kernel,by decide+kernel⟩
theorem J2 {f fI CG:Addr} {fd fdI:FuncData} (F:jQ K "names" "Ground.names" ZF f fd) (C:NL K mg CG fI fdI) (G:Qk mg):qp P w K mg base qM 1 f fd ["self"] (Jy CG):=by
 refine F.okJ Me (λvs H Q E h=>?_) (λcdv A outer s H vs Q E hr h=>?_)
 . obtain⟨a,rs,rfl,_⟩:=h
   rfl
 . obtain⟨a,rs,rfl,⟨dx,lo,rd,kvs,h1,h2,h3,h4⟩,q⟩:=h
   refine⟨_,qh (qA (jC QA (by rfl) G.lst boot_list (qb (Zm (jv 0) rfl) qf))),?_⟩
   exact⟨_,rfl,a,CG,dx,_,_,rfl,h1,C.cl,C.no,lkO _ _,lo,_,rfl,.inl (.of h2),q⟩
abbrev My:List Str:=["self","name"]
theorem Mf:qv My My (qk Yb):=⟨rfl,rfl,rfl,by decide+kernel,rfl,by decide+kernel,by decide+kernel⟩
theorem Ym {f fI fN CG:Addr} {fd fdI fdN:FuncData} (F:jQ K "roads_from" "Ground.roads_from" Yb f fd) (C:NL K mg CG fI fdI) (B:Jc mg) (G:Qk mg) (T:QL K mg) (hN:je K mg "is_name" Zz ["thing"] fN fdN):qp P w K mg base qM 2 f fd My (zw CG):=by
 have GN:qp P w K mg base qM 1 fN fdN ["thing"] wB:=XU hN.fn B T
 refine F.okJ Mf (λvs H Q E h=>?_) (λcdv A outer s H vs Q E hr h=>?_)
 . obtain⟨a,rs,r,rfl,_⟩:=h
   rfl
 . obtain⟨a,rs,r,rfl,gr,hr',hn,q⟩:=h
   have hu:=jA hr
   refine⟨_,qe (qL (QG (Qi (jt (qJ hN GN hr (by rfl) (qb (jv 1) qf)))) (Qh (jX (Q8 hu (jv 1) (Zm (jv 0) rfl))))).pt jc qC)
     (qh (qA (jC QA (by rfl) G.lst boot_list (qb (qG hu (Zm (jv 0) rfl) (jv 1) (λ_ _=>rfl)) qf)))),?_⟩
   refine⟨_,rfl,r.1,rfl,hn,λH1 s1=>⟨_,rfl,qZ ?_⟩⟩
   obtain⟨dx,lo,rd,kvs,h1,h2,h3,h4⟩:=gr.mono s1
   obtain⟨qq,hv,hq⟩:=h4 r hr'
   have gz:jB H1 rd (.str r.1) (some (.ref qq)):=by
     have:=jB.k (k:=(Sum.inr r.1:qD)) h3
     rw[hv]at this
     exact this
   refine⟨_,rfl,_,rfl,a,CG,dx,_,_,rfl,h1,C.cl,C.nr,MA _ _,rd,_,rfl,gz,_,rfl,qZ ?_⟩
   exact⟨_,rfl,a,CG,dx,_,_,rfl,h1,C.cl,C.nr,MA _ _,_,rfl,rd,_,rfl,gz,qq,_,rfl,.inl (.of hq),λl hl=>q H1 l s1 hl⟩
end
end Rh
set_option Elab.async false
set_option linter.all false
set_option maxRecDepth 100000
set_option maxHeartbeats 4000000
namespace Rh
open PySem L2 PyProof.Rows
abbrev j6:Stmt:=top 2
abbrev XJ:Stmt:=top 3
abbrev ja:=List (Str×List Str)
def Qp (rs:ja) (z:Str):List Str:=match rs.find? (λr=>decide (r.1=z)) with
 | some r=>jW rs r
 | none=>[]
theorem YA:∀{rs:ja} {r:Str×List Str},(rs.map (·.1)).Nodup->r∈rs->rs.find? (λq=>decide (q.1=r.1))=some r
 | a::rs,r,hn,h=>by
   rw[List.map_cons,List.nodup_cons]at hn
   rcases List.mem_cons.mp h with rfl | h
   . simp [List.find?_cons]
   . have:¬a.1=r.1:=λe=>hn.1 (e▸List.mem_map.mpr ⟨r,h,rfl⟩)
     simp only[List.find?_cons,decide_eq_false this]
     exact YA hn.2 h
theorem J3 {rs:ja} {r:Str×List Str} (hn:(rs.map (·.1)).Nodup) (h:r∈rs):Qp rs r.1=jW rs r:=by
 unfold Qp
 rw[YA hn h]
theorem yn {rs:ja} {r:Str×List Str} {y:Str} (h:y∈jW rs r):∃r'∈rs,r'.1=y:=by
 obtain⟨r',h1,h2⟩:=List.mem_map.mp (List.mem_filter.mp h).1
 exact⟨r',h1,h2⟩
theorem zI {z:Str} {zs:List Str}:Z3 (.str z) (zs.map V.str)=true↔z∈zs:=by
 refine⟨λh=>?_,X9⟩
 unfold Z3 at h
 obtain⟨y,hy,e⟩:=List.any_eq_true.mp h
 obtain⟨x,hx,rfl⟩:=List.mem_map.mp hy
 have e':(x==z)=true:=e
 rw[beq_iff_eq]at e'
 exact e'▸hx
theorem yo {rs:ja} (g:qy rs) {r:Str×List Str} (h:r∈rs) {y:Str}:y∈jW rs r↔y∈r.2:=by
 unfold jW
 rw[List.mem_filter,zI]
 exact⟨λz=>z.2,λz=>⟨g.to r h y z,z⟩⟩
theorem JR {rs:ja} (hn:(rs.map (·.1)).Nodup):∀z∈rs.map (·.1),∀y∈Qp rs z,y∈rs.map (·.1):=λz hz y hy=>by
 obtain⟨r,hr,rfl⟩:=List.mem_map.mp hz
 rw[J3 hn hr]at hy
 obtain⟨r',h1,rfl⟩:=yn hy
 exact List.mem_map.mpr ⟨r',h1,rfl⟩
theorem Ql {α:Type}:∀{l m:List α},l.Nodup->(∀z∈l,z∈m)->l.length<=m.length
 | [],m,_,_=>Nat.zero_le _
 | a::l,m,hn,h=>by
   classical
   rw[List.nodup_cons]at hn
   have ha:=h a List.mem_cons_self
   have:=Ql (m:=m.erase a) hn.2 λz hz=>(List.mem_erase_of_ne (λ(e:z=a)=>hn.1 (e▸hz))).mpr (h z (List.mem_cons_of_mem _ hz))
   rw[List.length_erase_of_mem ha]at this
   have:=List.length_pos_of_mem ha
   rw[List.length_cons]
   omega
theorem ZX:∀{more kvs:List (qD×V)},(more.map (·.1)).Nodup->(∀k∈more.map (·.1),¬k∈kvs.map (·.1))->Qs kvs more=kvs++more
 | [],kvs,_,_=>(List.append_nil _).symm
 | p::more,kvs,hn,h=>by
   rw[List.map_cons,List.nodup_cons]at hn
   have e:qQ kvs p.1=none:=QZ (h p.1 (by simp))
   show Qs (jy kvs p.1 p.2) more=_
   rw[Qn p.2 e,ZX hn.2]
   . rw[List.append_assoc]
     rfl
   . intro k hk m
     rw[List.map_append]at m
     rcases List.mem_append.mp m with m | m
     . exact h k (by rw[List.map_cons];exact List.mem_cons_of_mem _ hk) m
     . have:k=p.1:=by simpa using m
       subst this
       exact hn.1 hk
structure wb (K:PySem.W.Frag) (C:Addr) (m qual:Str) (st:Stmt) (ps:List Str) (f:Addr) (fd:FuncData):Prop where
 fn:jQ K m qual st f fd
 me:Va K C m f
 bi:jK K fd ps []
theorem UM {X:Cx} {C f:Addr} {fd:FuncData} {m qual:Str} {st:Stmt} {ps:List Str} {k:Nat} {sp:Sp} {o:Expr} {ta:TE} {apos pos:Pos} {pl:Sem Bool} (h:wb X.K C m qual st ps f fd) (c:YL X.K C) (G:qp X.prog X.w X.K X.mg X.base qM k f fd ps sp) (hr:q5 k X.A) (he:JE X o ta)
   (ht:eval (.Call (.Attribute o m apos) [] [] pos) X.env=(do
     let ov <-eval o X.env
     standAt apos.atName
     let (f,first) <-holding [ov] (getMethod ov m pl)
     callWith pos f first (backTo pos (starEach [] X.env)) (backToKw pos (keywordEach [] X.env))):=by rfl):
   JE X (.Call (.Attribute o m apos) [] [] pos) (YZ C m sp [] E0 ta Q0):=xr he c h.me G hr h.bi .nil Zb ht
theorem xu {X:Cx} {C f:Addr} {fd:FuncData} {m qual:Str} {st:Stmt} {ps:List Str} {k:Nat} {sp:Sp} {o e:Expr} {es:List Expr} {ta:TE} {t:TA} {apos pos:Pos} {pl:Sem Bool} (h:wb X.K C m qual st ps f fd) (c:YL X.K C) (G:qp X.prog X.w X.K X.mg X.base qM k f fd ps sp) (hr:q5 k X.A) (he:JE X o ta) (ha:JA X (e::es) t)
   (hst:starEach (e::es) X.env=(false,eval e X.env)::starEach es X.env:=by rfl) (hpl:(backTo pos (starEach es X.env)).any (·.1)=false:=by rfl)
   (ht:eval (.Call (.Attribute o m apos) (e::es) [] pos) X.env=(do
     let ov <-eval o X.env
     standAt apos.atName
     let (f,first) <-holding [ov] (getMethod ov m pl)
     callWith pos f first (backTo pos (starEach (e::es) X.env)) (backToKw pos (keywordEach [] X.env))):=by rfl):
   JE X (.Call (.Attribute o m apos) (e::es) [] pos) (YZ C m sp [] E0 ta t):=uI he c h.me G hr h.bi .nil Zb ha hst hpl ht
structure GM (K:PySem.W.Frag) (mg:Str->Option Value) (CG:Addr):Prop where
 cls:∃f fd,NL K mg CG f fd
 nm:∃f fd,wb K CG "names" "Ground.names" ZF ["self"] f fd
 fr:∃f fd,wb K CG "roads_from" "Ground.roads_from" Yb ["self","name"] f fd
 isn:∃f fd,je K mg "is_name" Zz ["thing"] f fd
theorem jZ.ins {CG:Addr} {H:Hp} {a:Addr} {rs:ja} (h:jZ CG H a rs):∃dx fs,H a=some (.ins CG dx fs)/\fs.lookup (Str.ofString "names")=none/\fs.lookup (Str.ofString "roads_from")=none:=by
 obtain⟨dx,lo,rd,kvs,h1,_⟩:=h
 refine⟨dx,_,h1,?_,?_⟩
 . have e1:((Str.ofString "names")==(Str.ofString "order"))=false:=by decide+kernel
   have e2:((Str.ofString "names")==(Str.ofString "roads"))=false:=by decide+kernel
   simp only[List.lookup]
   rw[e1,e2]
 . have e1:((Str.ofString "roads_from")==(Str.ofString "order"))=false:=by decide+kernel
   have e2:((Str.ofString "roads_from")==(Str.ofString "roads"))=false:=by decide+kernel
   simp only[List.lookup]
   rw[e1,e2]
theorem xa {rs:ja} {i:Nat} {y:V} (h:((rs.map (·.1)).map V.str)[i]?=some y):∃r,rs[i]?=some r/\r∈rs/\y=.str r.1:=by
 rw[List.getElem?_map,List.getElem?_map]at h
 cases e:rs[i]? with
 | none=>rw[e]at h;cases h
 | some r=>rw[e]at h;exact⟨r,rfl,List.mem_of_getElem? e,(Option.some.inj h).symm⟩
theorem Je {zs:List Str} {i:Nat} {y:V} (h:(zs.map V.str)[i]?=some y):∃z,zs[i]?=some z/\z∈zs/\y=.str z:=by
 rw[List.getElem?_map]at h
 cases e:zs[i]? with
 | none=>rw[e]at h;cases h
 | some z=>rw[e]at h;exact⟨z,rfl,List.mem_of_getElem? e,(Option.some.inj h).symm⟩
theorem XQ {rs:ja} (r:Str×List Str):(jW rs r).length<=rs.length:=by
 have:=List.length_filter_le (λz=>Z3 (.str z) (r.2.map V.str)) (rs.map (·.1))
 rwa [List.length_map]at this
theorem jJ {c:Bool} {A B:Prop} (hc:c=false) (h:B):if c=true then A else B:=by
 rw[hc]
 exact qZ h
theorem jI {c:Bool} {A B:Prop} (hc:c=true) (h:A):if c=true then A else B:=by
 rw[if_pos hc]
 exact h
theorem Xu {kvs:List (qD×V)}:∀{i:Nat} {k:qD} {v:V},(kvs.map (·.1)).Nodup->kvs[i]?=some (k,v)->qQ kvs k=some v:=by
 induction kvs with
 | nil=>intro i k v _ e;simp at e
 | cons p r ih=>
   intro i k v hn e
   rw[List.map_cons,List.nodup_cons]at hn
   cases i with
   | zero=>
     rw[List.getElem?_cons_zero]at e
     obtain rfl:=Option.some.inj e
     exact ji rfl
   | succ i=>
     rw[List.getElem?_cons_succ]at e
     have:¬p.1=k:=λz=>hn.1 (z▸List.mem_map.mpr ⟨_,List.mem_of_getElem? e,rfl⟩)
     rw[jk this]
     exact ih hn.2 e
theorem XO {H:Hp}:∀(ps:List Addr) (rs:ja),jw H ps rs->∃qs:List Addr,qs.length=rs.length/\∀(i:Nat) (p q:Addr) (r:Str×List Str),ps[i]?=some p->rs[i]?=some r->qs[i]?=some q->H p=some (.tup [.str r.1,.ref q])/\H q=some (.tup (r.2.map V.str))
 | [],[],_=>⟨[],rfl,λi p q r e=>by simp at e⟩
 | [],_::_,h=>by cases h.1
 | _::_,[],h=>by cases h.1
 | p::ps,r::rs,h=>by
   obtain⟨qs,l,k⟩:=XO ps rs ⟨Nat.succ.inj h.1,λi a b e1 e2=>h.2 (i+1) a b (by simpa using e1) (by simpa using e2)⟩
   obtain⟨q,a,b⟩:=h.2 0 p r rfl rfl
   refine⟨q::qs,by simp [l],λi p' q' r' e1 e2 e3=>?_⟩
   cases i with
   | zero=>cases e1;cases e2;cases e3;exact⟨a,b⟩
   | succ i=>exact k i p' q' r' (by simpa using e1) (by simpa using e2) (by simpa using e3)
def Yt (rs:ja) (qs:List Addr):List (qD×V):=List.zipWith (λr q=>((Sum.inr r.1:qD),V.ref q)) rs qs
theorem Q7:∀{rs:ja} {qs:List Addr},qs.length=rs.length->(Yt rs qs).map (·.1)=(rs.map (·.1)).map Sum.inr
 | [],[],_=>rfl
 | [],_::_,h=>by cases h
 | _::_,[],h=>by cases h
 | r::rs,q::qs,h=>by
   show Sum.inr r.1::(Yt rs qs).map (·.1)=_
   rw[Q7 (Nat.succ.inj h)]
   rfl
theorem JM {rs:ja} {qs:List Addr} (h:qs.length=rs.length):(Yt rs qs).length=rs.length:=by
 have:=congrArg List.length (Q7 h)
 simpa using this
theorem XX {rs:ja} {qs:List Addr} (h:qs.length=rs.length) {i:Nat} {r:Str×List Str} (e:rs[i]?=some r):∃q,qs[i]?=some q/\(Yt rs qs)[i]?=some (Sum.inr r.1,.ref q):=by
 have hi:i < qs.length:=by rw[h];exact(List.getElem?_eq_some_iff.mp e).1
 refine⟨qs[i],List.getElem?_eq_getElem hi,?_⟩
 unfold Yt
 rw[List.getElem?_zipWith,e,List.getElem?_eq_getElem hi]
theorem WR {rs:ja} {qs:List Addr} (h:qs.length=rs.length) {i:Nat} {kv:qD×V} (e:(Yt rs qs)[i]?=some kv):∃r q,rs[i]?=some r/\qs[i]?=some q/\kv=(Sum.inr r.1,.ref q):=by
 have hi:i < rs.length:=by rw[<-JM h];exact(List.getElem?_eq_some_iff.mp e).1
 obtain⟨q,e1,e2⟩:=XX h (List.getElem?_eq_getElem hi)
 rw[e2]at e
 exact⟨_,q,List.getElem?_eq_getElem hi,e1,(Option.some.inj e).symm⟩
theorem UQ {rs:ja} (g:qy rs) {r:Str×List Str} (h:r∈rs) {y:Str}:y∈Qp rs r.1↔y∈r.2:=by
 rw[J3 g.nd h]
 exact yo g h
theorem xg:∀{l:List Nat} {x:Nat},x∈l->x<=l.sum
 | a::l,x,h=>by
   rw[List.sum_cons]
   rcases List.mem_cons.mp h with e | h
   . omega
   . have:=xg h
     omega
theorem qy.two {rs:ja} (g:qy rs) {r:Str×List Str} (h:r∈rs):r.2.length<=40:=by
 refine Nat.le_trans ?_ g.few
 exact xg (List.mem_map.mpr ⟨r,h,rfl⟩)
theorem ky {K:PySem.W.Frag} {H:Hp} {l:Addr} {ps:List Addr} {rs:ja} {r:Str×List Str} (g:jg H l ps rs) (hr':r∈rs) {Q:VK}
   (q:∀dd q0,H dd=none->H q0=some (.tup (r.2.map V.str))->∀kvs,jB (upd H dd (.dK kvs)) dd (.str r.1) (some (.ref q0))->Q (.ref dd) (upd H dd (.dK kvs))):Vw K [.ref l] H Q:=by
 obtain⟨qs,lq,hqs⟩:=XO ps rs g.rows
 have le:=g.le
 refine⟨l,ps,Yt rs qs,rfl,.of g.at_,by rw[JM lq,g.rows.1],λi a kv e1 e2=>?_,by rw[JM lq];omega,λdd hdd=>?_⟩
 . obtain⟨r',q',f1,f2,rfl⟩:=WR lq e2
   exact .of (hqs i a q' r' e1 f1 f2).1
 have nk:((Yt rs qs).map (·.1)).Nodup:=by
   rw[Q7 lq]
   exact QC g.good.nd λa _ b _ e=>Sum.inr.inj e
 rw[ZX nk (λk _ m=>by simp at m),List.nil_append]
 obtain⟨i0,hi0⟩:=List.getElem?_of_mem hr'
 obtain⟨q0,eq0,ekv⟩:=XX lq hi0
 have hi0':=(List.getElem?_eq_some_iff.mp hi0).1
 have hq0:=(hqs i0 _ q0 r (List.getElem?_eq_getElem (by rw[g.rows.1];exact hi0')) hi0 eq0).2
 have gd:=jB.k (H:=upd H dd (.dK (Yt rs qs))) (k:=(Sum.inr r.1:qD)) qd
 rw[Xu nk ekv]at gd
 exact q dd q0 hdd hq0 _ gd
theorem y9 {σ:L2.St} {H:Hp} {Q:List V->Hp->Prop} (h:Q [] H):Q0 σ H Q:=h
theorem qW {H H':Hp} {a:Addr} (s:Same H H') (h:H' a=none):H a=none:=by
 cases z:H a with
 | none=>rfl
 | some u=>rw[s _ _ z]at h;cases h
theorem Zi {z:Str} (h:qV z=true):(∀c∈z.cps.toList,c<=122)/\z.length<=8/\1<=z.length:=by
 unfold qV at h
 simp only[Bool.and_eq_true,decide_eq_true_eq]at h
 refine⟨λc hc=>?_,h.1.2,h.1.1⟩
 have:=List.all_eq_true.mp h.2 c hc
 unfold jr at this
 simp only[Bool.and_eq_true,decide_eq_true_eq]at this
 exact this.2
theorem zD {z:Str} (h:qV z=true):PyData.strOk z=true:=by
 unfold PyData.strOk
 rw[Array.all_eq_true_iff_forall_mem]
 intro c hc
 have:=(Zi h).1 c (by simpa using hc)
 exact decide_eq_true (by omega)
def dL (zs:List Str):PyData:=.list (zs.map PyData.str)
theorem Vb {K:PySem.W.Frag} {H:Hp}:∀zs:List Str,DVs K H (zs.map V.str) (zs.map PyData.str)
 | []=>.nil
 | z::zs=>.cons (.str z) (Vb zs)
theorem NK {K:PySem.W.Frag} {H:Hp} {p:Addr} {zs:List Str} (h:H p=some (.lst (zs.map V.str))):DV K H (.ref p) (dL zs):=.lst (.of h) (Vb zs)
theorem Rg:∀{zs:List Str},(∀z∈zs,qV z=true)->PyData.canLayAll0 (zs.map PyData.str)=true
 | [],_=>rfl
 | z::zs,h=>by
   rw[List.map_cons,PyData.canLayAll0,Rg λy hy=>h y (List.mem_cons_of_mem _ hy),Bool.and_true]
   exact zD (h z List.mem_cons_self)
theorem Nz:∀zs:List Str,PyData.depthAll (zs.map PyData.str)=0
 | []=>rfl
 | z::zs=>by
   rw[List.map_cons]
   simp only[PyData.depthAll,PyData.depth,Nz zs]
   rfl
theorem xS {K:PySem.W.Frag} {H:Hp} {l:Addr} {ps:List Addr} {rs:ja} (g:jg H l ps rs) {Q:VK}
   (q:∀dd kvs,H dd=none->kvs.map (·.1)=(rs.map (·.1)).map Sum.inr->(∀r∈rs,∃t,qQ kvs (Sum.inr r.1:qD)=some (.ref t)/\H t=some (.tup (r.2.map V.str)))->Q (.ref dd) (upd H dd (.dK kvs))):Vw K [.ref l] H Q:=by
 obtain⟨qs,lq,hqs⟩:=XO ps rs g.rows
 have le:=g.le
 refine⟨l,ps,Yt rs qs,rfl,.of g.at_,by rw[JM lq,g.rows.1],λi a kv e1 e2=>?_,by rw[JM lq];omega,λdd hdd=>?_⟩
 . obtain⟨r',q',f1,f2,rfl⟩:=WR lq e2
   exact .of (hqs i a q' r' e1 f1 f2).1
 have nk:((Yt rs qs).map (·.1)).Nodup:=by
   rw[Q7 lq]
   exact QC g.good.nd λa _ b _ e=>Sum.inr.inj e
 rw[ZX nk (λk _ m=>by simp at m),List.nil_append]
 refine q dd _ hdd (Q7 lq) λr hr=>?_
 obtain⟨i0,hi0⟩:=List.getElem?_of_mem hr
 obtain⟨q0,eq0,ekv⟩:=XX lq hi0
 have hi0':=(List.getElem?_eq_some_iff.mp hi0).1
 exact⟨q0,Xu nk ekv,(hqs i0 _ q0 r (List.getElem?_eq_getElem (by rw[g.rows.1];exact hi0')) hi0 eq0).2⟩
section
variable {P:Program} {w:World} {K:PySem.W.Frag} {mg:Str->Option Value} {base:Heap}
theorem xU (x:Int):Builtin.bitNot (Builtin.bitNot x)=x:=by unfold Builtin.bitNot;omega
theorem bo (a b:Nat):Builtin.bitOr a b=((a ||| b:Nat):Int):=by
 have na:¬(0:Int)<=Builtin.bitNot a:=by unfold Builtin.bitNot;omega
 have nb:¬(0:Int)<=Builtin.bitNot b:=by unfold Builtin.bitNot;omega
 have e:Builtin.bitAnd (Builtin.bitNot a) (Builtin.bitNot b)=Builtin.bitNot (((Builtin.bitNot (Builtin.bitNot a)).toNat ||| (Builtin.bitNot (Builtin.bitNot b)).toNat:Nat):Int):=by
   unfold Builtin.bitAnd
   rw[decide_eq_false na,decide_eq_false nb]
 unfold Builtin.bitOr
 rw[e,xU,xU,xU,Int.toNat_natCast,Int.toNat_natCast]
theorem ba (a b:Nat):Builtin.bitAnd a b=((a&&& b:Nat):Int):=by
 unfold Builtin.bitAnd
 rw[decide_eq_true (Int.natCast_nonneg a),decide_eq_true (Int.natCast_nonneg b)]
 rfl
def Zr (ns:List Nat):List V:=ns.map λn=>V.int (n:Nat)
theorem Wa (ns:List Nat):(Zr ns).length=ns.length:=List.length_map ..
theorem UN {ns:List Nat} {i:Nat} {x:V} (h:(Zr ns)[i]?=some x):∃n:Nat,ns[i]?=some n/\x=.int n:=by
 unfold Zr at h
 rw[List.getElem?_map]at h
 cases e:ns[i]? with
 | none=>rw[e]at h;cases h
 | some n=>rw[e]at h;exact⟨n,rfl,(Option.some.inj h).symm⟩
theorem YY {ns:List Nat} {i n:Nat} (h:ns[i]?=some n):ns.take (i+1)=ns.take i++[n]:=by
 rw[List.take_add_one,h]
 rfl
theorem xD (ns:List Nat) (n:Nat):Zr ns++[V.int (n:Nat)]=Zr (ns++[n]):=by unfold Zr;rw[List.map_append];rfl
theorem ZK (ns:List Nat):(Zr ns).all JU=true:=by
 unfold Zr
 rw[List.all_map]
 exact List.all_eq_true.mpr λ_ _=>rfl
theorem Yy (ns:List Nat) (n:Nat):Z3 (.int (n:Nat)) (Zr ns)=decide (n∈ns):=by
 unfold Z3 Zr
 rw[List.any_map,Bool.eq_iff_iff,List.any_eq_true,decide_eq_true_iff]
 constructor
 . rintro⟨y,hy,e⟩
   have e':((y:Int)==(n:Int))=true:=e
   have:y=n:=by
     have:=eq_of_beq e'
     omega
   exact this▸hy
 . intro h
   refine⟨n,h,?_⟩
   show ((n:Int)==(n:Int))=true
   simp
def ZR (K:PySem.W.Frag):Sp:=λvs H Q _=>∃(a:Addr) (ns:List Nat),vs=[.ref a]/\SqL K H a (Zr ns)/\ns.length<=1000/\∀H',Same H H'->Q (.int (Rb.lackN ns:Nat)) H'
def Uh (K:PySem.W.Frag):Sp:=λvs H Q _=>∃(a:Addr) (ns:List Nat),vs=[.ref a]/\SqL K H a (Zr ns)/\(∀x∈ns,x < 1000)/\Q (.int (Rb.setN ns:Nat)) H
theorem zx:qv ["numbers","bits","number"] ["numbers"] (qk XJ):=⟨rfl,rfl,rfl,by decide+kernel,rfl,by decide+kernel,by decide+kernel⟩
theorem yN {f:Addr} {fd:FuncData} (F:jQ K "set_of" "set_of" XJ f fd):qp P w K mg base qM 1 f fd ["numbers"] (Uh K):=by
 refine F.okJ zx (λvs H Q E h=>?_) (λcdv A outer s H vs Q E hr h=>?_)
 . obtain⟨a,ns,rfl,_⟩:=h
   rfl
 . obtain⟨a,ns,rfl,hS,hb,q⟩:=h
   refine⟨_,qe (qw (i:=1) zx.nd rfl (Or.inl rfl) qi)
     (qe (qT PassesOwn.never rfl (qO (jv 0)) (qt (i:=2) zx.nd rfl (Or.inl rfl)) (qh (qw (i:=1) zx.nd rfl (Or.inl rfl) (qI Kv (jv 1) (qI yI qi (jv 2))))))
     (qh (qA (jv 1)))),?_⟩
   refine⟨_,rfl,a,rfl,⟨_,hS⟩,?_⟩
   refine jo (K:=K) (a:=a) (xs:=Zr ns) (λi σ H'=>∃v,σ=[some (.ref a),some (.int ((Rb.setN (ns.take i):Nat):Int)),v]/\H'=H) ⟨none,rfl,rfl⟩ (λi σ H' _ ⟨_,_,e⟩=>e▸hS) ?_ ?_
   . rintro i x σ H' hx ⟨v,rfl,rfl⟩
     obtain⟨n,hn,rfl⟩:=UN hx
     have n1:=hb n (List.mem_of_getElem? hn)
     have e1:(1:Int)*2^ ((n:Nat):Int).toNat=((2^n:Nat):Int):=by rw[Int.toNat_natCast,Int.one_mul];push_cast;rfl
     have e:((Rb.setN (ns.take (i+1)):Nat):Int)=Builtin.bitOr (Rb.setN (ns.take i):Nat) ((1:Int)*2^ ((n:Nat):Int).toNat):=by rw[e1,bo,YY hn,Rb.setN_snoc]
     refine⟨_,rfl,_,rfl,_,_,rfl,rfl,⟨by omega,by omega,by decide⟩,_,_,rfl,rfl,some (.int n),?_,rfl⟩
     rw[e]
     rfl
   . rintro σ H' ⟨v,rfl,rfl⟩
     refine⟨_,rfl,?_⟩
     rw[Wa,List.take_of_length_le (Nat.le_refl _)]
     exact q
theorem Q4:qv ["numbers","there","number","least"] ["numbers"] (qk j6):=⟨rfl,rfl,rfl,by decide+kernel,rfl,by decide+kernel,by decide+kernel⟩
theorem Yl {f:Addr} {fd:FuncData} (F:jQ K "lacking" "lacking" j6 f fd):qp P w K mg base qM 1 f fd ["numbers"] (ZR K):=by
 refine F.okJ Q4 (λvs H Q E h=>?_) (λcdv A outer s H vs Q E hr h=>?_)
 . obtain⟨a,ns,rfl,_⟩:=h
   rfl
 . obtain⟨a,ns,rfl,hS,hl,q⟩:=h
   have hu:=jA hr
   refine⟨_,qe (qw (i:=1) Q4.nd rfl (Or.inl rfl) jO)
     (qe (qT PassesOwn.never rfl (qO (jv 0)) (qt (i:=2) Q4.nd rfl (Or.inl rfl)) (qh (jl hu (jv 1) (jv 2) jz rfl)))
     (qe (qw (i:=3) Q4.nd rfl (Or.inl rfl) qi)
     (qe (JN PassesOwn.never (jX (QX hu (jv 3) (jv 1)) (by with_unfolding_all rfl)) (qh (xo (i:=3) Q4.nd rfl (Or.inl rfl) qi xy)))
     (qh (qA (jv 3)))))),?_⟩
   intro D hD
   refine⟨_,rfl,a,rfl,⟨_,(qj hD).seq hS⟩,?_⟩
   refine jo (K:=K) (a:=a) (xs:=Zr ns) (λi σ H'=>∃v kvs,σ=[some (.ref a),some (.ref D),v,none]/\H'=upd H D (.dK kvs)/\kvs.length<=i/\∀x:Nat,(qQ kvs (Sum.inl (x:Int):qD)).isSome=decide (x∈ns.take i)) ⟨none,[],rfl,rfl,Nat.le_refl _,λx=>by simp [qQ]⟩
     (λi σ H' _ ⟨_,_,_,e,_⟩=>e▸(qj hD).seq hS) ?_ ?_
   . rintro i x σ H' hx ⟨v,kvs,rfl,rfl,hk,hv⟩
     obtain⟨n,hn,rfl⟩:=UN hx
     have hi:i < ns.length:=(List.getElem?_eq_some_iff.mp hn).1
     refine⟨_,rfl,_,rfl,D,_,rfl,QM.k (k:=(Sum.inl (n:Int):qD)) qd (qo (by omega)),?_⟩
     refine⟨some (.int n),jy kvs (Sum.inl (n:Int)) (.bl true),rfl,jG,?_,λx=>?_⟩
     . have:=QO kvs (Sum.inl (n:Int):qD) (.bl true)
       omega
     . rw[jL,YY hn]
       by_cases e:x=n
       . subst e;simp
       . have e':¬(Sum.inl (x:Int):qD)=Sum.inl (n:Int):=λz=>e (by have:=Sum.inl.inj z;omega)
         rw[if_neg e',hv x,Bool.eq_iff_iff]
         simp [e]
   . rintro σ H' ⟨v,kvs,rfl,rfl,hk,hv⟩
     rw[Wa,List.take_of_length_le (Nat.le_refl _)]at hv
     refine Jw (λσ H'=>∃r:Nat,σ=[some (.ref a),some (.ref D),v,some (.int r)]/\H'=upd H D (.dK kvs)/\∀x,x < r->x∈ns) (λσ _=>match σ with | [_,_,_,some (.int r)]=>ns.length - r.toNat | _=>0) ⟨0,rfl,rfl,λx hx=>absurd hx (Nat.not_lt_zero _)⟩ ?_ ?_
     . rintro σ H' ⟨r,rfl,rfl,hr'⟩
       refine⟨_,rfl,_,rfl,D,_,rfl,jB.k (k:=(Sum.inl (r:Int):qD)) qd,_,rfl,?_⟩
       rw[hv r]
       by_cases hm:r∈ns
       . rw[decide_eq_true hm]
         have hp:=Rb.pigeon (r+1) ns λx hx=>by
           by_cases e:x=r
           . rw[e];exact hm
           . exact hr' x (by omega)
         refine jY ⟨_,rfl,_,_,rfl,rfl,⟨r+1,rfl,rfl,λx hx=>?_⟩,?_⟩
         . by_cases e:x=r
           . rw[e];exact hm
           . exact hr' x (by omega)
         . show ns.length - ((r:Int)+1).toNat < ns.length - (r:Int).toNat
           omega
       . rw[decide_eq_false hm]
         refine qZ ⟨_,rfl,?_⟩
         have e:=Rb.lackN_eq (r:=r) (ns:=ns) ⟨hm,hr'⟩
         have:=q _ (qj (o:=.dK kvs) hD)
         rw[<-e]at this
         exact this
     . rintro σ H Q Q' h1 ⟨v,e,w,e2,a,o,e3,g,k,e4,q⟩
       exact⟨v,e,w,e2,a,o,e3,g,k,e4,h1 _ _ q⟩
end
end Rh
set_option Elab.async false
set_option linter.all false
set_option maxRecDepth 100000
set_option maxHeartbeats 4000000
namespace Rh
open PySem L2 PyProof.Rows MLab
abbrev Kr:Stmt:=top 38
abbrev Ya:Stmt:=top 39
abbrev ZT:Stmt:=top 40
abbrev WD:Stmt:=top 41
abbrev XN:Stmt:=top 42
abbrev zz:Stmt:=top 44
structure jd (N:List Str) (H:Hp) (d:Addr) (f:Str->Option Nat):Prop where
 at_:∃kvs:List (qD×V),H d=some (.dK kvs)/\(∀z:Str,qQ kvs (Sum.inr z:qD)=(f z).map λn=>V.int (n:Nat))/\(kvs.map (·.1)).Nodup/\∀k∈kvs.map (·.1),k∈N.map (Sum.inr:Str->qD)
theorem jd.mono {N:List Str} {H H':Hp} {d:Addr} {f:Str->Option Nat} (h:jd N H d f) (s:Same H H'):jd N H' d f:=⟨let ⟨kvs,a,b⟩:=h.at_;⟨kvs,s _ _ a,b⟩⟩
theorem jd.get {N:List Str} {H:Hp} {d:Addr} {f:Str->Option Nat} (h:jd N H d f) (z:Str):jB H d (.str z) ((f z).map λn=>V.int (n:Nat)):=by
 obtain⟨kvs,a,b,_⟩:=h.at_
 rw[<-b z]
 exact jB.k (k:=(Sum.inr z:qD)) a
theorem jd.isd {N:List Str} {H:Hp} {d:Addr} {f:Str->Option Nat} (h:jd N H d f):∃kvs:List (qD×V),H d=some (.dK kvs):=let ⟨kvs,a,_⟩:=h.at_;⟨kvs,a⟩
theorem jd.put {N:List Str} {H:Hp} {d:Addr} {f:Str->Option Nat} (h:jd N H d f) {z:Str} {n:Nat} (hz:z∈N) (hf:f z=none) (le:N.length<=14):∃H',QM H d (.str z) (.int (n:Nat)) H'/\jd N H' d (λy=>if y=z then some n else f y)/\∃o,H'=upd H d o:=by
 obtain⟨kvs,a,b,nd,sub⟩:=h.at_
 have ln:kvs.length<=14:=by
   have:=Ql nd sub
   rw[List.length_map,List.length_map]at this
   omega
 refine⟨_,QM.k (k:=(Sum.inr z:qD)) a (qo (by omega)),⟨jy kvs (Sum.inr z) (.int (n:Nat)),qd,λy=>?_,?_,?_⟩,_,rfl⟩
 . rw[jL]
   by_cases e:y=z
   . subst e;rw[if_pos rfl,if_pos rfl];rfl
   . rw[if_neg e,if_neg (λq=>e (Sum.inr.inj q))];exact b y
 . rw[Qn _ (by rw[b z,hf];rfl),List.map_append]
   refine List.nodup_append.mpr ⟨nd,List.pairwise_singleton _ _,λx hx y hy e=>?_⟩
   have ey:y=Sum.inr z:=by simpa using hy
   subst ey
   subst e
   have:(qQ kvs (Sum.inr z:qD)).isSome=true:=by
     obtain⟨p,hp,ep⟩:=List.mem_map.mp hx
     have an:(kvs.any λkv=>decide (kv.1=(Sum.inr z:qD)))=true:=List.any_eq_true.mpr ⟨p,hp,decide_eq_true ep⟩
     rw[Qm]at an
     exact an
   rw[b z,hf]at this
   cases this
 . rw[Qn _ (by rw[b z,hf];rfl),List.map_append]
   intro k hk
   rcases List.mem_append.mp hk with hk | hk
   . exact sub k hk
   . have:k=Sum.inr z:=by simpa using hk
     rw[this]
     exact List.mem_map.mpr ⟨z,hz,rfl⟩
def j8 (rs:ja) (f:Str->Option Nat) (z:Str):List Nat:=(Qp rs z).filterMap f
theorem jP {rs:ja} {f:Str->Option Nat} {z:Str} {n:Nat}:n∈j8 rs f z↔∃y∈Qp rs z,f y=some n:=List.mem_filterMap
theorem UP {rs:ja} (z:Str):(Qp rs z).length<=rs.length:=by
 unfold Qp
 split
 . exact XQ _
 . exact Nat.zero_le _
def Xq (rs:ja) (f:Str->Option Nat) (z:Str):List Str:=(Qp rs z).filter λy=>(f y).isNone
def ZM (rs:ja) (f:Str->Option Nat) (z:Str) (n:Nat):Bool:=decide (Rb.lackN (j8 rs f z)=n)&&(Xq rs f z).all λy=>decide (n∈j8 rs f y)
theorem kr {rs:ja} {f:Str->Option Nat} {z:Str} {n:Nat}:ZM rs f z n=true↔zt (Qp rs) f z n:=by
 unfold ZM zt Xq
 rw[Bool.and_eq_true,decide_eq_true_iff,List.all_eq_true]
 have lk:Rb.Lacks (Rb.lackN (j8 rs f z)) (j8 rs f z):=Rb.lackI_lacks _
 constructor
 . rintro⟨rfl,h⟩
   refine⟨λj hj=>jP.mp (lk.2 j hj),λy hy e=>lk.1 (jP.mpr ⟨y,hy,e⟩),λy hy e=>?_⟩
   exact jP.mp (of_decide_eq_true (h y (List.mem_filter.mpr ⟨hy,by rw[e];rfl⟩)))
 . rintro⟨h1,h2,h3⟩
   refine⟨(Rb.lackN_eq ⟨λm=>?_,λx hx=>jP.mpr (h1 x hx)⟩).symm,λy hy=>decide_eq_true ?_⟩
   . obtain⟨y,hy,e⟩:=jP.mp m
     exact h2 y hy e
   . obtain⟨hy1,hy2⟩:=List.mem_filter.mp hy
     exact jP.mpr (h3 y hy1 (by simpa using hy2))
def yh (rs:ja) (f:Str->Option Nat) (n:Nat):List Str:=((rs.map (·.1)).filter λz=>(f z).isNone).filter λz=>ZM rs f z n
theorem wU (rs:ja) (R:Rs Str) (n:Nat):Wl (Qp rs) (rs.map (·.1)) R n (yh rs (qB R) n):=⟨λx=>by
 unfold yh
 rw[List.mem_filter,List.mem_filter,kr]
 constructor
 . rintro⟨⟨a,b⟩,c⟩
   exact⟨a,by simpa using b,c⟩
 . rintro⟨a,b,c⟩
   exact⟨⟨a,by rw[b];rfl⟩,c⟩,List.filter_sublist.trans List.filter_sublist⟩
def wC (CG:Addr):Sp:=λvs H Q _=>∃(g d:Addr) (rs:ja) (z:Str) (f:Str->Option Nat),vs=[.ref g,.ref d,.str z]/\jZ CG H g rs/\qy rs/\rs.length<=14/\z∈rs.map (·.1)/\jd (rs.map (·.1)) H d f/\
 ∀H' l,Same H H'->H l=none->H' l=some (.lst (Zr (j8 rs f z)))->Q (.ref l) H'
def kY (CG:Addr):Sp:=λvs H Q _=>∃(g d:Addr) (rs:ja) (z:Str) (f:Str->Option Nat) (n:Nat),vs=[.ref g,.ref d,.str z,.int (n:Nat)]/\jZ CG H g rs/\qy rs/\rs.length<=14/\z∈rs.map (·.1)/\jd (rs.map (·.1)) H d f/\
 ∀H',Same H H'->Q (.bl (ZM rs f z n)) H'
def Ui (CG:Addr):Sp:=λvs H Q _=>∃(g d:Addr) (rs:ja) (f:Str->Option Nat) (n:Nat),vs=[.ref g,.ref d,.int (n:Nat)]/\jZ CG H g rs/\qy rs/\rs.length<=14/\jd (rs.map (·.1)) H d f/\
 ∀H' l,Same H H'->H l=none->H' l=some (.lst ((yh rs f n).map V.str))->Q (.ref l) H'
theorem VL {α β:Type} (g:α->Option β) (h:β->V):∀l:List α,(l.filterMap g).map h=l.filterMap λx=>(g x).map h
 | []=>rfl
 | a::l=>by
   rw[List.filterMap_cons,List.filterMap_cons]
   cases g a with
   | none=>exact VL g h l
   | some b=>rw[List.map_cons,VL g h l];rfl
theorem YB (p:Str->Bool):∀l:List Str,(l.filter p).map V.str=l.filterMap λx=>if p x=true then some (V.str x) else none
 | []=>rfl
 | a::l=>by
   rw[List.filter_cons,List.filterMap_cons]
   cases p a with
   | false=>exact YB p l
   | true=>
     rw[if_pos rfl,if_pos rfl,List.map_cons,YB p l]
theorem UK {α:Type} (f:α->V):∀l:List α,l.map f=l.filterMap λx=>some (f x)
 | []=>rfl
 | a::l=>by rw[List.map_cons,List.filterMap_cons,UK f l]
section
variable {P:Program} {w:World} {K:PySem.W.Frag} {mg:Str->Option Value} {base:Heap}
abbrev x8:List Str:=["ground","numbered","name"]
theorem Mc:qv x8 x8 (qk Kr):=⟨rfl,rfl,rfl,by decide+kernel,rfl,by decide+kernel,by decide+kernel⟩
theorem Kx {f CG:Addr} {fd:FuncData} (F:jQ K "numbers_behind" "numbers_behind" Kr f fd) (B:Jc mg) (G:Qk mg) (T:QL K mg) (M:GM K mg CG):qp P w K mg base qM 3 f fd x8 (wC CG):=by
 obtain⟨fC,fdC,C⟩:=M.cls
 obtain⟨fR,fdR,hR⟩:=M.fr
 obtain⟨fN,fdN,hN⟩:=M.isn
 have GR:qp P w K mg base qM 2 fR fdR ["self","name"] (zw CG):=Ym hR.fn C B G T hN
 refine F.okJ Mc (λvs H Q E h=>?_) (λcdv A outer s H vs Q E hr h=>?_)
 . obtain⟨g,d,rs,z,nf,rfl,_⟩:=h
   rfl
 . obtain⟨g,d,rs,z,nf,rfl,gr,good,le14,hz,hd,q⟩:=h
   have hu:=jA hr
   refine⟨_,qh (qA (QI (N':=["end","numbered"]) (ix:=[none,some 1]) rfl ⟨rfl,rfl,rfl,rfl,rfl⟩ (qO (xu hR C.cl GR hr (jv 0) (qb (jv 2) qf))) (λC s2 H2 fp pins=>
     ⟨qt (i:=0) (show (["end","numbered"]:List Str).Nodup by decide+kernel) rfl (Or.inl rfl),j9 (jX (QX hu (jv 0) (jv 1))),qG hu (jv 1) (jv 0) (λ_ _=>rfl)⟩))),?_⟩
   obtain⟨dx,fs,hg,l1,l2⟩:=gr.ins
   obtain⟨r,hr',rfl⟩:=List.mem_map.mp hz
   refine⟨_,rfl,g,dx,fs,rfl,hg,l2,_,rfl,g,rs,r,rfl,gr,hr',good.nm r hr',λH1 le s1 hle=>?_⟩
   have s2:Same H (upd H1 le (.lst ((jW rs r).map V.str))):=s1.trans (qj hle)
   have hl2:upd H1 le (.lst ((jW rs r).map V.str)) le=some (.lst ((jW rs r).map V.str)):=qd
   generalize upd H1 le (.lst ((jW rs r).map V.str))=H2 at s2 hl2
   have hd2:=hd.mono s2
   refine⟨le,rfl,⟨_,.of hl2⟩,λW hW=>?_⟩
   refine YG (K:=K) (a:=le) (xs:=jW rs r) (enc:=V.str) (out:=λy=>(nf y).map λn=>V.int (n:Nat)) (rest:=[some (.ref d)]) hW hl2 (qo (Nat.le_trans (XQ r) (by omega))) ?_ ?_ ?_
   . intro x hx G' s3 R k
     refine⟨_,rfl,_,rfl,d,_,rfl,(hd2.mono s3).get x,_,rfl,k G' λ_ _ h=>h⟩
   . intro x hx v ev G' s3 R k
     have gx:=(hd2.mono s3).get x
     rw[ev]at gx
     exact⟨_,rfl,_,rfl,d,_,rfl,gx,k G' λ_ _ h=>h⟩
   . intro G' s3 hG
     refine q _ W (s2.trans s3) (qW s2 hW) ?_
     rw[hG]
     congr 2
     unfold Zr j8
     rw[J3 good.nd hr',VL]
abbrev Nm:List Str:=["ground","numbered","name","number","bare"]
abbrev Yk:List Str:=["ground","numbered","name","number"]
theorem yf:qv Nm Yk (qk Ya):=⟨rfl,rfl,rfl,by decide+kernel,rfl,by decide+kernel,by decide+kernel⟩
theorem ul {f fB fL CG:Addr} {fd fdB fdL:FuncData} (F:jQ K "gets_number" "gets_number" Ya f fd) (B:Jc mg) (G:Qk mg) (T:QL K mg) (M:GM K mg CG) (hB:je K mg "numbers_behind" Kr x8 fB fdB) (hL:je K mg "lacking" j6 ["numbers"] fL fdL):qp P w K mg base qM 4 f fd Yk (kY CG):=by
 have GB:qp P w K mg base qM 3 fB fdB x8 (wC CG):=Kx hB.fn B G T M
 have GL:qp P w K mg base qM 1 fL fdL ["numbers"] (ZR K):=Yl hL.fn
 obtain⟨fC,fdC,C⟩:=M.cls
 obtain⟨fR,fdR,hR⟩:=M.fr
 obtain⟨fN,fdN,hN⟩:=M.isn
 have GR:qp P w K mg base qM 2 fR fdR ["self","name"] (zw CG):=Ym hR.fn C B G T hN
 refine F.okJ yf (λvs H Q E h=>?_) (λcdv A outer s H vs Q E hr h=>?_)
 . obtain⟨g,d,rs,z,nf,n,rfl,_⟩:=h
   rfl
 . obtain⟨g,d,rs,z,nf,n,rfl,gr,good,le14,hz,hd,q⟩:=h
   have hu:=jA hr
   have r1:q5 1 _:=hr.mono (by decide)
   have r2:q5 2 _:=hr.mono (by decide)
   refine⟨_,qe (qL (qu Kw (qJ hL GL r1 (by rfl) (qb (qJ hB GB hr (by rfl) (qb (jv 0) (qb (jv 1) (qb (jv 2) qf)))) qf)) (jv 3) (qz _)) (qh (qA jz)) qC)
     (qe (QH (i:=4) (N':=["end","numbered"]) (ix:=[none,some 1]) yf.nd rfl (Or.inl rfl) rfl ⟨rfl,rfl,rfl,rfl,rfl⟩ (qO (xu hR C.cl GR r2 (jv 0) (qb (jv 2) qf))) (λC s2 H2 fp pins=>
       ⟨qt (i:=0) (show (["end","numbered"]:List Str).Nodup by decide+kernel) rfl (Or.inl rfl),j9 (jX (Q8 hu (jv 0) (jv 1))),jv 0⟩))
     (qh (qA (qE (Z6 rfl) (by rfl) T.all boot_all (qb (QI (N':=["end","number","ground","numbered"]) (ix:=[none,some 3,some 0,some 1]) (te:=Xv (Na K false) (jm 1) (zQ (wC CG) [] E0 (jx (jm 2) (jx (jm 3) (jx (jm 0) Q0))))) rfl ⟨rfl,rfl,rfl,rfl,rfl⟩ (qO (jv 4)) (λC s2 H2 fp pins=>
       ⟨qt (i:=0) (show (["end","number","ground","numbered"]:List Str).Nodup by decide+kernel) rfl (Or.inl rfl),Qa,Qb J1 (jv 1) (qJ hB GB hr (by rfl) (qb (jv 2) (qb (jv 3) (qb (jv 0) qf)))) (by with_unfolding_all rfl)⟩)) qf))))),?_⟩
   refine⟨_,rfl,_,rfl,_,rfl,g,d,rs,z,nf,rfl,gr,good,le14,hz,hd,λH1 l1 s1 hl1 hl1'=>?_⟩
   have ln:∀y,(j8 rs nf y).length<=14:=λy=>Nat.le_trans (List.length_filterMap_le _ _) (Nat.le_trans (UP y) le14)
   refine⟨l1,_,rfl,.of hl1',by have:=ln z;omega,λH2 s2=>⟨_,rfl,rfl,_,rfl,?_⟩⟩
   have s12:=s1.trans s2
   by_cases c:Rb.lackN (j8 rs nf z)=n
   . refine jJ (by rw[c];simp) ?_
     obtain⟨dx,fs,hg,e1,e2⟩:=(gr.mono s12).ins
     obtain⟨r,hr',rfl⟩:=List.mem_map.mp hz
     refine⟨_,rfl,g,dx,fs,rfl,hg,e2,_,rfl,g,rs,r,rfl,gr.mono s12,hr',good.nm r hr',λH3 le s3 hle=>?_⟩
     have s4:Same H (upd H3 le (.lst ((jW rs r).map V.str))):=s12.trans (s3.trans (qj hle))
     have hl4:upd H3 le (.lst ((jW rs r).map V.str)) le=some (.lst ((jW rs r).map V.str)):=qd
     generalize upd H3 le (.lst ((jW rs r).map V.str))=H4 at s4 hl4
     refine⟨le,rfl,⟨_,.of hl4⟩,λW hW=>?_⟩
     refine YG (K:=K) (a:=le) (xs:=jW rs r) (enc:=V.str) (out:=λy=>if (nf y).isNone=true then some (V.str y) else none) (rest:=[some (.ref d)]) hW hl4 (qo (Nat.le_trans (XQ r) (by omega))) ?_ ?_ ?_
     . intro x hx G' s5 R k
       refine⟨_,rfl,_,rfl,d,_,rfl,((hd.mono s4).mono s5).get x,_,rfl,?_⟩
       have:=k G' λ_ _ h=>h
       cases e:nf x with
       | none=>rw[e]at this;exact this
       | some m=>rw[e]at this;exact this
     . intro x hx v ev G' s5 R k
       have:v=V.str x:=by
         split at ev
         . exact(Option.some.inj ev).symm
         . cases ev
       subst this
       exact⟨_,rfl,k G' λ_ _ h=>h⟩
     . intro G5 s5 hG
       rw[<-YB (λy=>(nf y).isNone),<-J3 good.nd hr']at hG
       have hb:G5 W=some (.lst ((Xq rs nf r.1).map V.str)):=hG
       have s45:=s4.trans s5
       refine⟨_,rfl,W,rfl,⟨_,.of hb⟩,λU hU=>?_⟩
       have bl:(Xq rs nf r.1).length<=14:=Nat.le_trans (List.length_filter_le _ _) (Nat.le_trans (UP r.1) le14)
       refine YG (K:=K) (a:=W) (xs:=Xq rs nf r.1) (enc:=V.str) (out:=λy=>some (V.bl (decide (n∈j8 rs nf y)))) (rest:=[some (.int (n:Nat)),some (.ref g),some (.ref d)]) hU hb (qo (by omega)) ?_ ?_ ?_
       . intro x hx G' s6 R k
         exact k G' λ_ _ h=>h
       . intro x hx v ev G' s6 R k
         obtain rfl:=Option.some.inj ev
         have hxN:x∈rs.map (·.1):=JR good.nd _ hz x (List.mem_filter.mp hx).1
         have sA:=s45.trans s6
         refine⟨_,rfl,_,rfl,_,rfl,_,rfl,g,d,rs,x,nf,rfl,gr.mono sA,good,le14,hxN,hd.mono sA,λH7 l7 s7 hl7 hl7'=>?_⟩
         refine⟨l7,_,rfl,.inl (.of hl7'),rfl,ZK _,?_⟩
         rw[Yy]
         exact k H7 s7
       . intro G6 s6 hG6
         rw[<-UK]at hG6
         refine⟨U,(Xq rs nf r.1).map λy=>decide (n∈j8 rs nf y),rfl,.of (by rw[hG6,List.map_map];rfl),?_⟩
         have:=q G6 (s45.trans s6)
         unfold ZM at this
         rw[decide_eq_true c,Bool.true_and]at this
         rw[List.all_map]
         exact this
   . refine jI (by
       have:¬V.int ((Rb.lackN (j8 rs nf z):Nat):Int)=V.int ((n:Nat):Int):=λe=>c (by have:=V.int.inj e;omega)
       rw[decide_eq_false this];rfl) ?_
     have:=q H2 s12
     unfold ZM at this
     rw[decide_eq_false c,Bool.false_and]at this
     exact this
end
end Rh
set_option Elab.async false
set_option linter.all false
set_option maxRecDepth 100000
set_option maxHeartbeats 4000000
namespace Rh
open PySem L2 PyProof.Rows MLab
def qX (H:Hp) (ps:List Addr) (ls:List (List Str)):Prop:=ps.length=ls.length/\∀(i:Nat) (p:Addr) (l:List Str),ps[i]?=some p->ls[i]?=some l->H p=some (.lst (l.map V.str))
theorem qX.mono {H H':Hp} {ps:List Addr} {ls:List (List Str)} (h:qX H ps ls) (s:Same H H'):qX H' ps ls:=⟨h.1,λi p l e1 e2=>s _ _ (h.2 i p l e1 e2)⟩
theorem qX.nil {H:Hp}:qX H [] []:=⟨rfl,λi p l e=>(nomatch e)⟩
theorem XF {α:Type} {xs:List α} {x y:α} {i:Nat} (h:(xs++[x])[i]?=some y):(i < xs.length/\xs[i]?=some y)\/(i=xs.length/\y=x):=by
 by_cases hi:i < xs.length
 . rw[List.getElem?_append_left hi]at h
   exact .inl ⟨hi,h⟩
 . have hi':i=xs.length:=by
     have:=(List.getElem?_eq_some_iff.mp h).1
     rw[List.length_append,List.length_singleton]at this
     omega
   subst hi'
   rw[List.getElem?_append_right (Nat.le_refl _),Nat.sub_self]at h
   exact .inr ⟨rfl,(Option.some.inj h).symm⟩
theorem qX.snoc {H:Hp} {ps:List Addr} {ls:List (List Str)} {p:Addr} {l:List Str} (h:qX H ps ls) (hp:H p=some (.lst (l.map V.str))):qX H (ps++[p]) (ls++[l]):=by
 refine⟨by rw[List.length_append,List.length_append,h.1];rfl,λi p' l' e1 e2=>?_⟩
 rcases XF e1 with ⟨i1,e1⟩ | ⟨i1,rfl⟩
 . rcases XF e2 with ⟨_,e2⟩ | ⟨i2,_⟩
   . exact h.2 i p' l' e1 e2
   . have:=h.1;omega
 . rcases XF e2 with ⟨i2,_⟩ | ⟨_,rfl⟩
   . have:=h.1;omega
   . exact hp
theorem qX.app {H:Hp} {ps qs:List Addr} {ls ms:List (List Str)} (h:qX H ps ls) (k:qX H qs ms):qX H (ps++qs) (ls++ms):=by
 refine⟨by rw[List.length_append,List.length_append,h.1,k.1],λi p l e1 e2=>?_⟩
 by_cases c:i < ps.length
 . rw[List.getElem?_append_left c]at e1
   rw[List.getElem?_append_left (by rw[<-h.1];exact c)]at e2
   exact h.2 i p l e1 e2
 . rw[List.getElem?_append_right (by omega)]at e1
   rw[List.getElem?_append_right (by rw[<-h.1];omega)]at e2
   rw[<-h.1]at e2
   exact k.2 _ p l e1 e2
theorem qX.fr {H H':Hp} {ps:List Addr} {ls:List (List Str)} {d:Addr} {kvs:List (qD×V)} (h:qX H ps ls) (hd:H d=some (.dK kvs)) (f:Fr H d H'):qX H' ps ls:=⟨h.1,λi p l e1 e2=>f _ _ (h.2 i p l e1 e2) (λe=>by have:=h.2 i p l e1 e2;rw[e,hd]at this;cases this)⟩
theorem jd.fr {N:List Str} {H H':Hp} {d e:Addr} {f:Str->Option Nat} (h:jd N H d f) (s:Fr H e H') (ne:d≠e):jd N H' d f:=⟨let ⟨kvs,a,b⟩:=h.at_;⟨kvs,s _ _ a ne,b⟩⟩
theorem jd.congr {N:List Str} {H:Hp} {d:Addr} {f g:Str->Option Nat} (h:jd N H d f) (e:∀z,f z=g z):jd N H d g:=⟨let ⟨kvs,a,b,c⟩:=h.at_;⟨kvs,a,λz=>by rw[b z,e z],c⟩⟩
def Xs (CG:Addr) (H:Hp) (g d:Addr):Prop:=∀dx lo rd,H g=some (.ins CG dx [("order",.ref lo),("roads",.ref rd)])->rd≠d
theorem jZ.fr {CG:Addr} {H H':Hp} {a d:Addr} {rs:ja} (h:jZ CG H a rs) (hd:∃kvs:List (qD×V),H d=some (.dK kvs)) (ap:Xs CG H a d) (s:Fr H d H'):jZ CG H' a rs:=by
 obtain⟨dx,lo,rd,kv,h1,h2,h3,h4⟩:=h
 obtain⟨kvs,hd⟩:=hd
 have ne:∀{b:Addr} {o:HO},H b=some o->(∀kv:List (qD×V),o≠.dK kv)->b≠d:=λhb no e=>by rw[e,hd]at hb;exact no kvs (Option.some.inj hb).symm
 refine⟨dx,lo,rd,kv,s _ _ h1 (ne h1 (λ_=>by simp)),s _ _ h2 (ne h2 (λ_=>by simp)),s _ _ h3 (ap dx lo rd h1),λr hr=>let ⟨q,a,b⟩:=h4 r hr;⟨q,a,s _ _ b (ne b (λ_=>by simp))⟩⟩
def zp (f:Str->Option Nat) (n:Nat) (ns:List Str):Str->Option Nat:=λz=>if z∈ns then some n else f z
theorem xJ {R:Rs Str} {n:Nat} {ns:List Str} (h:∀z∈ns,qB R z=none) (z:Str):zp (qB R) n ns z=qB (R++[(n,ns)]) z:=by
 unfold zp
 rw[Ja]
 by_cases c:z∈ns
 . rw[if_pos c,h z c]
   show _=if z∈ns then some n else none
   rw[if_pos c]
 . rw[if_neg c]
   cases qB R z with
   | some m=>rfl
   | none=>
     show none=if z∈ns then some n else none
     rw[if_neg c]
theorem wS {R:Rs Str} {n:Nat} {ls:List (List Str)} {l:List Str}:R++(ls++[l]).map (λx=>(n,x))=(R++ls.map λx=>(n,x))++[(n,l)]:=by
 rw[List.map_append,List.append_assoc]
 rfl
def kX (CG:Addr):Sp:=λvs H Q _=>∃(g d:Addr) (rs:ja) (R:Rs Str) (n:Nat),vs=[.ref g,.ref d,.int (n:Nat)]/\jZ CG H g rs/\qy rs/\rs.length<=14/\jd (rs.map (·.1)) H d (qB R)/\Xs CG H g d/\
 ∀H' l ps ls,H l=none->H' l=some (.lst (ps.map V.ref))->qX H' ps ls->(∀p∈ps,H p=none)->jd (rs.map (·.1)) H' d (qB (R++ls.map λx=>(n,x)))->j0 (Qp rs) (rs.map (·.1)) n R (R++ls.map λx=>(n,x))->Fr H d H'->Q (.ref l) H'
def j4 (rs:ja) (f:Str->Option Nat):Nat:=((rs.map (·.1)).filter λz=>(f z).isNone).length
theorem Wg {rs:ja} {R:Rs Str} {n:Nat} {ns:List Str} (h:∀z∈ns,z∈rs.map (·.1)/\qB R z=none) (ne:ns≠[]):j4 rs (qB (R++[(n,ns)])) < j4 rs (qB R):=by
 unfold j4
 generalize rs.map (·.1)=N at*
 have sub:(N.filter λz=>(qB (R++[(n,ns)]) z).isNone).Sublist (N.filter λz=>(qB R z).isNone):=by
   have e:(N.filter λz=>(qB (R++[(n,ns)]) z).isNone)=(N.filter λz=>(qB R z).isNone).filter λz=>(qB (R++[(n,ns)]) z).isNone:=by
     rw[List.filter_filter]
     refine List.filter_congr λz _=>?_
     cases c:(qB (R++[(n,ns)]) z).isNone with
     | false=>simp
     | true=>
       have:=xL (by simpa using c)
       rw[this]
       rfl
   rw[e]
   exact List.filter_sublist
 obtain⟨z0,r,e0⟩:=List.exists_cons_of_ne_nil ne
 have m0:z0∈ns:=by rw[e0];exact List.mem_cons_self
 obtain⟨hz,ez⟩:=h z0 m0
 rcases Nat.lt_or_ge (N.filter λz=>(qB (R++[(n,ns)]) z).isNone).length (N.filter λz=>(qB R z).isNone).length with c | c
 . exact c
 . have e:=sub.eq_of_length_le c
   have m:z0∈N.filter λz=>(qB R z).isNone:=List.mem_filter.mpr ⟨hz,by rw[ez];rfl⟩
   rw[<-e]at m
   have:=(List.mem_filter.mp m).2
   rw[US ez m0]at this
   cases this
def QK (N:List Str) (H:Hp) (d:Addr):Nat:=match H d with
 | some (.dK kvs)=>(N.filter λz=>(qQ kvs (Sum.inr z:qD)).isNone).length
 | _=>0
theorem jd.bare {rs:ja} {H:Hp} {d:Addr} {f:Str->Option Nat} (h:jd (rs.map (·.1)) H d f):QK (rs.map (·.1)) H d=j4 rs f:=by
 obtain⟨kvs,a,b,_⟩:=h.at_
 unfold QK j4
 rw[a]
 show ((rs.map (·.1)).filter λz=>(qQ kvs (Sum.inr z:qD)).isNone).length=_
 congr 1
 refine List.filter_congr λz _=>?_
 rw[b z]
 cases f z<;>rfl
section
variable {P:Program} {w:World} {K:PySem.W.Frag} {mg:Str->Option Value} {base:Heap}
abbrev Gi:List Str:=["ground","numbered","number","bare"]
abbrev QE:List Str:=["ground","numbered","number"]
theorem Uq:qv Gi QE (qk ZT):=⟨rfl,rfl,rfl,by decide+kernel,rfl,by decide+kernel,by decide+kernel⟩
theorem yO {f fB fL fG CG:Addr} {fd fdB fdL fdG:FuncData} (F:jQ K "round_of" "round_of" ZT f fd) (B:Jc mg) (G:Qk mg) (T:QL K mg) (M:GM K mg CG) (hB:je K mg "numbers_behind" Kr x8 fB fdB) (hL:je K mg "lacking" j6 ["numbers"] fL fdL) (hG:je K mg "gets_number" Ya Yk fG fdG):qp P w K mg base qM 5 f fd QE (Ui CG):=by
 have GG:qp P w K mg base qM 4 fG fdG Yk (kY CG):=ul hG.fn B G T M hB hL
 obtain⟨fC,fdC,C⟩:=M.cls
 obtain⟨fM,fdM,hM⟩:=M.nm
 have GM:qp P w K mg base qM 1 fM fdM ["self"] (Jy CG):=J2 hM.fn C G
 refine F.okJ Uq (λvs H Q E h=>?_) (λcdv A outer s H vs Q E hr h=>?_)
 . obtain⟨g,d,rs,nf,n,rfl,_⟩:=h
   rfl
 . obtain⟨g,d,rs,nf,n,rfl,gr,good,le14,hd,q⟩:=h
   have hu:=jA hr
   have r1:q5 1 _:=hr.mono (by decide)
   refine⟨_,qe (QH (i:=3) (N':=["name","numbered"]) (ix:=[none,some 1]) Uq.nd rfl (Or.inl rfl) rfl ⟨rfl,rfl,rfl,rfl,rfl⟩ (qO (UM hM C.cl GM r1 (jv 0))) (λC s2 H2 fp pins=>
       ⟨qt (i:=0) (show (["name","numbered"]:List Str).Nodup by decide+kernel) rfl (Or.inl rfl),j9 (jX (Q8 hu (jv 0) (jv 1))),jv 0⟩))
     (qh (qA (QI (N':=["name","ground","numbered","number"]) (ix:=[none,some 0,some 1,some 2]) rfl ⟨rfl,rfl,rfl,rfl,rfl⟩ (qO (jv 3)) (λC s2 H2 fp pins=>
       ⟨qt (i:=0) (show (["name","ground","numbered","number"]:List Str).Nodup by decide+kernel) rfl (Or.inl rfl),j9 (jt (qJ hG GG hr (by rfl) (qb (jv 1) (qb (jv 2) (qb (jv 0) (qb (jv 3) qf)))))),jv 0⟩)))),?_⟩
   obtain⟨dx,fs,hg,l1,l2⟩:=gr.ins
   refine⟨_,rfl,g,dx,fs,rfl,hg,l1,g,rs,rfl,gr,λln hln=>⟨ln,rfl,⟨_,.of qd⟩,λW hW=>?_⟩⟩
   have s2:Same H (upd H ln (.lst ((rs.map (·.1)).map V.str))):=qj hln
   have hl2:upd H ln (.lst ((rs.map (·.1)).map V.str)) ln=some (.lst ((rs.map (·.1)).map V.str)):=qd
   generalize upd H ln (.lst ((rs.map (·.1)).map V.str))=H2 at s2 hl2 hW
   refine YG (K:=K) (a:=ln) (xs:=rs.map (·.1)) (enc:=V.str) (out:=λy=>if (nf y).isNone=true then some (V.str y) else none) (rest:=[some (.ref d)]) hW hl2 (qo (by rw[List.length_map];omega)) ?_ ?_ ?_
   . intro x hx G' s5 R k
     refine⟨_,rfl,_,rfl,d,_,rfl,((hd.mono s2).mono s5).get x,_,rfl,?_⟩
     have:=k G' λ_ _ h=>h
     cases e:nf x with
     | none=>rw[e]at this;exact this
     | some m=>rw[e]at this;exact this
   . intro x hx v ev G' s5 R k
     have:v=V.str x:=by
       split at ev
       . exact(Option.some.inj ev).symm
       . cases ev
     subst this
     exact⟨_,rfl,k G' λ_ _ h=>h⟩
   . intro G5 s5 hG5
     rw[<-YB (λy=>(nf y).isNone)]at hG5
     have s25:=s2.trans s5
     refine⟨_,rfl,W,rfl,⟨_,.of hG5⟩,λU hU=>?_⟩
     have bl:((rs.map (·.1)).filter λy=>(nf y).isNone).length<=14:=Nat.le_trans (List.length_filter_le _ _) (by rw[List.length_map];exact le14)
     refine YG (K:=K) (a:=W) (xs:=(rs.map (·.1)).filter λy=>(nf y).isNone) (enc:=V.str) (out:=λy=>if ZM rs nf y n=true then some (V.str y) else none) (rest:=[some (.ref g),some (.ref d),some (.int (n:Nat))]) hU hG5 (qo (by omega)) ?_ ?_ ?_
     . intro x hx G' s6 R k
       have sA:=s25.trans s6
       refine⟨_,rfl,_,rfl,_,rfl,_,rfl,g,d,rs,x,nf,n,rfl,gr.mono sA,good,le14,(List.mem_filter.mp hx).1,hd.mono sA,λH7 s7=>⟨_,rfl,?_⟩⟩
       have:=k H7 s7
       cases e:ZM rs nf x n with
       | true=>rw[e]at this;exact this
       | false=>rw[e]at this;exact this
     . intro x hx v ev G' s6 R k
       have:v=V.str x:=by
         split at ev
         . exact(Option.some.inj ev).symm
         . cases ev
       subst this
       exact⟨_,rfl,k G' λ_ _ h=>h⟩
     . intro G6 s6 hG6
       rw[<-YB (λy=>ZM rs nf y n)]at hG6
       exact q G6 U (s25.trans s6) (qW s25 hU) hG6
abbrev Nl:List Str:=["ground","numbered","number","rounds","names","name"]
theorem zW:qv Nl QE (qk WD):=⟨rfl,rfl,rfl,by decide+kernel,rfl,by decide+kernel,by decide+kernel⟩
theorem uk {f fB fL fG fR CG:Addr} {fd fdB fdL fdG fdR:FuncData} (F:jQ K "give_number" "give_number" WD f fd) (B:Jc mg) (G:Qk mg) (T:QL K mg) (M:GM K mg CG) (hB:je K mg "numbers_behind" Kr x8 fB fdB) (hL:je K mg "lacking" j6 ["numbers"] fL fdL) (hG:je K mg "gets_number" Ya Yk fG fdG)
   (hR:je K mg "round_of" ZT QE fR fdR):qp P w K mg base qM 6 f fd QE (kX CG):=by
 have GR:qp P w K mg base qM 5 fR fdR QE (Ui CG):=yO hR.fn B G T M hB hL hG
 refine F.okJ zW (λvs H Q E h=>?_) (λcdv A outer s H vs Q E hr h=>?_)
 . obtain⟨g,d,rs,R,n,rfl,_⟩:=h
   rfl
 . obtain⟨g,d,rs,R,n,rfl,gr,good,le14,hd,ap,q⟩:=h
   have hu:=jA hr
   refine⟨_,qe (qw (i:=3) zW.nd rfl (Or.inl rfl) (jE qf))
     (qe (qw (i:=4) zW.nd rfl (Or.inl rfl) (qJ hR GR hr (by rfl) (qb (jv 0) (qb (jv 1) (qb (jv 2) qf)))))
     (qe (JN PassesOwn.never (qu Y8 (qE jp (by rfl) B.len boot_len (qb (jv 4) qf)) qi (qz _))
       (qe (qT PassesOwn.never rfl (qO (jv 4)) (qt (i:=5) zW.nd rfl (Or.inl rfl)) (qh (jl hu (jv 1) (jv 5) (jv 2) rfl)))
       (qe (qY (zg PySem.F.plainAttrs_list PySem.F.slot_list_append PySem.F.type_list_append Qg (jv 3) (qb (jv 4) qf)))
       (qh (qw (i:=4) zW.nd rfl (Or.inl rfl) (qJ hR GR hr (by rfl) (qb (jv 0) (qb (jv 1) (qb (jv 2) qf)))))))))
     (qh (qA (jv 3))))),?_⟩
   refine⟨by show 0<=sizeLine;decide,λlr hlr=>?_⟩
   have sr:Same H (upd H lr (.lst [])):=qj hlr
   refine⟨_,rfl,_,rfl,_,rfl,g,d,rs,qB R,n,rfl,gr.mono sr,good,le14,hd.mono sr,λH1 l1 s1 hl1 hl1'=>?_⟩
   obtain⟨kv0,hd0⟩:=hd.isd
   have nrd:lr≠d:=λe=>by rw[e,hd0]at hlr;cases hlr
   refine Jw (λσ H'=>∃(v5:Option V) (l:Addr) (ps:List Addr) (ls:List (List Str)),σ=[some (.ref g),some (.ref d),some (.int (n:Nat)),some (.ref lr),some (.ref l),v5]/\Fr H d H'/\H' lr=some (.lst (ps.map V.ref))/\qX H' ps ls/\
       jd (rs.map (·.1)) H' d (qB (R++ls.map λx=>(n,x)))/\H' l=some (.lst ((yh rs (qB (R++ls.map λx=>(n,x))) n).map V.str))/\(∀R',j0 (Qp rs) (rs.map (·.1)) n (R++ls.map λx=>(n,x)) R'->j0 (Qp rs) (rs.map (·.1)) n R R')/\l≠lr/\(∀p∈ps,p≠lr)/\H l=none/\(∀p∈ps,H p=none)/\ls.length+j4 rs (qB (R++ls.map λx=>(n,x)))<=14)
     (λ_ H'=>QK (rs.map (·.1)) H' d)
     ⟨none,l1,[],[],rfl,λb u hb _=>s1 _ _ (sr _ _ hb),s1 _ _ qd,.nil,?_,?_,?_,(λe=>by rw[e,qd]at hl1;cases hl1),λp h=>(nomatch h),qW sr hl1,λp h=>(nomatch h),?_⟩ ?_ ?_
   . have:=(hd.mono sr).mono s1
     simpa using this
   . simpa using hl1'
   . intro R' h
     simpa using h
   . show 0+_<=14
     rw[Nat.zero_add]
     refine Nat.le_trans (List.length_filter_le _ _) ?_
     rw[List.length_map]
     exact le14
   . rintro σ H' ⟨v5,l,ps,ls,rfl,fr,hlr',rnds,num,hl,gv,nl,np,l0,p0,bd⟩
     have grH:jZ CG H' g rs:=gr.fr ⟨kv0,hd0⟩ ap fr
     obtain⟨kv1,hd1⟩:=num.isd
     generalize hR1:R++ls.map (λx=>(n,x))=R1 at*
     refine⟨_,rfl,l,_,rfl,.inl (.of hl),_,_,rfl,rfl,_,rfl,?_⟩
     rw[List.length_map]
     generalize hns:yh rs (qB R1) n=ns at*
     have rnd:Wl (Qp rs) (rs.map (·.1)) R1 n ns:=hns▸wU rs R1 n
     have nsN:∀z∈ns,z∈rs.map (·.1)/\qB R1 z=none:=λz hz=>let ⟨a,b,_⟩:=(rnd.iff z).mp hz;⟨a,b⟩
     have nsnd:ns.Nodup:=by
       rw[<-hns]
       exact good.nd.sublist (List.filter_sublist.trans List.filter_sublist)
     have nslen:ns.length<=14:=by
       have:=Ql nsnd λz hz=>(nsN z hz).1
       rw[List.length_map]at this
       omega
     cases c:ns with
     | nil=>
       subst c
       refine jJ (by decide) ?_
       refine⟨_,rfl,?_⟩
       have:=gv R1 (.stop rnd)
       rw[<-hR1]at this num
       exact q H' lr ps ls hlr hlr' rnds p0 num this fr
     | cons z0 rest=>
       have ne:ns≠[]:=by rw[c];simp
       rw[<-c]
       clear c
       refine jI (decide_eq_true (by have:=List.length_pos_iff.mpr ne;show (0:Int) < (ns.length:Int);omega)) ?_
       have nld:l≠d:=λe=>by rw[e,hd1]at hl;cases hl
       refine⟨_,rfl,l,rfl,⟨_,.of hl⟩,?_⟩
       refine jo (K:=K) (a:=l) (xs:=ns.map V.str) (λi σ' G'=>∃v5,σ'=[some (.ref g),some (.ref d),some (.int (n:Nat)),some (.ref lr),some (.ref l),v5]/\jd (rs.map (·.1)) G' d (zp (qB R1) n (ns.take i))/\Fr H' d G')
         ⟨v5,rfl,num.congr λz=>by unfold zp;rw[List.take_zero,if_neg (by simp)],Fr.refl⟩ (λi σ' G' _ ⟨_,_,_,f⟩=>.of (f _ _ hl nld)) ?_ ?_
       . rintro i y σ' G' hy ⟨v5',rfl,numG,frG⟩
         obtain⟨z,ez,hz,rfl⟩:=Je hy
         have il:=(List.getElem?_eq_some_iff.mp ez).1
         have nt:z∉ns.take i:=λm=>by
           obtain⟨j,hj⟩:=List.getElem?_of_mem m
           rw[List.getElem?_take]at hj
           split at hj
           . have h1:=(List.getElem?_eq_some_iff.mp hj)
             have h2:=(List.getElem?_eq_some_iff.mp ez)
             have:=VI nsnd (h1.2.trans h2.2.symm)
             omega
           . cases hj
         obtain⟨H2,put,num2,o2,e2⟩:=numG.put (n:=n) (nsN z hz).1 (by unfold zp;rw[if_neg nt];exact(nsN z hz).2) (by rw[List.length_map];exact le14)
         refine⟨_,rfl,_,rfl,_,rfl,d,H2,rfl,put,_,rfl,num2.congr λy=>?_,?_⟩
         . unfold zp
           rw[List.take_add_one,ez]
           by_cases e:y=z
           . subst e;rw[if_pos rfl,if_pos (by simp)]
           . rw[if_neg e]
             by_cases m:y∈ns.take i
             . rw[if_pos m,if_pos (List.mem_append_left _ m)]
             . rw[if_neg m,if_neg (by simp [m,e])]
         . rw[e2]
           exact frG.at_d
       . rintro σ' G' ⟨v5',rfl,numG,frG⟩
         rw[List.length_map,List.take_of_length_le (Nat.le_refl _)]at numG
         have numG:=numG.congr (xJ λz hz=>(nsN z hz).2)
         have lrG:=frG _ _ hlr' nrd
         have lG:=frG _ _ hl nld
         have rG:=rnds.fr hd1 frG
         have fr2:=fr.trans frG
         have blt:=Wg (n:=n) nsN ne
         refine⟨_,rfl,.inl ⟨rfl,_,.of lrG⟩,_,rfl,lr,_,_,rfl,rfl,lrG,by rw[List.length_map,rnds.1];exact qo (by omega),?_⟩
         have e5:ps.map V.ref++[V.ref l]=(ps++[l]).map V.ref:=by rw[List.map_append];rfl
         rw[e5]
         have fr3:Fr H d (upd G' lr (.lst ((ps++[l]).map V.ref))):=fr2.own hlr
         have r3:qX (upd G' lr (.lst ((ps++[l]).map V.ref))) (ps++[l]) (ls++[ns]):=by
           refine qX.snoc ⟨rG.1,λi p x e1 e2=>?_⟩ (by rw[qg nl];exact lG)
           rw[qg (np p (List.mem_of_getElem? e1))]
           exact rG.2 i p x e1 e2
         have lr3:upd G' lr (.lst ((ps++[l]).map V.ref)) lr=some (.lst ((ps++[l]).map V.ref)):=qd
         have num3:jd (rs.map (·.1)) (upd G' lr (.lst ((ps++[l]).map V.ref))) d (qB (R1++[(n,ns)])):=⟨let ⟨kvs,a,b⟩:=numG.at_;⟨kvs,by rw[qg (Ne.symm nrd)];exact a,b⟩⟩
         generalize upd G' lr (.lst ((ps++[l]).map V.ref))=G3 at fr3 r3 lr3 num3 ⊢
         refine⟨_,rfl,_,rfl,_,rfl,g,d,rs,qB (R1++[(n,ns)]),n,rfl,gr.fr ⟨kv0,hd0⟩ ap fr3,good,le14,num3,λH4 l4 s4 hl4 hl4'=>?_⟩
         have eR:R++(ls++[ns]).map (λx=>(n,x))=R1++[(n,ns)]:=by rw[wS,hR1]
         refine⟨⟨v5',l4,ps++[l],ls++[ns],rfl,fr3.same s4,s4 _ _ lr3,r3.mono s4,?_,?_,?_,(λe=>by rw[e,lr3]at hl4;cases hl4),?_,?_,?_,?_⟩,?_⟩
         . rw[eR];exact num3.mono s4
         . rw[eR];exact hl4'
         . rw[eR];exact λR' h=>gv R' (.more rnd ne h)
         . intro p hp
           rcases List.mem_append.mp hp with hp | hp
           . exact np p hp
           . rw[List.mem_singleton.mp hp];exact nl
         . obtain⟨kv3,hd3⟩:=num3.isd
           exact fr3.fresh hd3 hl4
         . intro p hp
           rcases List.mem_append.mp hp with hp | hp
           . exact p0 p hp
           . rw[List.mem_singleton.mp hp];exact l0
         . rw[eR,List.length_append,List.length_singleton]
           omega
         . rw[(num3.mono s4).bare,num.bare]
           exact blt
   . rintro σ H' Q Q' h ⟨v,e,p,ys,e2,h1,i,j,e3,e4,b,e5,h2⟩
     exact⟨v,e,p,ys,e2,h1,i,j,e3,e4,b,e5,h _ _ h2⟩
end
end Rh
set_option Elab.async false
set_option linter.all false
set_option maxRecDepth 100000
set_option maxHeartbeats 4000000
namespace Rh
open PySem L2 PyProof.Rows MLab
theorem xH {G:Str->List Str} {N:List Str} {n:Nat} {R R':Rs Str} (h:j0 G N n R R'):(R'=R/\Wl G N R n [])\/R.length < R'.length:=by
 induction h with
 | stop r=>exact .inl ⟨rfl,r⟩
 | more r ne k ih=>
   right
   rcases ih with ⟨e,_⟩ | lt
   . rw[e,List.length_append];exact Nat.lt_succ_self _
   . rw[List.length_append]at lt
     exact Nat.lt_of_succ_lt lt
theorem ko {G:Str->List Str} {N:List Str} {n:Nat} {R:Rs Str} (h:j0 G N n R R):Wl G N R n []:=by
 rcases xH h with ⟨_,r⟩ | lt
 . exact r
 . exact absurd lt (Nat.lt_irrefl _)
structure U6 (N:List Str) (R:Rs Str):Prop where
 sub:∀r∈R,∀z∈r.2,z∈N
 dis:R.Pairwise λr r'=>∀z∈r.2,z∉r'.2
 ne:∀r∈R,r.2≠[]
 srt:∀r∈R,r.2.Sublist N
theorem U6.nil {N:List Str}:U6 N []:=⟨λ_ h=>(nomatch h),List.Pairwise.nil,λ_ h=>(nomatch h),λ_ h=>(nomatch h)⟩
theorem U6.more {G:Str->List Str} {N:List Str} {R:Rs Str} {n:Nat} {ns:List Str} (o:U6 N R) (r:Wl G N R n ns) (ne:ns≠[]):U6 N (R++[(n,ns)]):=by
 refine⟨λx hx z hz=>?_,List.pairwise_append.mpr ⟨o.dis,List.pairwise_singleton _ _,λa ha b hb z hz hb'=>?_⟩,λx hx=>?_,λx hx=>?_⟩
 . rcases List.mem_append.mp hx with hx | hx
   . exact o.sub x hx z hz
   . rw[List.mem_singleton.mp hx]at hz
     exact((r.iff z).mp hz).1
 . rw[List.mem_singleton.mp hb]at hb'
   exact QQ.mp ((r.iff z).mp hb').2.1 a ha hz
 . rcases List.mem_append.mp hx with hx | hx
   . exact o.ne x hx
   . rw[List.mem_singleton.mp hx];exact ne
 . rcases List.mem_append.mp hx with hx | hx
   . exact o.srt x hx
   . rw[List.mem_singleton.mp hx];exact r.sub
theorem WT {G:Str->List Str} {N:List Str} {n:Nat} {R R':Rs Str} (h:j0 G N n R R'):U6 N R->U6 N R':=by
 induction h with
 | stop r=>exact id
 | more r ne k ih=>exact λo=>ih (o.more r ne)
theorem u8 {G:Str->List Str} {N:List Str} {n:Nat} {R R':Rs Str} (h:All G N n R R'):U6 N R->U6 N R':=by
 induction h with
 | stop r=>exact id
 | more g ne k ih=>exact λo=>ih (WT g o)
theorem kq {rs:ja} {n:Nat} {R R':Rs Str} (h:j0 (Qp rs) (rs.map (·.1)) n R R'):j4 rs (qB R')<=j4 rs (qB R)/\(R'≠R->j4 rs (qB R') < j4 rs (qB R)):=by
 induction h with
 | stop r=>exact⟨Nat.le_refl _,λe=>absurd rfl e⟩
 | more r ne k ih=>
   have:=Wg (λz hz=>let ⟨a,b,_⟩:=(r.iff z).mp hz;⟨a,b⟩) ne (n:=n) (rs:=rs)
   exact⟨by omega,λ_=>by omega⟩
theorem UE {N:List Str}:∀{R:Rs Str},U6 N R->R.length<=N.length:=λ{R} o=>by
 have key:∀R:Rs Str,(R.Pairwise λr r'=>∀z∈r.2,z∉r'.2)->(∀r∈R,r.2≠[])->∃zs:List Str,zs.length=R.length/\zs.Nodup/\∀z∈zs,∃r∈R,z∈r.2:=by
   intro R
   induction R with
   | nil=>exact λ_ _=>⟨[],rfl,List.nodup_nil,λz h=>(nomatch h)⟩
   | cons r R ih=>
     intro p ne
     obtain⟨zs,l,nd,sub⟩:=ih (List.pairwise_cons.mp p).2 (λx hx=>ne x (List.mem_cons_of_mem _ hx))
     obtain⟨z,t,e⟩:=List.exists_cons_of_ne_nil (ne r List.mem_cons_self)
     have hz:z∈r.2:=by rw[e];exact List.mem_cons_self
     refine⟨z::zs,by simp [l],List.nodup_cons.mpr ⟨λm=>?_,nd⟩,λy hy=>?_⟩
     . obtain⟨r',hr',hz'⟩:=sub z m
       exact(List.pairwise_cons.mp p).1 r' hr' z hz hz'
     . rcases List.mem_cons.mp hy with rfl | hy
       . exact⟨r,List.mem_cons_self,hz⟩
       . obtain⟨r',hr',h⟩:=sub y hy
         exact⟨r',List.mem_cons_of_mem _ hr',h⟩
 obtain⟨zs,l,nd,sub⟩:=key R o.dis o.ne
 rw[<-l]
 exact Ql nd λz hz=>let ⟨r,hr,h⟩:=sub z hz;o.sub r hr z h
def XD (CG:Addr):Sp:=λvs H Q _=>∃(g d:Addr) (rs:ja),vs=[.ref g,.ref d]/\jZ CG H g rs/\qy rs/\rs.length<=14/\jd (rs.map (·.1)) H d (qB [])/\Xs CG H g d/\
 ∀H' l ps R,H l=none->H' l=some (.lst (ps.map V.ref))->qX H' ps (R.map (·.2))->(∀p∈ps,H p=none)->jd (rs.map (·.1)) H' d (qB R)->All (Qp rs) (rs.map (·.1)) 0 [] R->Fr H d H'->Q (.ref l) H'
section
variable {P:Program} {w:World} {K:PySem.W.Frag} {mg:Str->Option Value} {base:Heap}
abbrev Gn:List Str:=["ground","numbered","rounds","number","more"]
abbrev Yj:List Str:=["ground","numbered"]
theorem JX:qv Gn Yj (qk XN):=⟨rfl,rfl,rfl,by decide+kernel,rfl,by decide+kernel,by decide+kernel⟩
theorem WO {f fB fL fG fR fV CG:Addr} {fd fdB fdL fdG fdR fdV:FuncData} (F:jQ K "give_numbers" "give_numbers" XN f fd) (B:Jc mg) (G:Qk mg) (T:QL K mg) (M:GM K mg CG) (hB:je K mg "numbers_behind" Kr x8 fB fdB) (hL:je K mg "lacking" j6 ["numbers"] fL fdL) (hG:je K mg "gets_number" Ya Yk fG fdG)
   (hR:je K mg "round_of" ZT QE fR fdR) (hV:je K mg "give_number" WD QE fV fdV):qp P w K mg base qM 7 f fd Yj (XD CG):=by
 have GV:qp P w K mg base qM 6 fV fdV QE (kX CG):=uk hV.fn B G T M hB hL hG hR
 refine F.okJ JX (λvs H Q E h=>?_) (λcdv A outer s H vs Q E hr h=>?_)
 . obtain⟨g,d,rs,rfl,_⟩:=h
   rfl
 . obtain⟨g,d,rs,rfl,gr,good,le14,hd,ap,q⟩:=h
   have hu:=jA hr
   refine⟨_,qe (qw (i:=2) JX.nd rfl (Or.inl rfl) (jE qf))
     (qe (qw (i:=3) JX.nd rfl (Or.inl rfl) qi)
     (qe (qw (i:=4) JX.nd rfl (Or.inl rfl) (qJ hV GV hr (by rfl) (qb (jv 0) (qb (jv 1) (qb (jv 3) qf)))))
     (qe (JN PassesOwn.never (qu Y8 (qE jp (by rfl) B.len boot_len (qb (jv 4) qf)) qi (qz _))
       (qe (qY (zg PySem.F.plainAttrs_list PySem.F.slot_list_extend PySem.F.type_list_extend vR (jv 2) (qb (jv 4) qf)))
       (qe (xo (i:=3) JX.nd rfl (Or.inl rfl) qi xy)
       (qh (qw (i:=4) JX.nd rfl (Or.inl rfl) (qJ hV GV hr (by rfl) (qb (jv 0) (qb (jv 1) (qb (jv 3) qf)))))))))
     (qh (qA (jv 2)))))),?_⟩
   refine⟨by show 0<=sizeLine;decide,λlr hlr=>?_⟩
   have sr:Same H (upd H lr (.lst [])):=qj hlr
   obtain⟨kv0,hd0⟩:=hd.isd
   have nrd:lr≠d:=λe=>by rw[e,hd0]at hlr;cases hlr
   have apm:∀{H':Hp},Fr H d H'->Xs CG H' g d:=λfr dx lo rd h=>by
     obtain⟨dx',lo',rd',kvs',h1,_⟩:=gr
     have:=fr _ _ h1 (λe=>by rw[e,hd0]at h1;cases h1)
     rw[h]at this
     cases this
     exact ap _ _ _ h1
   have fr0:Fr H d (upd H lr (.lst [])):=Fr.refl.own hlr
   refine⟨_,rfl,_,rfl,_,rfl,g,d,rs,[],0,rfl,gr.mono sr,good,le14,hd.mono sr,apm fr0,λH1 l1 ps1 ls1 hl1 hl1' rn1 pn1 num1 gv1 fr1=>?_⟩
   refine Jw (λσ H'=>∃(l:Addr) (n:Nat) (ps ps1:List Addr) (R:Rs Str) (ls:List (List Str)),σ=[some (.ref g),some (.ref d),some (.ref lr),some (.int (n:Nat)),some (.ref l)]/\Fr H d H'/\H' lr=some (.lst (ps.map V.ref))/\qX H' ps (R.map (·.2))/\H' l=some (.lst (ps1.map V.ref))/\qX H' ps1 ls/\
       jd (rs.map (·.1)) H' d (qB (R++ls.map λx=>(n,x)))/\j0 (Qp rs) (rs.map (·.1)) n R (R++ls.map λx=>(n,x))/\(∀R',All (Qp rs) (rs.map (·.1)) n R R'->All (Qp rs) (rs.map (·.1)) 0 [] R')/\l≠lr/\(∀p∈ps,p≠lr/\H p=none)/\(∀p∈ps1,p≠lr/\H p=none)/\U6 (rs.map (·.1)) R)
     (λσ H'=>QK (rs.map (·.1)) H' d*2+(match σ with | [_,_,_,_,some (.ref l)]=>(match H' l with | some (.lst (_::_))=>1 | _=>0) | _=>0))
     ⟨l1,0,[],ps1,[],ls1,rfl,fr0.trans fr1,fr1 _ _ qd nrd,.nil,hl1',rn1,num1,gv1,λR' h=>h,(λe=>by rw[e,qd]at hl1;cases hl1),λp h=>(nomatch h),?_,.nil⟩ ?_ ?_
   . intro p hp
     have h1:=pn1 p hp
     have h2:p≠lr:=λe=>by rw[e,qd]at h1;cases h1
     exact⟨h2,by rw[qg h2]at h1;exact h1⟩
   . rintro σ H' ⟨l,n,ps,ps1,R,ls,rfl,fr,hlr',rnds,hl,rn,num,gv,al,nl,np,np1,od⟩
     obtain⟨kv1,hd1⟩:=num.isd
     have od':=WT gv od
     have ol:=UE od'
     rw[List.length_append,List.length_map,List.length_map]at ol
     refine⟨_,rfl,l,_,rfl,.inl (.of hl),_,_,rfl,rfl,_,rfl,?_⟩
     rw[List.length_map]
     cases c:ls with
     | nil=>
       subst c
       have e0:ps1=[]:=List.eq_nil_of_length_eq_zero rn.1
       subst e0
       rw[List.map_nil,List.append_nil]at gv num
       refine jJ (by decide) ⟨_,rfl,?_⟩
       exact q H' lr ps R hlr hlr' rnds (λp hp=>(np p hp).2) num (al R (.stop (ko gv))) fr
     | cons x0 rest=>
       have ne:ls≠[]:=by rw[c];simp
       clear c
       have lp:ps1.length=ls.length:=rn.1
       have pos:=List.length_pos_iff.mpr ne
       refine jI (decide_eq_true (by show (0:Int) < (ps1.length:Int);omega)) ?_
       refine⟨_,rfl,.inl ⟨rfl,_,.of hlr'⟩,_,rfl,lr,l,_,_,rfl,rfl,hlr',hl,?_,?_⟩
       . rw[List.length_map,List.length_map,rnds.1,List.length_map,lp]
         exact Nat.le_of_lt (qo (by omega))
       . have e5:ps.map V.ref++ps1.map V.ref=(ps++ps1).map V.ref:=by rw[List.map_append]
         rw[e5]
         have fr3:Fr H d (upd H' lr (.lst ((ps++ps1).map V.ref))):=fr.own hlr
         have lr3:upd H' lr (.lst ((ps++ps1).map V.ref)) lr=some (.lst ((ps++ps1).map V.ref)):=qd
         have r3:qX (upd H' lr (.lst ((ps++ps1).map V.ref))) (ps++ps1) ((R++ls.map λx=>(n,x)).map (·.2)):=by
           have ee:(R++ls.map λx=>(n,x)).map (·.2)=R.map (·.2)++ls:=by
             rw[List.map_append,List.map_map]
             congr 1
             exact List.map_id ls
           rw[ee]
           refine qX.app ⟨rnds.1,λi p x e1 e2=>?_⟩ ⟨rn.1,λi p x e1 e2=>?_⟩
           . rw[qg (np p (List.mem_of_getElem? e1)).1]
             exact rnds.2 i p x e1 e2
           . rw[qg (np1 p (List.mem_of_getElem? e1)).1]
             exact rn.2 i p x e1 e2
         have num3:jd (rs.map (·.1)) (upd H' lr (.lst ((ps++ps1).map V.ref))) d (qB (R++ls.map λx=>(n,x))):=⟨let ⟨kvs,a,b⟩:=num.at_;⟨kvs,by rw[qg (Ne.symm nrd)];exact a,b⟩⟩
         have neR:R++ls.map (λx=>(n,x))≠R:=λe=>by
           have:=congrArg List.length e
           rw[List.length_append,List.length_map]at this
           omega
         generalize R++ls.map (λx=>(n,x))=R1 at*
         generalize upd H' lr (.lst ((ps++ps1).map V.ref))=G3 at fr3 r3 lr3 num3 ⊢
         obtain⟨kv3,hd3⟩:=num3.isd
         refine⟨_,rfl,_,_,rfl,rfl,?_⟩
         refine⟨_,rfl,_,rfl,_,rfl,g,d,rs,R1,n+1,rfl,gr.fr ⟨kv0,hd0⟩ ap fr3,good,le14,num3,apm fr3,λH4 l4 ps4 ls4 hl4 hl4' rn4 pn4 num4 gv4 fr4=>?_⟩
         refine⟨⟨l4,n+1,ps++ps1,ps4,R1,ls4,rfl,fr3.trans fr4,fr4 _ _ lr3 nrd,r3.fr hd3 fr4,hl4',rn4,num4,gv4,λR' h=>al R' (.more gv neR h),(λe=>by rw[e,lr3]at hl4;cases hl4),?_,?_,od'⟩,?_⟩
         . intro p hp
           rcases List.mem_append.mp hp with hp | hp
           . exact np p hp
           . exact np1 p hp
         . intro p hp
           have h1:=pn4 p hp
           refine⟨(λe=>by rw[e,lr3]at h1;cases h1),?_⟩
           cases h2:H p with
           | none=>rfl
           | some u=>
             by_cases c:p=d
             . rw[c,hd3]at h1;cases h1
             . rw[fr3 _ _ h2 c]at h1;cases h1
         . show QK (rs.map (·.1)) H4 d*2+(match H4 l4 with | some (.lst (_::_))=>1 | _=>0) < QK (rs.map (·.1)) H' d*2+(match H' l with | some (.lst (_::_))=>1 | _=>0)
           have gb:=kq gv4
           rw[num4.bare,num.bare,hl4',hl]
           obtain⟨p1,t1,e1⟩:=List.exists_cons_of_length_pos (by omega:0 < ps1.length)
           rw[e1]
           show _ < j4 rs (qB R1)*2+1
           cases ls4 with
           | nil=>
             have e0:ps4=[]:=List.eq_nil_of_length_eq_zero rn4.1
             rw[e0]
             show _+0 < _
             have:=gb.1
             omega
           | cons x4 t4=>
             have:=gb.2 λe=>by
               have:=congrArg List.length e
               rw[List.length_append,List.length_map]at this
               simp at this
             have le1:(match (some (HO.lst (ps4.map V.ref)):Option HO) with | some (.lst (_::_))=>1 | _=>0)<=1:=by split<;>omega
             omega
   . rintro σ H' Q Q' h ⟨v,e,p,ys,e2,h1,i,j,e3,e4,b,e5,h2⟩
     exact⟨v,e,p,ys,e2,h1,i,j,e3,e4,b,e5,h _ _ h2⟩
end
end Rh
set_option Elab.async false
set_option linter.all false
set_option maxRecDepth 100000
set_option maxHeartbeats 4000000
namespace Rh
open PySem L2 PyProof.Rows MLab
def YN (R:Rs Str) (i:Nat):Str->Option Nat:=λz=>(qB (R.take i) z).map λ_=>jD R z
theorem Vu {N:List Str} {R:Rs Str} (o:U6 N R) {i:Nat} {r:Nat×List Str} {z:Str} (hr:R[i]?=some r) (hz:z∈r.2):jD R z=i:=by
 obtain⟨hi,er⟩:=List.getElem?_eq_some_iff.mp hr
 unfold jD
 rw[List.findIdx_eq hi]
 refine⟨by rw[er];exact decide_eq_true hz,λj hj=>decide_eq_false λm=>?_⟩
 have:=List.pairwise_iff_getElem.mp o.dis j i (by omega) hi hj z m
 rw[er]at this
 exact this hz
theorem Ww {N:List Str} {R:Rs Str} (o:U6 N R) {i:Nat} {r:Nat×List Str} {z:Str} (hr:R[i]?=some r) (hz:z∈r.2):YN R i z=none:=by
 unfold YN
 have:qB (R.take i) z=none:=QQ.mpr λx hx m=>by
   obtain⟨j,hj⟩:=List.getElem?_of_mem hx
   rw[List.getElem?_take]at hj
   split at hj
   . have h1:=Vu o hj m
     have h2:=Vu o hr hz
     omega
   . cases hj
 rw[this]
 rfl
theorem vh {N:List Str} {R:Rs Str} (o:U6 N R) {i:Nat} {r:Nat×List Str} (hr:R[i]?=some r) (z:Str):zp (YN R i) i r.2 z=YN R (i+1) z:=by
 unfold zp
 by_cases c:z∈r.2
 . rw[if_pos c]
   have n:=Ww o hr c
   unfold YN at n ⊢
   have n':qB (R.take i) z=none:=by
     cases e:qB (R.take i) z with
     | none=>rfl
     | some m=>rw[e]at n;cases n
   rw[List.take_add_one,hr]
   show _=(qB (R.take i++[(r.1,r.2)]) z).map _
   rw[US n' c,Vu o hr c]
   rfl
 . rw[if_neg c]
   unfold YN
   rw[List.take_add_one,hr]
   show _=(qB (R.take i++[(r.1,r.2)]) z).map _
   rw[Ja]
   cases qB (R.take i) z with
   | some m=>rfl
   | none=>
     show _=Option.map _ (if z∈r.2 then some r.1 else none)
     rw[if_neg c]
theorem kQ (R:Rs Str) (z:Str):YN R R.length z=(qB R z).map λ_=>jD R z:=by
 unfold YN
 rw[List.take_of_length_le (Nat.le_refl _)]
def js (rs:ja) (R:Rs Str) (z:Str):List V:=match qB R z with
 | some n=>[.str "number",.int (n:Nat),.int (jD R z:Nat)]
 | none=>[.str "endless",.int (Rb.setN (j8 rs (qB R) z):Nat)]
structure JV (H:Hp) (D:Addr) (rs:ja) (R:Rs Str):Prop where
 at_:∃kvs:List (qD×V),H D=some (.dK kvs)/\kvs.map (·.1)=(rs.map (·.1)).map Sum.inr/\∀r∈rs,∃t,qQ kvs (Sum.inr r.1:qD)=some (.ref t)/\H t=some (.tup (js rs R r.1))
theorem JV.mono {H H':Hp} {D:Addr} {rs:ja} {R:Rs Str} (h:JV H D rs R) (s:Same H H'):JV H' D rs R:=⟨let ⟨kvs,a,b,c⟩:=h.at_;⟨kvs,s _ _ a,b,λr hr=>let ⟨t,u,v⟩:=c r hr;⟨t,u,s _ _ v⟩⟩⟩
theorem Uf:∀(n:Nat) (L:List Nat),(∀m,m<=n->m∈L)->n*(n+1)<=2*L.sum
 | 0,_,_=>by simp
 | n+1,L,h=>by
   have hm:=h (n+1) (Nat.le_refl _)
   have ih:=Uf n (L.erase (n+1)) λm hm'=>(List.mem_erase_of_ne (by omega)).mpr (h m (by omega))
   have es:L.sum=(n+1)+(L.erase (n+1)).sum:=by
     have:=(List.perm_cons_erase hm).sum_nat
     rw[this,List.sum_cons]
   rw[es]
   have:(n+1)*(n+1+1)=n*(n+1)+2*(n+1):=by
     rw[Nat.mul_comm,<-Nat.add_mul]
   omega
theorem Wv {α:Type} {f g:α->Nat}:∀{l:List α},(∀x∈l,f x<=g x)->(l.map f).sum<=(l.map g).sum
 | [],_=>Nat.le_refl _
 | a::l,h=>by
   rw[List.map_cons,List.map_cons,List.sum_cons,List.sum_cons]
   have:=h a List.mem_cons_self
   have:=Wv (l:=l) λx hx=>h x (List.mem_cons_of_mem _ hx)
   omega
theorem G7 {rs:ja} (hn:(rs.map (·.1)).Nodup) (z:Str):(Qp rs z).Nodup:=by
 unfold Qp
 split
 . exact hn.sublist List.filter_sublist
 . exact List.nodup_nil
theorem Yn {rs:ja} (good:qy rs) {num:Str->Option Nat} {stp:Str->Nat} (L:Kb (Qp rs) (·∈rs.map (·.1)) num stp) {x:Str} {n:Nat} (hx:x∈rs.map (·.1)) (e:num x=some n):n<=8:=by
 have h1:∀m,m<=n->m∈rs.map λr=>(num r.1).getD 0:=λm hm=>by
   rcases Nat.lt_or_ge m n with c | c
   . obtain⟨y,hy,ey,_⟩:=L.n1 hx e c
     obtain⟨r,hr,rfl⟩:=List.mem_map.mp (L.cl hx hy)
     exact List.mem_map.mpr ⟨r,hr,by rw[ey];rfl⟩
   . have:m=n:=by omega
     subst this
     obtain⟨r,hr,rfl⟩:=List.mem_map.mp hx
     exact List.mem_map.mpr ⟨r,hr,by rw[e];rfl⟩
 have h2:=Uf n _ h1
 have h3:(rs.map λr=>(num r.1).getD 0).sum<=(rs.map λr=>r.2.length).sum:=Wv λr hr=>by
   cases c:num r.1 with
   | none=>exact Nat.zero_le _
   | some m=>
     show m<=_
     have hr':r.1∈rs.map (·.1):=List.mem_map.mpr ⟨r,hr,rfl⟩
     have:(List.range m).length<=((Qp rs r.1).filterMap num).length:=Ql List.nodup_range λj hj=>by
       obtain⟨y,hy,ey,_⟩:=L.n1 hr' c (List.mem_range.mp hj)
       exact List.mem_filterMap.mpr ⟨y,hy,ey⟩
     rw[List.length_range]at this
     have h4:=List.length_filterMap_le num (Qp rs r.1)
     have h5:(Qp rs r.1).length<=r.2.length:=Ql (G7 good.nd _) λy hy=>(UQ good hr).mp hy
     omega
 have h4:=good.few
 rcases Nat.lt_or_ge 8 n with c | c
 . have:9*10<=n*(n+1):=Nat.mul_le_mul c (by omega)
   omega
 . exact c
def Zv (CG:Addr):Sp:=λvs H Q _=>∃(g:Addr) (rs:ja),vs=[.ref g]/\jZ CG H g rs/\qy rs/\rs.length<=14/\
 ∀H' D R,Same H H'->H D=none->JV H' D rs R->All (Qp rs) (rs.map (·.1)) 0 [] R->Q (.ref D) H'
section
variable {P:Program} {w:World} {K:PySem.W.Frag} {mg:Str->Option Value} {base:Heap}
abbrev nLb:List Str:=["ground","numbered","steps","step","names","name","labels"]
theorem WB:qv nLb ["ground"] (qk zz):=⟨rfl,rfl,rfl,by decide+kernel,rfl,by decide+kernel,by decide+kernel⟩
structure V5 (K:PySem.W.Frag) (mg:Str->Option Value):Prop where
 lack:∃f fd,je K mg "lacking" j6 ["numbers"] f fd
 seto:∃f fd,je K mg "set_of" XJ ["numbers"] f fd
 nb:∃f fd,je K mg "numbers_behind" Kr x8 f fd
 gets:∃f fd,je K mg "gets_number" Ya Yk f fd
 round:∃f fd,je K mg "round_of" ZT QE f fd
 give:∃f fd,je K mg "give_number" WD QE f fd
 gives:∃f fd,je K mg "give_numbers" XN Yj f fd
 labels:∃f fd,je K mg "labels_of" zz ["ground"] f fd
theorem ZW {f CG:Addr} {fd:FuncData} (F:jQ K "labels_of" "labels_of" zz f fd) (B:Jc mg) (G:Qk mg) (T:QL K mg) (M:GM K mg CG) (Y:V5 K mg):qp P w K mg base qM 8 f fd ["ground"] (Zv CG):=by
 obtain⟨fL,fdL,hL⟩:=Y.lack
 obtain⟨fS,fdS,hS⟩:=Y.seto
 obtain⟨fB,fdB,hB⟩:=Y.nb
 obtain⟨fG,fdG,hG⟩:=Y.gets
 obtain⟨fR,fdR,hR⟩:=Y.round
 obtain⟨fV,fdV,hV⟩:=Y.give
 obtain⟨fW,fdW,hW⟩:=Y.gives
 have GW:qp P w K mg base qM 7 fW fdW Yj (XD CG):=WO hW.fn B G T M hB hL hG hR hV
 have GB:qp P w K mg base qM 3 fB fdB x8 (wC CG):=Kx hB.fn B G T M
 have GS:qp P w K mg base qM 1 fS fdS ["numbers"] (Uh K):=yN hS.fn
 obtain⟨fC,fdC,C⟩:=M.cls
 obtain⟨fM,fdM,hM⟩:=M.nm
 have GM:qp P w K mg base qM 1 fM fdM ["self"] (Jy CG):=J2 hM.fn C G
 refine F.okJ WB (λvs H Q E h=>?_) (λcdv A outer s H vs Q E hr h=>?_)
 . obtain⟨g,rs,rfl,_⟩:=h
   rfl
 . obtain⟨g,rs,rfl,gr,good,le14,q⟩:=h
   have hu:=jA hr
   have r1:q5 1 _:=hr.mono (by decide)
   have r3:q5 3 _:=hr.mono (by decide)
   refine⟨_,qe (qw (i:=1) WB.nd rfl (Or.inl rfl) jO)
     (qe (qw (i:=2) WB.nd rfl (Or.inl rfl) jO)
     (qe (qT PassesOwn.never rfl (X5 (by rfl) T.enu (qb (qJ hW GW hr (by rfl) (qb (jv 0) (qb (jv 1) qf))) qf)) (Zl rfl (jn (qt (i:=3) WB.nd rfl (Or.inl rfl)) (jn (qt (i:=4) WB.nd rfl (Or.inl rfl)) Jl)))
       (qh (qT PassesOwn.never rfl (qO (jv 4)) (qt (i:=5) WB.nd rfl (Or.inl rfl)) (qh (jl hu (jv 2) (jv 5) (jv 3) rfl)))))
     (qe (qw (i:=6) WB.nd rfl (Or.inl rfl) jO)
     (qe (qT PassesOwn.never rfl (qO (UM hM C.cl GM r1 (jv 0))) (qt (i:=5) WB.nd rfl (Or.inl rfl))
       (qh (qL (jX (QX hu (jv 5) (jv 1)))
         (qh (jl hu (jv 6) (jv 5) (jN (qb qS (qb (qG hu (jv 1) (jv 5) (λ_ _=>rfl)) (qb (qG hu (jv 2) (jv 5) (λ_ _=>rfl)) qf)))) rfl))
         (qh (jl hu (jv 6) (jv 5) (jN (qb qS (qb (qJ hS GS r1 (by rfl) (qb (qJ hB GB r3 (by rfl) (qb (jv 0) (qb (jv 1) (qb (jv 5) qf)))) qf)) qf))) rfl)))))
     (qh (qA (jv 6))))))),?_⟩
   intro d hd st hst
   have s1:Same H (upd H d (.dK [])):=qj hd
   have s2:Same H (upd (upd H d (.dK [])) st (.dK [])):=s1.trans (qj hst)
   have hd2:upd (upd H d (.dK [])) st (.dK []) d=some (.dK []):=qm qd hst
   have hst2:upd (upd H d (.dK [])) st (.dK []) st=some (.dK []):=qd
   have nds:d≠st:=λe=>by rw[<-e,qd]at hst;cases hst
   have hs0:H st=none:=qW s1 hst
   generalize upd (upd H d (.dK [])) st (.dK [])=H2 at s2 hd2 hst2
   have num0:∀{a:Addr},H2 a=some (.dK [])->jd (rs.map (·.1)) H2 a (qB []):=λh=>⟨[],h,λz=>rfl,List.nodup_nil,λk h=>(nomatch h)⟩
   have ap:∀{H':Hp} {a:Addr},Same H H'->H a=none->Xs CG H' g a:=λsH ha dx lo rd h=>by
     obtain⟨dx',lo',rd',kvs',h1,_,h3,_⟩:=gr
     have:=sH _ _ h1
     rw[h]at this
     cases this
     exact λe=>by rw[e,ha]at h3;cases h3
   refine⟨_,rfl,_,rfl,g,d,rs,rfl,gr.mono s2,good,le14,num0 hd2,ap s2 hd,λH3 l3 ps R hl3 hl3' rnds _ num all fr3=>?_⟩
   have od:=u8 all .nil
   have oL:=UE od
   rw[List.length_map]at oL
   have s3:Same H H3:=λb u h=>fr3 b u (s2 _ _ h) (ql h hd)
   have st3:H3 st=some (.dK []):=fr3 _ _ hst2 (Ne.symm nds)
   obtain⟨kvd,hd3⟩:=num.isd
   have nl3:l3≠st:=λe=>by rw[e,hst2]at hl3;cases hl3
   have L:=xj (JR good.nd) all
   refine⟨l3,rfl,⟨_,.of hl3'⟩,?_⟩
   refine WW (K:=K) (a:=l3) (xs:=ps.map V.ref) (λi σ' G'=>∃v3 v4 v5,σ'=[some (.ref g),some (.ref d),some (.ref st),v3,v4,v5,none]/\jd (rs.map (·.1)) G' st (YN R i)/\Fr H3 st G')
     ⟨none,none,none,rfl,⟨[],st3,λz=>rfl,List.nodup_nil,λk h=>(nomatch h)⟩,Fr.refl⟩ (λi σ' G' _ ⟨_,_,_,_,_,f⟩=>.of (f _ _ hl3' nl3)) ?_ ?_
   . rintro i x σ' G' p hx hp ⟨v3,v4,v5,rfl,VG,frS⟩
     rw[List.getElem?_map]at hx
     cases ep:ps[i]? with
     | none=>rw[ep]at hx;cases hx
     | some pi=>
       rw[ep]at hx
       obtain rfl:=(Option.some.inj hx).symm
       have li:i < R.length:=by
         have:=(List.getElem?_eq_some_iff.mp ep).1
         have:=rnds.1
         rw[List.length_map]at this
         omega
       obtain⟨r,er⟩:∃r,R[i]?=some r:=⟨_,List.getElem?_eq_getElem li⟩
       have hpi:=rnds.2 i pi r.2 ep (by rw[List.getElem?_map,er];rfl)
       have npi:pi≠st:=λe=>by rw[e,st3]at hpi;cases hpi
       have sp:Same G' (upd G' p (.tup [.int (i:Nat),V.ref pi])):=qj hp
       have frp:Fr H3 st (upd G' p (.tup [.int (i:Nat),V.ref pi])):=frS.same sp
       have rN:∀z∈r.2,z∈rs.map (·.1):=od.sub r (List.mem_of_getElem? er)
       refine⟨p,_,rfl,.of qd,rfl,_,_,rfl,_,_,rfl,rfl,?_⟩
       have hpp:∀{G2:Hp},Fr H3 st G2->G2 pi=some (.lst (r.2.map V.str)):=λf=>f _ _ hpi npi
       have num1:=VG.mono sp
       generalize upd G' p (.tup [.int (i:Nat),V.ref pi])=G1 at sp frp num1
       refine⟨_,rfl,pi,rfl,⟨_,.of (hpp frp)⟩,?_⟩
       have rnd:r.2.Nodup:=good.nd.sublist (od.srt r (List.mem_of_getElem? er))
       refine jo (K:=K) (a:=pi) (xs:=r.2.map V.str) (λj σ'' G2=>∃v5,σ''=[some (.ref g),some (.ref d),some (.ref st),some (.int (i:Nat)),some (.ref pi),v5,none]/\jd (rs.map (·.1)) G2 st (zp (YN R i) i (r.2.take j))/\Fr H3 st G2)
         ⟨v5,rfl,num1.congr λz=>by unfold zp;rw[List.take_zero,if_neg (by simp)],frp⟩ (λj σ'' G2 _ ⟨_,_,_,f⟩=>.of (hpp f)) ?_ ?_
       . rintro j y σ'' G2 hy ⟨v5',rfl,numG,frG⟩
         obtain⟨z,ez,hz,rfl⟩:=Je hy
         by_cases nt:z∈r.2.take j
         . exfalso
           obtain⟨j',hj⟩:=List.getElem?_of_mem nt
           rw[List.getElem?_take]at hj
           split at hj
           . have h1:=(List.getElem?_eq_some_iff.mp hj)
             have h2:=(List.getElem?_eq_some_iff.mp ez)
             have:=VI rnd (h1.2.trans h2.2.symm)
             omega
           . cases hj
         . obtain⟨H4,put,num4,o4,e4⟩:=numG.put (n:=i) (rN z hz) (by unfold zp;rw[if_neg nt];exact Ww od er hz) (by rw[List.length_map];exact le14)
           refine⟨_,rfl,_,rfl,_,rfl,st,H4,rfl,put,_,rfl,num4.congr λy=>?_,?_⟩
           . unfold zp
             rw[List.take_add_one,ez]
             by_cases e:y=z
             . subst e;rw[if_pos rfl,if_pos (by simp)]
             . rw[if_neg e]
               by_cases m:y∈r.2.take j
               . rw[if_pos m,if_pos (List.mem_append_left _ m)]
               . rw[if_neg m,if_neg (by simp [m,e])]
           . rw[e4]
             exact frG.at_d
       . rintro σ'' G2 ⟨v5',rfl,numG,frG⟩
         rw[List.length_map,List.take_of_length_le (Nat.le_refl _)]at numG
         exact⟨_,_,_,rfl,numG.congr (vh od er),frG⟩
   . rintro σ' G' ⟨v3,v4,v5,rfl,VG,frS⟩
     rw[List.length_map,rnds.1,List.length_map]at VG
     have VG:=VG.congr (kQ R)
     have sG:Same H G':=λb u h=>frS _ _ (s3 _ _ h) (ql h hs0)
     have numD:jd (rs.map (·.1)) G' d (qB R):=num.fr frS nds
     intro D hD
     have sD:Same G' (upd G' D (.dK [])):=qj hD
     have hD0:H D=none:=qW sG hD
     have hDD:upd G' D (.dK []) D=some (.dK []):=qd
     generalize upd G' D (.dK [])=G1 at sD hDD
     obtain⟨dx,fs,hg,l1,l2⟩:=((gr.mono sG).mono sD).ins
     refine⟨_,rfl,g,dx,fs,rfl,hg,l1,g,rs,rfl,(gr.mono sG).mono sD,λln hln=>⟨ln,rfl,⟨_,.of qd⟩,?_⟩⟩
     have sL:Same G1 (upd G1 ln (.lst ((rs.map (·.1)).map V.str))):=qj hln
     have hL2:upd G1 ln (.lst ((rs.map (·.1)).map V.str)) ln=some (.lst ((rs.map (·.1)).map V.str)):=qd
     have nDl:ln≠D:=λe=>by rw[e,hDD]at hln;cases hln
     generalize upd G1 ln (.lst ((rs.map (·.1)).map V.str))=G2 at sL hL2
     have sG2:Same G' G2:=sD.trans sL
     refine jo (K:=K) (a:=ln) (xs:=(rs.map (·.1)).map V.str) (λi σ' G3=>∃v5 kvs,σ'=[some (.ref g),some (.ref d),some (.ref st),v3,v4,v5,some (.ref D)]/\Fr G2 D G3/\G3 D=some (.dK kvs)/\kvs.map (·.1)=((rs.map (·.1)).take i).map Sum.inr/\
         ∀r∈rs.take i,∃t,qQ kvs (Sum.inr r.1:qD)=some (.ref t)/\G3 t=some (.tup (js rs R r.1)))
       ⟨v5,[],rfl,Fr.refl,sL _ _ hDD,rfl,λr h=>(nomatch h)⟩ (λi σ' G3 _ ⟨_,_,_,f,_⟩=>.of (f _ _ hL2 nDl)) ?_ ?_
     . rintro i y σ' G3 hy ⟨v5',kvs,rfl,fr,hDk,ek,hv⟩
       obtain⟨r,er,hr',rfl⟩:=xa hy
       have hi:=(List.getElem?_eq_some_iff.mp er).1
       have s23:Same G' G3:=λb u h=>fr _ _ (sG2 _ _ h) (ql h hD)
       have sA:=sG.trans s23
       have nm:=numD.mono s23
       have ns:=VG.mono s23
       have lk:kvs.length=i:=by
         have:=congrArg List.length ek
         rw[List.length_map,List.length_map,List.length_take,List.length_map]at this
         omega
       have eN:(rs.map (·.1))[i]?=some r.1:=by rw[List.getElem?_map,er];rfl
       have new:qQ kvs (Sum.inr r.1:qD)=none:=QZ (by rw[ek];exact Qf good.nd eN)
       have fin:∀(G4:Hp) (t:Addr),Fr G2 D G4->G4 D=some (.dK kvs)->Same G3 G4->G4 t=some (.tup (js rs R r.1))->∃H5,QM G4 D (.str r.1) (.ref t) H5/\
           ∃v5 kvs,[some (V.ref g),some (.ref d),some (.ref st),v3,v4,some (.str r.1),some (.ref D)]=[some (.ref g),some (.ref d),some (.ref st),v3,v4,v5,some (.ref D)]/\Fr G2 D H5/\H5 D=some (.dK kvs)/\kvs.map (·.1)=((rs.map (·.1)).take (i+1)).map Sum.inr/\
            ∀r∈rs.take (i+1),∃t,qQ kvs (Sum.inr r.1:qD)=some (.ref t)/\H5 t=some (.tup (js rs R r.1)):=λG4 t f4 h4 s4 ht=>by
         refine⟨_,QM.k (k:=(Sum.inr r.1:qD)) h4 (qo (by omega)),some (.str r.1),jy kvs (Sum.inr r.1) (.ref t),rfl,f4.at_d,qd,?_,λr2 hr2=>?_⟩
         . rw[Qn _ new,List.map_append,ek,List.take_add_one,eN,List.map_append]
           rfl
         . have tD:∀{b:Addr} {xs:List V},G4 b=some (.tup xs)->b≠D:=λhb e=>by rw[e,h4]at hb;cases hb
           rw[List.take_add_one,er]at hr2
           rcases List.mem_append.mp hr2 with h | h
           . obtain⟨t2,a,b⟩:=hv r2 h
             have ne:r2.1≠r.1:=λe=>by rw[e,new]at a;cases a
             refine⟨t2,?_,?_⟩
             . rw[jL,if_neg (λq=>ne (Sum.inr.inj q))];exact a
             . rw[qg (tD (s4 _ _ b))];exact s4 _ _ b
           . have:r2=r:=by simpa using h
             subst this
             refine⟨t,?_,?_⟩
             . rw[jL,if_pos rfl]
             . rw[qg (tD ht)];exact ht
       refine⟨_,rfl,_,rfl,d,_,rfl,nm.get r.1,_,rfl,?_⟩
       cases c:qB R r.1 with
       | some n=>
         have g1:=nm.get r.1
         have g2:=ns.get r.1
         rw[c]at g1 g2
         refine jY ⟨_,rfl,_,rfl,d,_,rfl,g1,_,rfl,_,rfl,st,_,rfl,g2,by show 3<=sizeLine;decide,λt ht=>?_⟩
         have el:js rs R r.1=[.str "number",.int (n:Nat),.int (jD R r.1:Nat)]:=by unfold js;rw[c]
         obtain⟨H5,put,k⟩:=fin (upd G3 t (.tup [.str "number",.int (n:Nat),.int (jD R r.1:Nat)])) t (fr.same (qj ht)) (qm hDk ht) (qj ht) (by rw[el];exact qd)
         exact⟨_,rfl,_,rfl,D,H5,rfl,put,k⟩
       | none=>
         have gN:=L
         refine qZ ⟨_,rfl,_,rfl,_,rfl,g,d,rs,r.1,qB R,rfl,gr.mono sA,good,le14,List.mem_map.mpr ⟨r,hr',rfl⟩,nm,λH4 l4 s4 hl4 hl4'=>?_⟩
         refine⟨l4,_,rfl,.of hl4',λx hx=>?_,by show 2<=sizeLine;decide,λt ht=>?_⟩
         . obtain⟨y,hy,ey⟩:=jP.mp hx
           have:=Yn good L (JR good.nd _ (List.mem_map.mpr ⟨r,hr',rfl⟩) y hy) ey
           omega
         . have el:js rs R r.1=[.str "endless",.int (Rb.setN (j8 rs (qB R) r.1):Nat)]:=by unfold js;rw[c]
           obtain⟨H5,put,k⟩:=fin (upd H4 t (.tup [.str "endless",.int (Rb.setN (j8 rs (qB R) r.1):Nat)])) t ((fr.same s4).same (qj ht)) (qm (s4 _ _ hDk) ht) (s4.trans (qj ht)) (by rw[el];exact qd)
           exact⟨_,rfl,_,rfl,D,H5,rfl,put,k⟩
     . rintro σ' G3 ⟨v5',kvs,rfl,fr,hDk,ek,hv⟩
       rw[List.length_map,List.take_of_length_le (Nat.le_refl _)]at ek
       rw[List.length_map,List.length_map,List.take_of_length_le (Nat.le_refl _)]at hv
       exact⟨_,rfl,q G3 D R (λb u h=>fr _ _ (sG2 _ _ (sG _ _ h)) (ql h hD0)) hD0 ⟨kvs,hDk,ek,hv⟩ all⟩
end
end Rh
set_option Elab.async false
set_option linter.all false
set_option maxRecDepth 100000
set_option maxHeartbeats 4000000
namespace Rh
open PySem L2 PyProof.Rows MLab
abbrev QB:Stmt:=top 58
abbrev Jf:Stmt:=top 59
abbrev JB:Stmt:=top 60
abbrev ZC:Stmt:=top 61
def jT (rs:ja) (z:Str):List Str:=match rs.find? (λr=>decide (r.1=z)) with
 | some r=>r.2
 | none=>[]
theorem Q6 {rs:ja} {r:Str×List Str} (hn:(rs.map (·.1)).Nodup) (h:r∈rs):jT rs r.1=r.2:=by
 unfold jT
 rw[YA hn h]
theorem jM {rs:ja} (g:qy rs) {z y:Str} (hz:z∈rs.map (·.1)):y∈jT rs z↔y∈Qp rs z:=by
 obtain⟨r,hr,rfl⟩:=List.mem_map.mp hz
 rw[Q6 g.nd hr,UQ g hr]
structure KI (H:Hp) (d:Addr) (rs:ja):Prop where
 at_:∃(o:Obj) (kvs:List (qD×V)),H d=some (.frz o (.dK kvs))/\kvs.map (·.1)=(rs.map (·.1)).map Sum.inr/\∀r∈rs,∃q,qQ kvs (Sum.inr r.1:qD)=some (.ref q)/\H q=some (.tup (r.2.map V.str))
theorem KI.mono {H H':Hp} {d:Addr} {rs:ja} (h:KI H d rs) (s:Same H H'):KI H' d rs:=⟨let ⟨o,kvs,a,b,c⟩:=h.at_;⟨o,kvs,s _ _ a,b,λr hr=>let ⟨q,u,v⟩:=c r hr;⟨q,u,s _ _ v⟩⟩⟩
theorem KI.get {H:Hp} {d:Addr} {rs:ja} (h:KI H d rs) (g:qy rs) {z:Str} (hz:z∈rs.map (·.1)):∃q,jB H d (.str z) (some (.ref q))/\H q=some (.tup ((jT rs z).map V.str)):=by
 obtain⟨o,kvs,a,b,c⟩:=h.at_
 obtain⟨r,hr,rfl⟩:=List.mem_map.mp hz
 obtain⟨q,u,v⟩:=c r hr
 refine⟨q,?_,by rw[Q6 g.nd hr];exact v⟩
 rw[<-u]
 exact .inl ⟨kvs,Sum.inr r.1,.inr ⟨o,a⟩,rfl,rfl⟩
theorem zF {rs:ja} (g:qy rs) {z y:Str} (hz:z∈rs.map (·.1)) (hy:y∈jT rs z):y∈rs.map (·.1):=JR g.nd _ hz _ ((jM g hz).mp hy)
theorem xh {rs:ja} (g:qy rs) {z:Str} (hz:z∈rs.map (·.1)):(jT rs z).length<=40:=by
 obtain⟨r,hr,rfl⟩:=List.mem_map.mp hz
 rw[Q6 g.nd hr]
 exact g.two hr
def kn (rs:ja) (f:Str->Option Nat) (z:Str):List Nat:=(jT rs z).filterMap f
theorem VQ {rs:ja} {f:Str->Option Nat} {z:Str} {n:Nat}:n∈kn rs f z↔∃y∈jT rs z,f y=some n:=List.mem_filterMap
theorem ZL {rs:ja} {f:Str->Option Nat} {z:Str} {n:Nat}:zt (jT rs) f z n↔(∀j,j < n->j∈kn rs f z)/\n∉kn rs f z/\∀y∈jT rs z,f y=none->n∈kn rs f y:=by
 unfold zt
 simp only[VQ]
 constructor
 . rintro⟨a,b,c⟩
   exact⟨a,λ⟨y,hy,e⟩=>b y hy e,c⟩
 . rintro⟨a,b,c⟩
   exact⟨a,λy hy e=>b ⟨y,hy,e⟩,c⟩
theorem jg.fr' {H H':Hp} {l d:Addr} {ps:List Addr} {rs:ja} {kv:List (qD×V)} (h:jg H l ps rs) (hd:H d=some (.dK kv)) (s:Fr H d H'):jg H' l ps rs:=by
 refine⟨s _ _ h.at_ (λe=>?_),⟨h.rows.1,λi p r e1 e2=>?_⟩,h.good,h.pos,h.le⟩
 . have:=h.at_
   rw[e,hd]at this
   cases this
 . obtain⟨q,a,b⟩:=h.rows.2 i p r e1 e2
   exact⟨q,s _ _ a (λe=>by rw[e,hd]at a;cases a),s _ _ b (λe=>by rw[e,hd]at b;cases b)⟩
structure Qo (N:List Str) (H:Hp) (d:Addr) (f:Str->Option (Nat×Nat)):Prop where
 at_:∃kvs:List (qD×V),H d=some (.dK kvs)/\(∀z,f z=none->qQ kvs (Sum.inr z:qD)=none)/\(∀z n s,f z=some (n,s)->∃t,qQ kvs (Sum.inr z:qD)=some (.ref t)/\H t=some (.tup [.int (n:Nat),.int (s:Nat)]))/\(kvs.map (·.1)).Nodup/\∀k∈kvs.map (·.1),k∈N.map Sum.inr
theorem Qo.mono {N:List Str} {H H':Hp} {d:Addr} {f:Str->Option (Nat×Nat)} (h:Qo N H d f) (s:Same H H'):Qo N H' d f:=⟨let ⟨kvs,a,b,c,e⟩:=h.at_;⟨kvs,s _ _ a,b,λz n m q=>let ⟨t,u,v⟩:=c z n m q;⟨t,u,s _ _ v⟩,e⟩⟩
theorem Qo.isd {N:List Str} {H:Hp} {d:Addr} {f:Str->Option (Nat×Nat)} (h:Qo N H d f):∃kvs:List (qD×V),H d=some (.dK kvs):=let ⟨kvs,a,_⟩:=h.at_;⟨kvs,a⟩
theorem Qo.get {N:List Str} {H:Hp} {d:Addr} {f:Str->Option (Nat×Nat)} (h:Qo N H d f) (z:Str):∃o:Option V,jB H d (.str z) o/\o.isSome=(f z).isSome/\∀n s,f z=some (n,s)->∃t,o=some (.ref t)/\H t=some (.tup [.int (n:Nat),.int (s:Nat)]):=by
 obtain⟨kvs,a,b,c,_⟩:=h.at_
 refine⟨_,jB.k (k:=(Sum.inr z:qD)) a,?_,λn s e=>c z n s e⟩
 cases e:f z with
 | none=>rw[b z e];rfl
 | some p=>
   obtain⟨t,u,_⟩:=c z p.1 p.2 e
   rw[u];rfl
def f1 (f:Str->Option (Nat×Nat)) (z:Str):Option Nat:=(f z).map (·.1)
def Uo:Sp:=λvs H Q _=>∃(d e:Addr) (rs:ja) (f:Str->Option (Nat×Nat)) (z:Str) (n:Nat),vs=[.ref d,.ref e,.str z,.int (n:Nat)]/\KI H d rs/\qy rs/\z∈rs.map (·.1)/\Qo (rs.map (·.1)) H e f/\Q (.bl (decide (n∈kn rs (f1 f) z))) H
def WA:Sp:=λvs H Q _=>∃(d e:Addr) (rs:ja) (f:Str->Option (Nat×Nat)) (z:Str) (n:Nat),vs=[.ref d,.ref e,.str z,.int (n:Nat)]/\KI H d rs/\qy rs/\z∈rs.map (·.1)/\Qo (rs.map (·.1)) H e f/\n<=15/\
 ∀H' b,Same H H'->(b=true↔zt (jT rs) (f1 f) z n)->Q (.bl b) H'
theorem kn1 {rs:ja} {f:Str->Option (Nat×Nat)} {z:Str} {n:Nat}:n∈kn rs (f1 f) z↔∃y∈jT rs z,∃s,f y=some (n,s):=by
 rw[VQ]
 constructor
 . rintro⟨y,hy,e⟩
   obtain⟨p,e1,e2⟩:=Option.map_eq_some_iff.mp e
   exact⟨y,hy,p.2,by rw[e1,<-e2]⟩
 . rintro⟨y,hy,s,e⟩
   exact⟨y,hy,by unfold f1;rw[e];rfl⟩
section
variable {P:Program} {w:World} {K:PySem.W.Frag} {mg:Str->Option Value} {base:Heap}
abbrev nLB:List Str:=["_law_roads","_law_found","_law_name","_law_number","_law_one"]
abbrev Vy:List Str:=["_law_roads","_law_found","_law_name","_law_number"]
theorem RT:qv nLB Vy (qk JB):=⟨rfl,rfl,rfl,by decide+kernel,rfl,by decide+kernel,by decide+kernel⟩
theorem yW {f:Addr} {fd:FuncData} (F:jQ K "_law_back" "_law_back" JB f fd):qp P w K mg base qM 1 f fd Vy Uo:=by
 refine F.okJ RT (λvs H Q E h=>?_) (λcdv A outer s H vs Q E hr h=>?_)
 . obtain⟨d,e,rs,ff,z,n,rfl,_⟩:=h
   rfl
 . obtain⟨d,e,rs,ff,z,n,rfl,ld,good,hz,fd,q⟩:=h
   have hu:=jA hr
   refine⟨_,qe (qT PassesOwn.never rfl (Zj (qG hu (jv 0) (jv 2) (λ_ _=>rfl))) (qt (i:=4) RT.nd rfl (Or.inl rfl))
       (qh (qL (JW.pt (jR (jX (QX hu (jv 4) (jv 1))) (jH (qu j7 (qN qU (qG hu (jv 1) (jv 4) (λ_ _=>rfl)) qi (λ_ _=>rfl)) (jv 3) (qz _))))) (qh (qA jz)) qC)))
     (qh (qA jz)),?_⟩
   obtain⟨q0,g0,hq0⟩:=ld.get good hz
   refine⟨_,rfl,_,rfl,d,_,rfl,g0,q0,rfl,⟨_,.of hq0⟩,?_⟩
   refine zL (K:=K) (a:=q0) (xs:=(jT rs z).map V.str) (λi σ' G=>∃v4,σ'=[some (.ref d),some (.ref e),some (.str z),some (.int (n:Nat)),v4]/\G=H/\∀y∈(jT rs z).take i,∀s,ff y≠some (n,s))
     ⟨_,rfl,rfl,λy h=>(nomatch h)⟩ (λi σ' G _ ⟨_,_,e,_⟩=>e▸.of hq0) ?_ ?_
   . rintro i x σ' G hx ⟨v4,rfl,rfl,hall⟩
     obtain⟨y,ey,hy,rfl⟩:=Je hx
     obtain⟨o,go,eo,ho⟩:=fd.get y
     have step:(∀s,ff y≠some (n,s))->∃v4,[some (V.ref d),some (.ref e),some (.str z),some (.int (n:Nat)),some (.str y)]=[some (.ref d),some (.ref e),some (.str z),some (.int (n:Nat)),v4]/\G=G/\∀y∈(jT rs z).take (i+1),∀s,ff y≠some (n,s):=λno=>by
       refine⟨_,rfl,rfl,λu hu'=>?_⟩
       rw[List.take_add_one,ey]at hu'
       rcases List.mem_append.mp hu' with h | h
       . exact hall u h
       . have:u=y:=by simpa using h
         rw[this];exact no
     refine⟨_,rfl,_,rfl,e,_,rfl,go,_,rfl,?_⟩
     rw[eo]
     cases cy:ff y with
     | none=>exact qZ (qZ (step λs h=>by rw[cy]at h;cases h))
     | some p=>
       obtain⟨t,et,ht⟩:=ho p.1 p.2 cy
       rw[et]at go
       refine jY ⟨_,rfl,_,rfl,e,_,rfl,go,t,_,0,_,rfl,rfl,.of ht,rfl,_,rfl,rfl,_,rfl,?_⟩
       by_cases c:p.1=n
       . refine jI (decide_eq_true (by rw[c])) ?_
         rw[decide_eq_true (kn1.mpr ⟨y,hy,p.2,by rw[cy,<-c]⟩)]at q
         exact q
       . refine jJ (decide_eq_false λh=>c (by have:=V.int.inj h;omega)) (step λs h=>?_)
         rw[cy]at h
         cases h
         exact c rfl
   . rintro σ' G ⟨v4,rfl,rfl,hall⟩
     rw[List.length_map,List.take_of_length_le (Nat.le_refl _)]at hall
     rw[decide_eq_false (λh=>by obtain⟨y,hy,s,e⟩:=kn1.mp h;exact hall y hy s e)]at q
     exact q
abbrev nLC:List Str:=["_law_roads","_law_found","_law_name","_law_number","_law_beside","_law_one"]
theorem KZ:qv nLC Vy (qk Jf):=⟨rfl,rfl,rfl,by decide+kernel,rfl,by decide+kernel,by decide+kernel⟩
theorem vK {f fB:Addr} {fd fdB:FuncData} (F:jQ K "_law_comes" "_law_comes" Jf f fd) (B:Jc mg) (hB:je K mg "_law_back" JB Vy fB fdB):qp P w K mg base qM 2 f fd Vy WA:=by
 have GB:qp P w K mg base qM 1 fB fdB Vy Uo:=yW hB.fn
 refine F.okJ KZ (λvs H Q E h=>?_) (λcdv A outer s H vs Q E hr h=>?_)
 . obtain⟨d,e,rs,ff,z,n,rfl,_⟩:=h
   rfl
 . obtain⟨d,e,rs,ff,z,n,rfl,ld,good,hz,fd,n15,q⟩:=h
   have hu:=jA hr
   refine⟨_,qe (qw (i:=4) KZ.nd rfl (Or.inr rfl) (QI (N':=["_law_one","_law_found"]) (ix:=[none,some 1]) (tt:=tB (RI (jm 0) (jm 1))) (te:=Xv (XR K) (Ud (jm 1) (jm 0)) (tC (.int 0))) rfl ⟨rfl,rfl,rfl,rfl,rfl⟩ (Zj (qG hu (jv 0) (jv 2) (λ_ _=>rfl))) (λC s2 H2 fp pins=>
         ⟨qt (i:=0) (show (["_law_one","_law_found"]:List Str).Nodup by decide+kernel) rfl (Or.inl rfl),j9 (jX (QX hu (jv 0) (jv 1))),qN qU (qG hu (jv 1) (jv 0) (λ_ _=>rfl)) qi (λ_ _=>rfl)⟩)))
     (qe (qL (JW.pt (QG (qu J1 (jv 3) (jv 4) (by with_unfolding_all rfl)) (Qh (qu (zB (Nat.lt_of_succ_lt hu)) (QI (N':=["_law_k","_law_beside"]) (ix:=[none,some 4]) (tt:=Uc (Xv (Na K true) (jm 0) (jm 1))) (te:=jm 0) rfl ⟨rfl,rfl,rfl,rfl,rfl⟩ (ju (by rfl) B.rng (qb (jv 3) qf)) (λC s2 H2 fp pins=>
         ⟨qt (i:=0) (show (["_law_k","_law_beside"]:List Str).Nodup by decide+kernel) rfl (Or.inl rfl),j9 (qu Qy (jv 0) (jv 1) (by with_unfolding_all rfl)),jv 0⟩)) (jE qf) (qz _))))) (qh (qA jz)) qC)
     (qe (qT PassesOwn.never rfl (Zj (qG hu (jv 0) (jv 2) (λ_ _=>rfl))) (qt (i:=5) KZ.nd rfl (Or.inl rfl))
       (qh (qL (JW.pt (jR (jX (Q8 hu (jv 5) (jv 1))) (jH (Qi (jt (qJ hB GB hr (by rfl) (qb (jv 0) (qb (jv 1) (qb (jv 5) (qb (jv 3) qf)))))))))) (qh (qA jz)) qC)))
     (qh (qA jz)))),?_⟩
   obtain⟨q0,g0,hq0⟩:=ld.get good hz
   refine⟨_,rfl,_,rfl,d,_,rfl,g0,q0,rfl,⟨_,.of hq0⟩,λW hW=>?_⟩
   refine U0 (K:=K) (a:=q0) (xs:=jT rs z) (enc:=V.str) (out:=λy=>(f1 ff y).map λn=>V.int (n:Nat)) (rest:=[some (.ref e)]) hW hq0 (qo (by have:=xh good hz;omega)) ?_ ?_ ?_
   . intro x hx G' s5 R kk
     obtain⟨o,go,eo,_⟩:=(fd.mono s5).get x
     refine⟨_,rfl,_,rfl,e,_,rfl,go,_,rfl,?_⟩
     have:=kk G' λ_ _ h=>h
     rw[eo]
     unfold f1 at this
     rw[Option.isSome_map,Option.isSome_map]at this
     exact this
   . intro x hx v ev G' s5 R kk
     obtain⟨o,go,eo,ho⟩:=(fd.mono s5).get x
     cases cx:ff x with
     | none=>unfold f1 at ev;rw[cx]at ev;cases ev
     | some p=>
       obtain⟨t,et,ht⟩:=ho p.1 p.2 cx
       rw[et]at go
       have:v=V.int (p.1:Nat):=by unfold f1 at ev;rw[cx]at ev;exact(Option.some.inj ev).symm
       subst this
       exact⟨_,rfl,_,rfl,e,_,rfl,go,t,_,0,_,rfl,rfl,.of ht,rfl,kk G' λ_ _ h=>h⟩
   . intro G1 s1 hW1
     have eK:(jT rs z).filterMap (λy=>(f1 ff y).map λn=>V.int (n:Nat))=Zr (kn rs (f1 ff) z):=by
       unfold Zr kn
       rw[List.map_filterMap]
     rw[eK]at hW1
     refine⟨_,rfl,_,rfl,W,_,rfl,.inl (.of hW1),rfl,ZK _,_,rfl,?_⟩
     by_cases c:n∈kn rs (f1 ff) z
     . exact jI (show Z3 (.int (n:Nat)) (Zr (kn rs (f1 ff) z))=true by rw[Yy];exact decide_eq_true c) (jY (q G1 false s1 ⟨λh=>(nomatch h),λh=>absurd c (ZL.mp h).2.1⟩))
     refine jJ (show Z3 (.int (n:Nat)) (Zr (kn rs (f1 ff) z))=false by rw[Yy];exact decide_eq_false c) ?_
     refine⟨_,rfl,(n:Int),rfl,by omega,by omega,λU hU=>?_⟩
     refine u4 (n:=n) (out:=λj=>if j∈kn rs (f1 ff) z then none else some (V.int (j:Nat))) (rest:=[some (.ref W)]) hU (qo (by omega)) ?_ ?_ ?_
     . intro x hx G' s5 R kk
       refine⟨_,rfl,_,rfl,W,_,rfl,.inl (.of (s5 _ _ hW1)),rfl,ZK _,_,rfl,?_⟩
       have:=kk G' λ_ _ h=>h
       show R (!Z3 (.int (x:Nat)) (Zr (kn rs (f1 ff) z))) G'
       rw[Yy]
       by_cases c:x∈kn rs (f1 ff) z
       . rw[if_pos c]at this
         rw[decide_eq_true c]
         exact this
       . rw[if_neg c]at this
         rw[decide_eq_false c]
         exact this
     . intro x hx v ev G' s5 R kk
       have:v=V.int (x:Nat):=by
         split at ev
         . cases ev
         . exact(Option.some.inj ev).symm
       subst this
       exact⟨_,rfl,kk G' λ_ _ h=>h⟩
     . intro G2 s2 hU2
       have s12:=s1.trans s2
       generalize hls:(List.range n).filterMap (λj=>if j∈kn rs (f1 ff) z then none else some (V.int (j:Nat)))=ls at hU2
       refine⟨by show 0<=sizeLine;decide,λl0 hl0=>?_⟩
       have s0:Same G2 (upd G2 l0 (.lst [])):=qj hl0
       refine⟨U,l0,_,rfl,rfl,.of (s0 _ _ hU2),.of qd,_,rfl,?_⟩
       have s3:Same H (upd G2 l0 (.lst [])):=s12.trans s0
       generalize upd G2 l0 (.lst [])=G3 at s0 s3
       have lsE:ls=[]↔∀j,j < n->j∈kn rs (f1 ff) z:=by
         rw[<-hls,List.filterMap_eq_nil_iff]
         constructor
         . intro h j hj
           have:=h j (List.mem_range.mpr hj)
           by_cases c:j∈kn rs (f1 ff) z
           . exact c
           . rw[if_neg c]at this;cases this
         . intro h j hj
           rw[if_pos (h j (List.mem_range.mp hj))]
       cases ls with
       | cons a ls=>
         refine jY (q G3 false s3 ⟨λh=>(nomatch h),λh=>?_⟩)
         have:=lsE.mpr (ZL.mp h).1
         cases this
       | nil=>
         refine qZ ?_
         have lo:=lsE.mp rfl
         obtain⟨q1,g1,hq1⟩:=(ld.mono s3).get good hz
         refine⟨_,rfl,_,rfl,d,_,rfl,g1,q1,rfl,⟨_,.of hq1⟩,?_⟩
         refine zL (K:=K) (a:=q1) (xs:=(jT rs z).map V.str) (λi σ' G=>∃v5,σ'=[some (.ref d),some (.ref e),some (.str z),some (.int (n:Nat)),some (.ref W),v5]/\G=G3/\∀y∈(jT rs z).take i,f1 ff y=none->n∈kn rs (f1 ff) y)
           ⟨_,rfl,rfl,λy h=>(nomatch h)⟩ (λi σ' G _ ⟨_,_,e,_⟩=>e▸.of hq1) ?_ ?_
         . rintro i x σ' G hx ⟨v5,rfl,rfl,hall⟩
           obtain⟨y,ey,hy,rfl⟩:=Je hx
           have hyN:=zF good hz hy
           obtain⟨o,go,eo,_⟩:=(fd.mono s3).get y
           have step:(f1 ff y=none->n∈kn rs (f1 ff) y)->∃v5,[some (V.ref d),some (.ref e),some (.str z),some (.int (n:Nat)),some (.ref W),some (.str y)]=[some (.ref d),some (.ref e),some (.str z),some (.int (n:Nat)),some (.ref W),v5]/\G=G/\∀y∈(jT rs z).take (i+1),f1 ff y=none->n∈kn rs (f1 ff) y:=λhy'=>by
             refine⟨_,rfl,rfl,λu hu'=>?_⟩
             rw[List.take_add_one,ey]at hu'
             rcases List.mem_append.mp hu' with h | h
             . exact hall u h
             . have:u=y:=by simpa using h
               rw[this];exact hy'
           refine⟨_,rfl,_,rfl,e,_,rfl,go,_,rfl,?_⟩
           rw[eo]
           cases cy:ff y with
           | some p=>exact qZ (qZ (step λh=>by unfold f1 at h;rw[cy]at h;cases h))
           | none=>
             refine jY ⟨_,rfl,_,rfl,_,rfl,_,rfl,d,e,rs,ff,y,n,rfl,ld.mono s3,good,hyN,fd.mono s3,_,rfl,?_⟩
             by_cases c2:n∈kn rs (f1 ff) y
             . rw[decide_eq_true c2]
               exact qZ (step λ_=>c2)
             . rw[decide_eq_false c2]
               exact jY (q G false s3 ⟨λh=>(nomatch h),λh=>absurd ((ZL.mp h).2.2 y hy (by unfold f1;rw[cy];rfl)) c2⟩)
         . rintro σ' G ⟨v5,rfl,rfl,hall⟩
           rw[List.length_map,List.take_of_length_le (Nat.le_refl _)]at hall
           exact q G true s3 ⟨λ_=>ZL.mpr ⟨lo,c,hall⟩,λ_=>rfl⟩
end
end Rh
set_option Elab.async false
set_option linter.all false
set_option maxRecDepth 100000
set_option maxHeartbeats 4000000
namespace Rh
open PySem L2 PyProof.Rows MLab
def fR (R:Rs Str) (z:Str):Option (Nat×Nat):=(qB R z).map λn=>(n,jD R z)
theorem uV (R:Rs Str) (z:Str):f1 (fR R) z=qB R z:=by
 unfold f1 fR
 cases qB R z<;>rfl
theorem uR {rs:ja} (g:qy rs) {f:Str->Option Nat} {z:Str} {n:Nat} (hz:z∈rs.map (·.1)):zt (jT rs) f z n↔zt (Qp rs) f z n:=by
 unfold zt
 constructor
 . rintro⟨a,b,c⟩
   refine⟨λj hj=>let ⟨y,hy,e⟩:=a j hj;⟨y,(jM g hz).mp hy,e⟩,λy hy=>b y ((jM g hz).mpr hy),λy hy e=>?_⟩
   have hy':=(jM g hz).mpr hy
   obtain⟨u,hu,eu⟩:=c y hy' e
   exact⟨u,(jM g (zF g hz hy')).mp hu,eu⟩
 . rintro⟨a,b,c⟩
   refine⟨λj hj=>let ⟨y,hy,e⟩:=a j hj;⟨y,(jM g hz).mpr hy,e⟩,λy hy=>b y ((jM g hz).mp hy),λy hy e=>?_⟩
   obtain⟨u,hu,eu⟩:=c y ((jM g hz).mp hy) e
   exact⟨u,(jM g (zF g hz hy)).mpr hu,eu⟩
theorem Qo.put {N:List Str} {H:Hp} {d t:Addr} {f:Str->Option (Nat×Nat)} (h:Qo N H d f) {z:Str} {n s:Nat} (hz:z∈N) (hf:f z=none) (le:N.length<=14) (ht:H t=some (.tup [.int (n:Nat),.int (s:Nat)])):∃o,QM H d (.str z) (.ref t) (upd H d o)/\Qo N (upd H d o) d (λy=>if y=z then some (n,s) else f y):=by
 obtain⟨kvs,a,b,c,nd,sub⟩:=h.at_
 have ln:kvs.length<=14:=by
   have:=Ql nd sub
   rw[List.length_map,List.length_map]at this
   omega
 have new:=b z hf
 have tD:∀{b:Addr} {xs:List V},H b=some (.tup xs)->b≠d:=λhb e=>by rw[e,a]at hb;cases hb
 refine⟨_,QM.k (k:=(Sum.inr z:qD)) a (qo (by omega)),⟨_,qd,λy hy=>?_,λy m u hy=>?_,uy _ nd new,λk hk=>?_⟩⟩
 . by_cases e:y=z
   . rw[if_pos e]at hy;cases hy
   . rw[if_neg e]at hy
     rw[jL,if_neg (λq=>e (Sum.inr.inj q))]
     exact b y hy
 . by_cases e:y=z
   . rw[if_pos e]at hy
     cases hy
     subst e
     exact⟨t,by rw[jL,if_pos rfl],by rw[qg (tD ht)];exact ht⟩
   . rw[if_neg e]at hy
     obtain⟨t',u',v'⟩:=c y m u hy
     exact⟨t',by rw[jL,if_neg (λq=>e (Sum.inr.inj q))];exact u',by rw[qg (tD v')];exact v'⟩
 . rw[Qn _ new,List.map_append]at hk
   rcases List.mem_append.mp hk with hk | hk
   . exact sub k hk
   . have:k=Sum.inr z:=by simpa using hk
     rw[this]
     exact List.mem_map.mpr ⟨z,hz,rfl⟩
theorem Qo.congr {N:List Str} {H:Hp} {d:Addr} {f g:Str->Option (Nat×Nat)} (h:Qo N H d f) (e:∀z,f z=g z):Qo N H d g:=⟨let ⟨kvs,a,b,c,x⟩:=h.at_;⟨kvs,a,λz hz=>b z (by rw[e z];exact hz),λz n s hz=>c z n s (by rw[e z];exact hz),x⟩⟩
theorem Qo.bare {rs:ja} {H:Hp} {d:Addr} {f:Str->Option (Nat×Nat)} (h:Qo (rs.map (·.1)) H d f):QK (rs.map (·.1)) H d=j4 rs (f1 f):=by
 obtain⟨kvs,a,b,c,_⟩:=h.at_
 unfold QK j4
 rw[a]
 show ((rs.map (·.1)).filter λz=>(qQ kvs (Sum.inr z:qD)).isNone).length=_
 congr 1
 refine List.filter_congr λz _=>?_
 unfold f1
 cases e:f z with
 | none=>rw[b z e];rfl
 | some p=>
   obtain⟨t,u,_⟩:=c z p.1 p.2 e
   rw[u];rfl
def GZ (R:Rs Str) (n s:Nat) (ns:List Str) (z:Str):Option (Nat×Nat):=if z∈ns then some (n,s) else fR R z
theorem uO {R:Rs Str} {n:Nat} {ns:List Str} (h:∀z∈ns,qB R z=none) (z:Str):GZ R n R.length ns z=fR (R++[(n,ns)]) z:=by
 unfold GZ fR
 by_cases c:z∈ns
 . rw[if_pos c,US (h z c) c,Ut (h z c) c]
   rfl
 . rw[if_neg c,Ja]
   cases e:qB R z with
   | some m=>
     show some (m,jD R z)=some (m,jD (R++[(n,ns)]) z)
     rw[(QN e).1]
   | none=>
     show none=Option.map _ (if z∈ns then some n else none)
     rw[if_neg c]
     rfl
def kW:Sp:=λvs H Q _=>∃(l:Addr) (ps:List Addr) (rs:ja),vs=[.ref l]/\jg H l ps rs/\
 ∀H' D R,Same H H'->H D=none->Qo (rs.map (·.1)) H' D (fR R)->All (Qp rs) (rs.map (·.1)) 0 [] R->Q (.ref D) H'
section
variable {P:Program} {w:World} {K:PySem.W.Frag} {mg:Str->Option Value} {base:Heap}
abbrev Mw:List Str:=["_law_rows_here","_law_roads","_law_found","_law_step","_law_number","_law_coming","_law_name"]
theorem Za:qv Mw ["_law_rows_here"] (qk QB):=⟨rfl,rfl,rfl,by decide+kernel,rfl,by decide+kernel,by decide+kernel⟩
theorem zd {f fC fB:Addr} {fd fdC fdB:FuncData} (F:jQ K "_law_numbers" "_law_numbers" QB f fd) (B:Jc mg) (hdi:mg "dict"=none) (hB:je K mg "_law_back" JB Vy fB fdB) (hC:je K mg "_law_comes" Jf Vy fC fdC):qp P w K mg base qM 3 f fd ["_law_rows_here"] kW:=by
 have GC:qp P w K mg base qM 2 fC fdC Vy WA:=vK hC.fn B hB
 refine F.okJ Za (λvs H Q E h=>?_) (λcdv A outer s H vs Q E hr h=>?_)
 . obtain⟨l,ps,rs,rfl,_⟩:=h
   rfl
 . obtain⟨l,ps,rs,rfl,g,q⟩:=h
   have hu:=jA hr
   refine⟨_,qe (qw (i:=1) Za.nd rfl (Or.inl rfl) (VR (jC (YF rfl) (by rfl) hdi boot_dict (qb (jv 0) qf))))
     (qe (qw (i:=2) Za.nd rfl (Or.inl rfl) jO)
     (qe (qw (i:=3) Za.nd rfl (Or.inl rfl) qi)
     (qe (qT PassesOwn.never rfl (ju (by rfl) B.rng (qb qi qf)) (qt (i:=4) Za.nd rfl (Or.inl rfl))
       (qe (qw (i:=5) Za.nd rfl (Or.inl rfl) (jE (qb qS qf)))
       (qh (JN PassesOwn.never (qu (zB (Nat.lt_of_succ_lt hu)) (jv 5) (jE qf) (qz _))
         (qe (qw (i:=5) Za.nd rfl (Or.inl rfl) (jE qf))
         (qe (qT PassesOwn.never rfl (X6 (jv 1)) (qt (i:=6) Za.nd rfl (Or.inl rfl))
           (qh (qL (JW.pt (jR (jX (Q8 hu (jv 6) (jv 2))) (jH (jt (qJ hC GC hr (by rfl) (qb (jv 1) (qb (jv 2) (qb (jv 6) (qb (jv 4) qf))))))))) (qh (qY (zg PySem.F.plainAttrs_list PySem.F.slot_list_append PySem.F.type_list_append Qg (jv 5) (qb (jv 6) qf)))) qC)))
         (qe (qT PassesOwn.never rfl (qO (jv 5)) (qt (i:=6) Za.nd rfl (Or.inl rfl)) (qh (jl hu (jv 2) (jv 6) (jN (qb (jv 4) (qb (jv 3) qf))) rfl)))
         (qh (qw (i:=3) Za.nd rfl (Or.inl rfl) (qI Qr (jv 3) (jC Xj (by rfl) B.int boot_int (qb (Qb (zB (Nat.lt_of_succ_lt hu)) (jv 5) (jE qf) (qz _)) qf))))))))))))
     (qh (qA (jv 2)))))),?_⟩
   have good:=g.good
   have le14:=g.le
   have nd:=good.nd
   have lN:(rs.map (·.1)).length=rs.length:=List.length_map ..
   refine⟨_,rfl,y9 (xS g λd kvs hd ek hv=>⟨d,kvs,rfl,qd,λo=>?_⟩)⟩
   rw[jG]
   have s1:Same H (upd H d (.frz o (.dK kvs))):=qj hd
   have hd1:upd H d (.frz o (.dK kvs)) d=some (.frz o (.dK kvs)):=qd
   generalize upd H d (.frz o (.dK kvs))=H1 at s1 hd1
   intro e he
   have s2:Same H1 (upd H1 e (.dK [])):=qj he
   have he2:upd H1 e (.dK []) e=some (.dK []):=qd
   have he0:H e=none:=qW s1 he
   have nde:d≠e:=λz=>by rw[<-z,hd1]at he;cases he
   generalize upd H1 e (.dK [])=H2 at s2 he2
   have ldG:∀{G:Hp},Fr H2 e G->KI G d rs:=λfr=>by
     refine⟨o,kvs,fr _ _ (s2 _ _ hd1) nde,ek,λr hr=>?_⟩
     obtain⟨t,a,b⟩:=hv r hr
     have b2:=s2 _ _ (s1 _ _ b)
     exact⟨t,a,fr _ _ b2 (λz=>by rw[z,he2]at b2;cases b2)⟩
   have hdG:∀{G:Hp},Fr H2 e G->G d=some (.frz o (.dK kvs)):=λfr=>fr _ _ (s2 _ _ hd1) nde
   refine⟨15,rfl,by decide,by decide,?_⟩
   refine QD (λi σ G=>∃(v4 v5 v6:Option V) (R:Rs Str),σ=[some (.ref l),some (.ref d),some (.ref e),some (.int (R.length:Nat)),v4,v5,v6]/\Fr H2 e G/\Qo (rs.map (·.1)) G e (fR R)/\YR (Qp rs) (rs.map (·.1)) i R)
     ⟨none,none,none,[],rfl,Fr.refl,⟨[],he2,λz _=>rfl,λz n s h=>(nomatch h),List.nodup_nil,λk h=>(nomatch h)⟩,.nil⟩ ?_ ?_
   . rintro i σ G hi ⟨v4,v5,v6,R0,rfl,fr0,fd0,up0⟩
     rw[Int.zero_add]
     have hi:i < 15:=by simpa using hi
     refine⟨by show 1<=sizeLine;decide,λc0 hc0=>?_⟩
     have sc:Same G (upd G c0 (.lst [V.str ""])):=qj hc0
     refine Jw (λσ G=>∃(v6:Option V) (c:Addr) (cs:List Str) (R:Rs Str),σ=[some (.ref l),some (.ref d),some (.ref e),some (.int (R.length:Nat)),some (.int (i:Nat)),some (.ref c),v6]/\Fr H2 e G/\Qo (rs.map (·.1)) G e (fR R)/\G c=some (.lst (cs.map V.str))/\
         (∀R',j0 (Qp rs) (rs.map (·.1)) i R R'->j0 (Qp rs) (rs.map (·.1)) i R0 R')/\(cs=[]->Wl (Qp rs) (rs.map (·.1)) R i []))
       (λσ G=>2*QK (rs.map (·.1)) G e+(match σ with | [_,_,_,_,_,some (.ref c),_]=>(match G c with | some (.lst (_::_))=>1 | _=>0) | _=>0))
       ⟨v6,c0,[""],R0,rfl,fr0.same sc,fd0.mono sc,qd,λR' h=>h,λh=>(nomatch h)⟩ ?_ ?_
     . rintro σ G ⟨v6,c,cs,R,rfl,fr,fd,hc,giv,fin⟩
       refine⟨_,rfl,by show 0<=sizeLine;decide,λl0 hl0=>?_⟩
       have s0:Same G (upd G l0 (.lst [])):=qj hl0
       refine⟨c,l0,_,rfl,rfl,.of (s0 _ _ hc),.of qd,_,rfl,?_⟩
       cases cs with
       | nil=>
         have r0:=fin rfl
         exact qZ ⟨_,_,_,R,rfl,fr.same s0,fd.mono s0,.more up0 (giv R (.stop r0))⟩
       | cons c1 cs=>
         refine jY ⟨by show 0<=sizeLine;decide,λc2 hc2=>?_⟩
         have mu0:(2*QK (rs.map (·.1)) G e+(match G c with | some (.lst (_::_))=>1 | _=>0))=2*j4 rs (qB R)+1:=by
           rw[hc]
           show 2*QK (rs.map (·.1)) G e+1=_
           rw[fd.bare]
           unfold j4
           simp only[uV]
         have sA:Same G (upd (upd G l0 (.lst [])) c2 (.lst [])):=s0.trans (qj hc2)
         have hcA:upd (upd G l0 (.lst [])) c2 (.lst []) c2=some (.lst []):=qd
         have hc2G:G c2=none:=qW s0 hc2
         generalize upd (upd G l0 (.lst [])) c2 (.lst [])=GA at sA hcA
         refine⟨_,rfl,d,o,kvs,rs.map (·.1),rfl,hdG (fr.same sA),ek,?_⟩
         refine Wc (zs:=rs.map (·.1)) (λj σ' G'=>∃(v6:Option V) (ns:List Str),σ'=[some (.ref l),some (.ref d),some (.ref e),some (.int (R.length:Nat)),some (.int (i:Nat)),some (.ref c2),v6]/\Same G G'/\G' c2=some (.lst (ns.map V.str))/\ns.Sublist ((rs.map (·.1)).take j)/\∀x,x∈ns↔x∈(rs.map (·.1)).take j/\qB R x=none/\zt (Qp rs) (qB R) x i)
           ⟨v6,[],rfl,sA,hcA,List.nil_sublist _,λx=>by simp⟩ (λj σ' G' _ ⟨_,_,_,s,_⟩=>s _ _ (hdG fr)) ?_ ?_
         . rintro j z σ' G1 ez ⟨v6',ns,rfl,sG,hcG,sub,iff⟩
           have hz:z∈rs.map (·.1):=List.mem_of_getElem? ez
           have hj:=(List.getElem?_eq_some_iff.mp ez).1
           have etk:(rs.map (·.1)).take (j+1)=(rs.map (·.1)).take j++[z]:=by rw[List.take_add_one,ez];rfl
           have nz:z∉(rs.map (·.1)).take j:=λm=>Qf nd ez (List.mem_map.mpr ⟨z,m,rfl⟩)
           have skip:∀{G2:Hp},Same G1 G2->¬(qB R z=none/\zt (Qp rs) (qB R) z i)->∃(v6:Option V) (ns:List Str),[some (V.ref l),some (.ref d),some (.ref e),some (.int (R.length:Nat)),some (.int (i:Nat)),some (.ref c2),some (.str z)]=[some (.ref l),some (.ref d),some (.ref e),some (.int (R.length:Nat)),some (.int (i:Nat)),some (.ref c2),v6]/\Same G G2/\G2 c2=some (.lst (ns.map V.str))/\ns.Sublist ((rs.map (·.1)).take (j+1))/\∀x,x∈ns↔x∈(rs.map (·.1)).take (j+1)/\qB R x=none/\zt (Qp rs) (qB R) x i:=λ{G2} s' no=>by
             refine⟨_,ns,rfl,sG.trans s',s' _ _ hcG,by rw[etk];exact sub.trans (List.sublist_append_left _ _),λx=>?_⟩
             rw[iff x,etk,List.mem_append]
             constructor
             . rintro⟨a,b⟩;exact⟨.inl a,b⟩
             . rintro⟨a | a,b⟩
               . exact⟨a,b⟩
               . have:x=z:=by simpa using a
                 subst this
                 exact absurd b no
           have ls:ns.length<=14:=by
             have:=sub.length_le
             rw[List.length_take,lN]at this
             omega
           obtain⟨ov,go,eo,_⟩:=(fd.mono sG).get z
           refine⟨_,rfl,_,rfl,e,_,rfl,go,_,rfl,?_⟩
           rw[eo]
           have e1:(fR R z).isSome=(qB R z).isSome:=by unfold fR;rw[Option.isSome_map]
           rw[e1]
           cases cz:qB R z with
           | some m=>exact qZ (qZ (skip (λ_ _ h=>h) λh=>by rw[cz]at h;cases h.1))
           | none=>
             refine jY ⟨_,rfl,_,rfl,_,rfl,_,rfl,d,e,rs,fR R,z,i,rfl,(ldG fr).mono sG,good,hz,fd.mono sG,by omega,λG2 b s' hb=>⟨b,rfl,?_⟩⟩
             have eg:(f1 (fR R))=qB R:=funext (uV R)
             rw[eg,uR good hz]at hb
             cases b with
             | false=>exact qZ (skip s' λh=>absurd (hb.mpr h.2) (by simp))
             | true=>
               have hc3:=s' _ _ hcG
               refine jY ⟨_,rfl,.inl ⟨rfl,_,.of hc3⟩,_,rfl,c2,_,_,rfl,rfl,hc3,by rw[List.length_map];exact qo (by omega),_,ns++[z],rfl,Same.upd (sG.trans s') hc2G,by rw[List.map_append];exact qd,by rw[etk];exact List.Sublist.append sub (List.Sublist.refl _),λx=>?_⟩
               rw[List.mem_append,iff x,etk,List.mem_append]
               constructor
               . rintro(⟨a,b⟩ | a)
                 . exact⟨.inl a,b⟩
                 . have:x=z:=by simpa using a
                   subst this
                   exact⟨.inr a,cz,hb.mp rfl⟩
               . rintro⟨a | a,b⟩
                 . exact .inl ⟨a,b⟩
                 . exact .inr a
         . rintro σ' G1 ⟨v6',ns,rfl,sG,hcG,sub,iff⟩
           rw[List.take_of_length_le (Nat.le_refl _)]at sub iff
           have rnd:Wl (Qp rs) (rs.map (·.1)) R i ns:=⟨iff,sub⟩
           have NT:ns.Nodup:=nd.sublist sub
           have fr1:Fr H2 e G1:=fr.same sG
           have fd1:=fd.mono sG
           obtain⟨ke,hke⟩:=fd1.isd
           have nce:c2≠e:=λz=>by rw[z,hke]at hcG;cases hcG
           refine⟨_,rfl,c2,rfl,⟨_,.of hcG⟩,?_⟩
           refine jo (K:=K) (a:=c2) (xs:=ns.map V.str) (λm σ' G2=>∃v6,σ'=[some (.ref l),some (.ref d),some (.ref e),some (.int (R.length:Nat)),some (.int (i:Nat)),some (.ref c2),v6]/\Fr H2 e G2/\G2 c2=some (.lst (ns.map V.str))/\Qo (rs.map (·.1)) G2 e (GZ R i R.length (ns.take m)))
             ⟨v6',rfl,fr1,hcG,fd1.congr λz=>by unfold GZ;rw[List.take_zero,if_neg (by simp)]⟩ (λm σ' G2 _ ⟨_,_,_,h,_⟩=>.of h) ?_ ?_
           . rintro m x σ' G2 hx ⟨v6'',rfl,fr2,hc2',fd2⟩
             obtain⟨z,ez,hz,rfl⟩:=Je hx
             have hzN:=((iff z).mp hz).1
             have hzn:=((iff z).mp hz).2.1
             have nt:z∉ns.take m:=λq=>Qf NT ez (List.mem_map.mpr ⟨z,q,rfl⟩)
             refine⟨_,rfl,_,rfl,by show 2<=sizeLine;decide,λt ht=>?_⟩
             have st:Same G2 (upd G2 t (.tup [.int (i:Nat),.int (R.length:Nat)])):=qj ht
             have htt:upd G2 t (.tup [.int (i:Nat),.int (R.length:Nat)]) t=some (.tup [.int (i:Nat),.int (R.length:Nat)]):=qd
             generalize upd G2 t (.tup [.int (i:Nat),.int (R.length:Nat)])=G3 at st htt
             obtain⟨o4,put,fd4⟩:=(fd2.mono st).put (z:=z) hzN (by unfold GZ fR;rw[if_neg nt,hzn];rfl) (by rw[lN];exact le14) htt
             refine⟨_,rfl,_,rfl,e,_,rfl,put,_,rfl,(fr2.same st).at_d,by rw[qg nce];exact st _ _ hc2',fd4.congr λy=>?_⟩
             unfold GZ
             by_cases q:y=z
             . subst q
               rw[if_pos rfl,if_pos (by rw[List.take_add_one,ez];simp)]
             . rw[if_neg q]
               have im:(y∈ns.take (m+1))↔y∈ns.take m:=by
                 rw[List.take_add_one,ez,List.mem_append]
                 exact⟨λh=>h.resolve_right (by simpa using q),.inl⟩
               by_cases h:y∈ns.take m
               . rw[if_pos h,if_pos (im.mpr h)]
               . rw[if_neg h,if_neg (λw=>h (im.mp w))]
           . rintro σ' G2 ⟨v6'',rfl,fr2,hc2',fd2⟩
             rw[List.length_map,List.take_of_length_le (Nat.le_refl _)]at fd2
             refine⟨_,rfl,_,rfl,by show 0<=sizeLine;decide,λl1 hl1=>?_⟩
             have s9:Same G2 (upd G2 l1 (.lst [])):=qj hl1
             refine⟨c2,l1,_,rfl,rfl,.of (s9 _ _ hc2'),.of qd,.inr ⟨_,rfl,_,_,rfl,rfl,?_⟩⟩
             have fr9:=fr2.same s9
             have fd9:=fd2.mono s9
             have hc9:=s9 _ _ hc2'
             generalize upd G2 l1 (.lst [])=G9 at fr9 fd9 hc9
             cases ns with
             | nil=>
               have eR:Qo (rs.map (·.1)) G9 e (fR R):=fd9.congr λz=>by unfold GZ;rw[if_neg (by simp)]
               refine⟨⟨v6'',c2,[],R,?_,fr9,eR,hc9,giv,λ_=>rnd⟩,?_⟩
               . show [_,_,_,some (V.int ((R.length:Int)+0)),_,_,_]=_
                 rw[Int.add_zero]
               . have:=eR.bare
                 show 2*QK (rs.map (·.1)) G9 e+(match G9 c2 with | some (.lst (_::_))=>1 | _=>0) < 2*QK (rs.map (·.1)) G e+(match G c with | some (.lst (_::_))=>1 | _=>0)
                 rw[mu0,hc9,this]
                 unfold j4
                 simp only[uV]
                 show 2*_+0 < _
                 omega
             | cons n1 ns=>
               have nw:∀z∈n1::ns,qB R z=none:=λz hz=>((iff z).mp hz).2.1
               have eR:Qo (rs.map (·.1)) G9 e (fR (R++[(i,n1::ns)])):=fd9.congr (uO nw)
               refine⟨⟨v6'',c2,n1::ns,R++[(i,n1::ns)],?_,fr9,eR,hc9,λR' h=>giv R' (.more rnd (by simp) h),λh=>(nomatch h)⟩,?_⟩
               . show [_,_,_,some (V.int ((R.length:Int)+1)),_,_,_]=_
                 rw[List.length_append,List.length_singleton]
                 rfl
               . have:=eR.bare
                 have lt:=Wg (rs:=rs) (R:=R) (n:=i) (ns:=n1::ns) (λz hz=>⟨((iff z).mp hz).1,nw z hz⟩) (by simp)
                 show 2*QK (rs.map (·.1)) G9 e+(match G9 c2 with | some (.lst (_::_))=>1 | _=>0) < 2*QK (rs.map (·.1)) G e+(match G c with | some (.lst (_::_))=>1 | _=>0)
                 rw[mu0,hc9,this]
                 show 2*j4 rs (f1 (fR (R++[(i,n1::ns)])))+1 < _
                 have e2:j4 rs (f1 (fR (R++[(i,n1::ns)])))=j4 rs (qB (R++[(i,n1::ns)])):=by
                   unfold j4
                   simp only[uV]
                 rw[e2]
                 omega
     . rintro σ G Q1 Q2 kk ⟨x,ex,h1,h2⟩
       exact⟨x,ex,h1,λl0 hl0=>let ⟨a,b,xs,e1,e2,e3,e4,kb,e5,q1⟩:=h2 l0 hl0;⟨a,b,xs,e1,e2,e3,e4,kb,e5,kk _ _ q1⟩⟩
   . rintro σ G ⟨v4,v5,v6,R,rfl,fr,fd,up⟩
     exact⟨_,rfl,q G e R (λb u hb=>fr _ _ (s2 _ _ (s1 _ _ hb)) (ql hb he0)) he0 fd (up.whole (by rw[lN];show rs.length < 15;omega))⟩
end
end Rh
set_option Elab.async false
set_option linter.all false
set_option maxRecDepth 100000
set_option maxHeartbeats 4000000
namespace Rh
open PySem L2 PyProof.Rows MLab
theorem k8 {ns ms:List Nat} (h:∀x,x∈ns↔x∈ms):Rb.setN ns=Rb.setN ms:=Nat.eq_of_testBit_eq λk=>by rw[Rb.testBit_setN,Rb.testBit_setN,decide_eq_decide.mpr (h k)]
theorem KS {rs:ja} (g:qy rs) {f:Str->Option Nat} {z:Str} (hz:z∈rs.map (·.1)):Rb.setN (kn rs f z)=Rb.setN (j8 rs f z):=k8 λx=>by
 rw[VQ,jP]
 constructor
 . rintro⟨y,hy,e⟩;exact⟨y,(jM g hz).mp hy,e⟩
 . rintro⟨y,hy,e⟩;exact⟨y,(jM g hz).mpr hy,e⟩
def Ko:Sp:=λvs H Q _=>∃(l:Addr) (ps:List Addr) (rs:ja),vs=[.ref l]/\jg H l ps rs/\
 ∀H' D R,Same H H'->H D=none->JV H' D rs R->All (Qp rs) (rs.map (·.1)) 0 [] R->Q (.ref D) H'
section
variable {P:Program} {w:World} {K:PySem.W.Frag} {mg:Str->Option Value} {base:Heap}
abbrev Mx:List Str:=["_law_rows_here","_law_found","_law_labels_here","_law_name","_law_leads_here","_law_bits","_law_one"]
theorem zb:qv Mx ["_law_rows_here"] (qk ZC):=⟨rfl,rfl,rfl,by decide+kernel,rfl,by decide+kernel,by decide+kernel⟩
theorem VF {f fN fC fB:Addr} {fd fdN fdC fdB:FuncData} (F:jQ K "_law_labels" "_law_labels" ZC f fd) (B:Jc mg) (hdi:mg "dict"=none) (hB:je K mg "_law_back" JB Vy fB fdB) (hC:je K mg "_law_comes" Jf Vy fC fdC) (hN:je K mg "_law_numbers" QB ["_law_rows_here"] fN fdN):qp P w K mg base qM 4 f fd ["_law_rows_here"] Ko:=by
 have GN:qp P w K mg base qM 3 fN fdN ["_law_rows_here"] kW:=zd hN.fn B hdi hB hC
 refine F.okJ zb (λvs H Q E h=>?_) (λcdv A outer s H vs Q E hr h=>?_)
 . obtain⟨l,ps,rs,rfl,_⟩:=h
   rfl
 . obtain⟨l,ps,rs,rfl,g,q⟩:=h
   have hu:=jA hr
   refine⟨_,qe (qw (i:=1) zb.nd rfl (Or.inl rfl) (qJ hN GN hr (by rfl) (qb (jv 0) qf)))
     (qe (qw (i:=2) zb.nd rfl (Or.inl rfl) jO)
     (qe (qT PassesOwn.never rfl (qO (jv 0)) (Zl rfl (jn (qt (i:=3) zb.nd rfl (Or.inl rfl)) (jn (qt (i:=4) zb.nd rfl (Or.inl rfl)) Jl)))
       (qh (qL (jX (QX hu (jv 3) (jv 1)))
         (qh (jl hu (jv 2) (jv 3) (qI ub (jN (qb qS qf)) (qG hu (jv 1) (jv 3) (λ_ _=>rfl))) rfl))
         (qe (qw (i:=5) zb.nd rfl (Or.inl rfl) qi)
         (qe (qT PassesOwn.never rfl (Zj (jv 4)) (qt (i:=6) zb.nd rfl (Or.inl rfl))
           (qh (qL (jX (QX hu (jv 6) (jv 1))) (qh (qw (i:=5) zb.nd rfl (Or.inl rfl) (qI Kv (jv 5) (qI yI qi (qN qU (qG hu (jv 1) (jv 6) (λ_ _=>rfl)) qi (λ_ _=>rfl)))))) qC)))
         (qh (jl hu (jv 2) (jv 3) (jN (qb qS (qb (jv 5) qf))) rfl)))))))
     (qh (qA (jv 2))))),?_⟩
   have good:=g.good
   have le14:=g.le
   have nd:=good.nd
   refine⟨_,rfl,l,ps,rs,rfl,g,λH1 e R s1 he fd all=>?_⟩
   have L:=xj (JR nd) all
   intro D hD
   have hD0:H D=none:=qW s1 hD
   have sD:Same H1 (upd H1 D (.dK [])):=qj hD
   have hDD:upd H1 D (.dK []) D=some (.dK []):=qd
   generalize upd H1 D (.dK [])=H2 at sD hDD
   have s12:=s1.trans sD
   have fd2:=fd.mono sD
   have nDe:e≠D:=λz=>by
     obtain⟨k0,h0⟩:=fd.isd
     rw[z,hD]at h0;cases h0
   have fdG:∀{G:Hp},Fr H2 D G->Qo (rs.map (·.1)) G e (fR R):=λfr=>by
     obtain⟨kvs,a,b,c,x⟩:=fd2.at_
     refine⟨kvs,fr _ _ a nDe,b,λz n s hz=>?_,x⟩
     obtain⟨t,u,v⟩:=c z n s hz
     exact⟨t,u,fr _ _ v (λq=>by rw[q,hDD]at v;cases v)⟩
   have nlD:l≠D:=λz=>by have:=s12 _ _ g.at_;rw[z,hDD]at this;cases this
   have gG:∀{G:Hp},Fr H2 D G->jg G l ps rs:=λfr=>(g.mono s12).fr' hDD fr
   refine⟨_,rfl,l,rfl,⟨_,.of (s12 _ _ g.at_)⟩,?_⟩
   refine jo (K:=K) (a:=l) (xs:=ps.map V.ref) (λi σ' G=>∃(v3 v4 v5 v6:Option V) (kvs:List (qD×V)),σ'=[some (.ref l),some (.ref e),some (.ref D),v3,v4,v5,v6]/\Fr H2 D G/\G D=some (.dK kvs)/\kvs.map (·.1)=((rs.map (·.1)).take i).map Sum.inr/\∀r∈rs.take i,∃t,qQ kvs (Sum.inr r.1:qD)=some (.ref t)/\G t=some (.tup (js rs R r.1)))
     ⟨none,none,none,none,[],rfl,Fr.refl,hDD,rfl,λr h=>(nomatch h)⟩ (λi σ' G _ ⟨_,_,_,_,_,_,f,_⟩=>.of (gG f).at_) ?_ ?_
   . rintro i y σ' G3 hy ⟨v3,v4,v5,v6,kvs,rfl,fr,hDk,ek,hv⟩
     obtain⟨p,qq,r,rfl,er,hr',ha,hb⟩:=(gG fr).rows.item hy
     have hi:=(List.getElem?_eq_some_iff.mp er).1
     have eN:(rs.map (·.1))[i]?=some r.1:=by rw[List.getElem?_map,er];rfl
     have hrN:r.1∈rs.map (·.1):=List.mem_map.mpr ⟨r,hr',rfl⟩
     have lk:kvs.length=i:=by
       have:=congrArg List.length ek
       rw[List.length_map,List.length_map,List.length_take,List.length_map]at this
       omega
     have new:qQ kvs (Sum.inr r.1:qD)=none:=QZ (by rw[ek];exact Qf nd eN)
     have fin:∀(G4:Hp) (t:Addr) (v3 v4 v5 v6:Option V),Same G3 G4->G4 t=some (.tup (js rs R r.1))->∃H5,QM G4 D (.str r.1) (.ref t) H5/\
         ∃(v3' v4' v5' v6':Option V) (kvs:List (qD×V)),[some (V.ref l),some (.ref e),some (.ref D),v3,v4,v5,v6]=[some (.ref l),some (.ref e),some (.ref D),v3',v4',v5',v6']/\Fr H2 D H5/\H5 D=some (.dK kvs)/\kvs.map (·.1)=((rs.map (·.1)).take (i+1)).map Sum.inr/\∀r∈rs.take (i+1),∃t,qQ kvs (Sum.inr r.1:qD)=some (.ref t)/\H5 t=some (.tup (js rs R r.1)):=λG4 t v3 v4 v5 v6 s4 ht=>by
       have h4:=s4 _ _ hDk
       refine⟨_,QM.k (k:=(Sum.inr r.1:qD)) h4 (qo (by omega)),v3,v4,v5,v6,jy kvs (Sum.inr r.1) (.ref t),rfl,(fr.same s4).at_d,qd,?_,λr2 hr2=>?_⟩
       . rw[Qn _ new,List.map_append,ek,List.take_add_one,eN,List.map_append]
         rfl
       . have tD:∀{b:Addr} {xs:List V},G4 b=some (.tup xs)->b≠D:=λhb e=>by rw[e,h4]at hb;cases hb
         rw[List.take_add_one,er]at hr2
         rcases List.mem_append.mp hr2 with h | h
         . obtain⟨t2,a,b⟩:=hv r2 h
           have ne:r2.1≠r.1:=λe=>by rw[e,new]at a;cases a
           refine⟨t2,?_,?_⟩
           . rw[jL,if_neg (λq=>ne (Sum.inr.inj q))];exact a
           . rw[qg (tD (s4 _ _ b))];exact s4 _ _ b
         . have:r2=r:=by simpa using h
           subst this
           exact⟨t,by rw[jL,if_pos rfl],by rw[qg (tD ht)];exact ht⟩
     refine⟨p,_,rfl,.of ha,rfl,_,_,rfl,_,_,rfl,rfl,?_⟩
     obtain⟨ov,go,eo,ho⟩:=(fdG fr).get r.1
     refine⟨_,rfl,_,rfl,e,_,rfl,go,_,rfl,?_⟩
     rw[eo]
     have e1:(fR R r.1).isSome=(qB R r.1).isSome:=by unfold fR;rw[Option.isSome_map]
     rw[e1]
     cases cz:qB R r.1 with
     | some n=>
       have ef:fR R r.1=some (n,jD R r.1):=by unfold fR;rw[cz];rfl
       obtain⟨t0,et,ht0⟩:=ho _ _ ef
       rw[et]at go
       have el:js rs R r.1=[.str "number",.int (n:Nat),.int (jD R r.1:Nat)]:=by unfold js;rw[cz]
       refine jY ⟨by show 1<=sizeLine;decide,λt1 ht1=>?_⟩
       have s5:Same G3 (upd G3 t1 (.tup [.str "number"])):=qj ht1
       have go5:=(((fdG fr).mono s5).get r.1)
       obtain⟨ov5,go5,_,ho5⟩:=go5
       obtain⟨t5,et5,ht5⟩:=ho5 _ _ ef
       rw[et5]at go5
       refine⟨_,rfl,_,rfl,e,_,rfl,go5,t1,t5,_,_,rfl,rfl,qd,ht5,by show 1+2<=sizeLine;decide,λt6 G6 s6 ht6=>?_⟩
       obtain⟨H7,put,kk⟩:=fin G6 t6 (some (.str r.1)) (some (.ref qq)) v5 v6 (s5.trans s6) (by rw[el];exact ht6)
       exact⟨_,rfl,_,rfl,D,H7,rfl,put,kk⟩
     | none=>
       have el:js rs R r.1=[.str "endless",.int (Rb.setN (j8 rs (qB R) r.1):Nat)]:=by unfold js;rw[cz]
       refine qZ ⟨_,rfl,qq,rfl,⟨_,.of hb⟩,?_⟩
       have eld:jT rs r.1=r.2:=Q6 nd hr'
       refine zL (K:=K) (a:=qq) (xs:=r.2.map V.str) (λm σ'' G4=>∃v6,σ''=[some (.ref l),some (.ref e),some (.ref D),some (.str r.1),some (.ref qq),some (.int (Rb.setN ((r.2.take m).filterMap (qB R)):Nat)),v6]/\G4=G3)
         ⟨v6,rfl,rfl⟩ (λm σ'' G4 _ ⟨_,_,e⟩=>e▸.of hb) ?_ ?_
       . rintro m x σ'' G4 hx ⟨v6',rfl,rfl⟩
         obtain⟨y,ey,hy,rfl⟩:=Je hx
         obtain⟨oy,gy,eoy,hoy⟩:=(fdG fr).get y
         refine⟨_,rfl,_,rfl,e,_,rfl,gy,_,rfl,?_⟩
         rw[eoy]
         have e2:(fR R y).isSome=(qB R y).isSome:=by unfold fR;rw[Option.isSome_map]
         rw[e2]
         have etk:(r.2.take (m+1)).filterMap (qB R)=(r.2.take m).filterMap (qB R)++[y].filterMap (qB R):=by
           rw[List.take_add_one,ey,List.filterMap_append]
           rfl
         rw[etk]
         cases cy:qB R y with
         | none=>
           have e3:[y].filterMap (qB R)=[]:=by simp [cy]
           rw[e3,List.append_nil]
           exact qZ ⟨_,rfl,rfl⟩
         | some n=>
           have e3:[y].filterMap (qB R)=[n]:=by simp [cy]
           have efy:fR R y=some (n,jD R y):=by unfold fR;rw[cy];rfl
           obtain⟨ty,ety,hty⟩:=hoy _ _ efy
           rw[ety]at gy
           have hyN:y∈rs.map (·.1):=zF good hrN (by rw[eld];exact hy)
           have n8:=Yn good L hyN cy
           rw[e3,Rb.setN_snoc]
           refine jY ⟨_,rfl,_,rfl,_,rfl,e,_,rfl,gy,ty,_,0,_,rfl,rfl,.of hty,rfl,1,(n:Int),rfl,rfl,⟨by omega,by omega,by decide⟩,_,_,rfl,rfl,some (.str y),?_,rfl⟩
           have e9:(1:Int)*2^ ((n:Int).toNat)=((2^n:Nat):Int):=by
             rw[Int.one_mul,Int.toNat_natCast]
             exact(Int.natCast_pow 2 n).symm
           show [_,_,_,_,_,some (V.int (Builtin.bitOr (Rb.setN ((r.2.take m).filterMap (qB R)):Nat) ((1:Int)*2^ ((n:Int).toNat)))),_]=_
           rw[e9,bo]
       . rintro σ'' G4 ⟨v6',rfl,rfl⟩
         rw[List.length_map,List.take_of_length_le (Nat.le_refl _)]
         have ek2:Rb.setN (r.2.filterMap (qB R))=Rb.setN (j8 rs (qB R) r.1):=by
           have:=KS good (f:=qB R) hrN
           unfold kn at this
           rw[eld]at this
           exact this
         rw[ek2]
         refine⟨_,rfl,by show 2<=sizeLine;decide,λt ht=>?_⟩
         obtain⟨H7,put,kk⟩:=fin (upd G4 t (.tup [.str "endless",.int (Rb.setN (j8 rs (qB R) r.1):Nat)])) t (some (.str r.1)) (some (.ref qq)) (some (.int (Rb.setN (j8 rs (qB R) r.1):Nat))) v6' (qj ht) (by rw[el];exact qd)
         exact⟨_,rfl,_,rfl,D,H7,rfl,put,kk⟩
   . rintro σ' G3 ⟨v3,v4,v5,v6,kvs,rfl,fr,hDk,ek,hv⟩
     have lp:=(g.rows.1)
     rw[List.length_map,lp]at ek hv
     rw[<-List.length_map (f:=(·.1)) (as:=rs),List.take_of_length_le (Nat.le_refl _)]at ek
     rw[List.take_of_length_le (Nat.le_refl _)]at hv
     exact⟨_,rfl,q G3 D R (λb u h=>fr _ _ (s12 _ _ h) (ql h hD0)) hD0 ⟨kvs,hDk,ek,hv⟩ all⟩
end
end Rh
set_option Elab.async false
set_option linter.all false
set_option maxRecDepth 100000
set_option maxHeartbeats 4000000
namespace Rh
open PySem L2 PyProof.Rows MLab
abbrev JY:Stmt:=top 43
def RO (CG:Addr):Sp:=λvs H Q _=>∃(g:Addr) (rs:ja),vs=[.ref g]/\jZ CG H g rs/\qy rs/\rs.length<=14/\
 ∀H' L ps R,Same H H'->H L=none->H' L=some (.lst (ps.map V.ref))->qX H' ps (R.map (·.2))->(∀p∈ps,H p=none)->All (Qp rs) (rs.map (·.1)) 0 [] R->Q (.ref L) H'
section
variable {P:Program} {w:World} {K:PySem.W.Frag} {mg:Str->Option Value} {base:Heap}
theorem Mb:qv ["ground"] ["ground"] (qk JY):=⟨rfl,rfl,rfl,by decide+kernel,rfl,by decide+kernel,by decide+kernel⟩
theorem Ng {f CG:Addr} {fd:FuncData} (F:jQ K "rounds_of" "rounds_of" JY f fd) (B:Jc mg) (G:Qk mg) (T:QL K mg) (M:GM K mg CG) (Y:V5 K mg):qp P w K mg base qM 8 f fd ["ground"] (RO CG):=by
 obtain⟨fL,fdL,hL⟩:=Y.lack
 obtain⟨fB,fdB,hB⟩:=Y.nb
 obtain⟨fG,fdG,hG⟩:=Y.gets
 obtain⟨fR,fdR,hR⟩:=Y.round
 obtain⟨fV,fdV,hV⟩:=Y.give
 obtain⟨fW,fdW,hW⟩:=Y.gives
 have GW:qp P w K mg base qM 7 fW fdW Yj (XD CG):=WO hW.fn B G T M hB hL hG hR hV
 refine F.okJ Mb (λvs H Q E h=>?_) (λcdv A outer s H vs Q E hr h=>?_)
 . obtain⟨g,rs,rfl,_⟩:=h
   rfl
 . obtain⟨g,rs,rfl,gr,good,le14,q⟩:=h
   refine⟨_,qh (qA (qJ hW GW hr (by rfl) (qb (jv 0) (qb jO qf)))),?_⟩
   refine⟨_,rfl,λd hd=>?_⟩
   have s1:Same H (upd H d (.dK [])):=qj hd
   have hd1:upd H d (.dK []) d=some (.dK []):=qd
   generalize upd H d (.dK [])=H1 at s1 hd1
   have ap:Xs CG H1 g d:=λdx lo rd h=>by
     obtain⟨dx',lo',rd',kvs',h1,_,h3,_⟩:=gr
     have:=s1 _ _ h1
     rw[h]at this
     cases this
     exact λe=>by rw[e,hd]at h3;cases h3
   refine⟨g,d,rs,rfl,gr.mono s1,good,le14,⟨[],hd1,λz=>rfl,List.nodup_nil,λk h=>(nomatch h)⟩,ap,λH3 l3 ps R hl3 hl3' rnds fz num all fr3=>?_⟩
   exact q H3 l3 ps R (λb u h=>fr3 b u (s1 _ _ h) (ql h hd)) (qW s1 hl3) hl3' rnds (λp hp=>qW s1 (fz p hp)) all
end
end Rh
set_option Elab.async false
set_option linter.all false
set_option maxRecDepth 100000
set_option maxHeartbeats 4000000
namespace Rh
open PySem L2 PyProof.Rows MLab
abbrev Zg:Stmt:=top 4
abbrev J0:Stmt:=top 47
abbrev zY:Stmt:=top 48
abbrev Y5:Stmt:=top 49
section
variable {P:Program} {w:World} {K:PySem.W.Frag} {mg:Str->Option Value} {base:Heap}
def XA:Sp:=λvs H Q _=>∃b:Nat,vs=[.int b]/\b < 65536/\∀l,H l=none->Q (.ref l) (upd H l (.lst (Zr (Rb.memN b 16))))
theorem u7 (b:Nat):b < 2^ (Builtin.Int.intBits (b:Nat)):=by
 unfold Builtin.Int.intBits
 by_cases h:b=0
 . subst h;simp
 . rw[if_neg (by simpa using h)]
   exact Nat.lt_log2_self
theorem Xl {b:Nat} (h:b < 65536):Builtin.Int.intBits (b:Nat)<=16:=by
 unfold Builtin.Int.intBits
 by_cases h0:b=0
 . subst h0;simp
 . rw[if_neg (by simpa using h0)]
   have:b.log2 < 16:=(Nat.log2_lt h0).mpr h
   exact this
theorem XH (b i:Nat):Builtin.bitAnd ((b:Int) / 2^ ((i:Nat):Int).toNat) 1=(((b.testBit i).toNat:Nat):Int):=by
 have e1:(b:Int) / 2^ ((i:Nat):Int).toNat=((b / 2^i:Nat):Int):=by rw[Int.toNat_natCast];push_cast;rfl
 have e2:Builtin.bitAnd ((b / 2^i:Nat):Int) 1=(((b / 2^i)&&& 1:Nat):Int):=ba (b / 2^i) 1
 rw[e1,e2,Nat.and_one_is_mod,Rb.testBit_div]
 by_cases h:b / 2^i % 2=1
 . rw[h];rfl
 . have h':b / 2^i % 2=0:=by omega
   rw[h'];rfl
theorem wI:qv ["bits"] ["bits"] (qk Zg):=⟨rfl,rfl,rfl,by decide+kernel,rfl,by decide+kernel,by decide+kernel⟩
theorem WM {f:Addr} {fd:FuncData} (F:jQ K "numbers_in" "numbers_in" Zg f fd) (B:Jc mg):qp P w K mg base qM 1 f fd ["bits"] XA:=by
 refine F.okJ wI (λvs H Q E h=>?_) (λcdv A outer s H vs Q E hr h=>?_)
 . obtain⟨b,rfl,_⟩:=h
   rfl
 . obtain⟨b,rfl,hb,q⟩:=h
   refine⟨_,qh (qA (QI (N':=["number","bits"]) (ix:=[none,some 0]) rfl ⟨rfl,rfl,rfl,rfl,rfl⟩
     (ju (by rfl) B.rng (qb (X8 PySem.F.plainAttrs_int PySem.F.slot_int_bit_length PySem.F.type_int_bit_length vT (jv 0)) qf))
     (λC s2 H2 fp pins=>⟨qt (i:=0) (show (["number","bits"]:List Str).Nodup by decide+kernel) rfl (Or.inl rfl),j9 (qu j7 (qI VC (qI VB (jv 1) (jv 0)) qi) qi (qz _)),jv 0⟩))),?_⟩
   refine⟨_,rfl,rfl,_,rfl,rfl,_,rfl,by omega,?_,λD hD=>?_⟩
   . have:=Xl hb
     omega
   . rw[Int.toNat_natCast]
     refine Jb (λi σ' H'=>∃v,σ'=[v,some (.int b)]/\H'=upd H D (.lst (Zr (Rb.memN b i)))) ⟨none,rfl,rfl⟩ ?_ ?_
     . rintro i σ' H' hi ⟨v,rfl,rfl⟩
       rw[Int.zero_add]
       refine⟨_,rfl,_,rfl,_,_,rfl,rfl,by omega,_,_,rfl,rfl,rfl,_,rfl,?_⟩
       have e:decide (V.int (Builtin.bitAnd ((b:Int) / 2^ ((i:Nat):Int).toNat) 1)=V.int 1)=b.testBit i:=by
         rw[XH]
         cases b.testBit i<;>decide
       rw[e]
       have l:(Zr (Rb.memN b i)).length < sizeLine:=by
         rw[Wa]
         refine qo ?_
         have:=Xl hb
         have h1:(Rb.memN b i).length<=(List.range i).length:=List.length_filter_le _ _
         rw[List.length_range]at h1
         omega
       cases hb':b.testBit i with
       | true=>
         refine jY ⟨_,rfl,_,qd,l,some (.int i),rfl,?_⟩
         rw[jG,xD,Rb.memN_succ,hb']
         rfl
       | false=>
         refine qZ ⟨some (.int i),rfl,?_⟩
         rw[Rb.memN_succ,hb']
         simp
     . rintro σ' H' ⟨v,rfl,rfl⟩
       rw[Rb.memN_same (m:=16) hb (u7 b)]
       exact q D hD
def opn (rs:ja) (R:Rs Str) (n:Nat) (z:Str):Bool:=decide (qB R z=none/\n∉j8 rs (qB R) z)
def zT:Sp:=λvs H Q _=>∃(t:Addr) (rs:ja) (R:Rs Str) (z:Str) (n:Nat),vs=[.ref t,.int (n:Nat)]/\H t=some (.tup (js rs R z))/\(∀x∈j8 rs (qB R) z,x < 16)/\n < 16/\∀H',Same H H'->Q (.bl (opn rs R n z)) H'
theorem ye:qv ["label","number"] ["label","number"] (qk J0):=⟨rfl,rfl,rfl,by decide+kernel,rfl,by decide+kernel,by decide+kernel⟩
theorem vL {f fN:Addr} {fd fdN:FuncData} (F:jQ K "is_open_to" "is_open_to" J0 f fd) (B:Jc mg) (hN:je K mg "numbers_in" Zg ["bits"] fN fdN):qp P w K mg base qM 2 f fd ["label","number"] zT:=by
 have GN:qp P w K mg base qM 1 fN fdN ["bits"] XA:=WM hN.fn B
 refine F.okJ ye (λvs H Q E h=>?_) (λcdv A outer s H vs Q E hr h=>?_)
 . obtain⟨t,rs,R,z,n,rfl,_⟩:=h
   rfl
 . obtain⟨t,rs,R,z,n,rfl,ht,sm,n16,q⟩:=h
   refine⟨_,qh (qA (JQ (Qb j7 (qN qU (jv 0) qi (λ_ _=>rfl)) qS (qz _)) (Z1 (Qb Qy (jv 1) (qJ hN GN hr (by rfl) (qb (qN qU (jv 0) qi (λ_ _=>rfl)) qf)) (by with_unfolding_all rfl))))),?_⟩
   unfold opn at q
   cases c:qB R z with
   | some m=>
     have el:js rs R z=[.str "number",.int (m:Nat),.int (jD R z:Nat)]:=by unfold js;rw[c]
     rw[el]at ht
     rw[c,decide_eq_false (λh=>(nomatch h.1))]at q
     refine⟨_,rfl,t,_,0,_,rfl,rfl,.of ht,rfl,rfl,_,rfl,jJ (by decide+kernel) ?_⟩
     exact q H λ_ _ h=>h
   | none=>
     have el:js rs R z=[.str "endless",.int (Rb.setN (j8 rs (qB R) z):Nat)]:=by unfold js;rw[c]
     rw[el]at ht
     refine⟨_,rfl,t,_,0,_,rfl,rfl,.of ht,rfl,rfl,_,rfl,jI (by decide+kernel) ?_⟩
     have lt:Rb.setN (j8 rs (qB R) z) < 65536:=Rb.setN_lt (m:=16) sm
     refine⟨_,rfl,_,rfl,t,_,1,_,rfl,rfl,.of ht,rfl,_,rfl,lt,λl hl=>?_⟩
     refine⟨l,_,rfl,.inl (.of qd),rfl,ZK _,?_⟩
     have:=q _ (qj (o:=HO.lst (Zr (Rb.memN (Rb.setN (j8 rs (qB R) z)) 16))) hl)
     have e:(!Z3 (.int (n:Nat)) (Zr (Rb.memN (Rb.setN (j8 rs (qB R) z)) 16)))=decide (qB R z=none/\n∉j8 rs (qB R) z):=by
       rw[Yy,c]
       by_cases h:n∈j8 rs (qB R) z
       . rw[decide_eq_true (Rb.mem_memN.mpr ⟨n16,by rw[Rb.testBit_setN];exact decide_eq_true h⟩),decide_eq_false (λw=>w.2 h)]
         rfl
       . rw[decide_eq_false (λw=>h (by have:=(Rb.mem_memN.mp w).2;rw[Rb.testBit_setN]at this;exact of_decide_eq_true this)),decide_eq_true ⟨rfl,h⟩]
         rfl
     rw[<-e]at this
     exact this
end
end Rh
set_option Elab.async false
set_option linter.all false
set_option maxRecDepth 100000
set_option maxHeartbeats 4000000
namespace Rh
open PySem L2 PyProof.Rows MLab
def NU (m:Nat×Str):List V:=[.int (m.1:Int),.str m.2]
def J8 (H:Hp) (ps:List Addr) (ms:List (Nat×Str)):Prop:=ps.length=ms.length/\∀(i:Nat) (p:Addr) (m:Nat×Str),ps[i]?=some p->ms[i]?=some m->H p=some (.tup (NU m))
theorem J8.mono {H H':Hp} {ps:List Addr} {ms:List (Nat×Str)} (h:J8 H ps ms) (s:Same H H'):J8 H' ps ms:=⟨h.1,λi p m e1 e2=>s _ _ (h.2 i p m e1 e2)⟩
theorem J8.nil (H:Hp):J8 H [] []:=⟨rfl,λi p m e=>by simp at e⟩
theorem J8.app {H:Hp} {ps qs:List Addr} {ms ns:List (Nat×Str)} (h:J8 H ps ms) (k:J8 H qs ns):J8 H (ps++qs) (ms++ns):=by
 refine⟨by rw[List.length_append,List.length_append,h.1,k.1],λi p m e1 e2=>?_⟩
 by_cases hi:i < ps.length
 . rw[List.getElem?_append_left hi]at e1
   rw[List.getElem?_append_left (by rw[<-h.1];exact hi)]at e2
   exact h.2 i p m e1 e2
 . have hi':ps.length<=i:=Nat.le_of_not_lt hi
   rw[List.getElem?_append_right hi']at e1
   rw[List.getElem?_append_right (by rw[<-h.1];exact hi'),<-h.1]at e2
   exact k.2 _ p m e1 e2
theorem J8.one {H:Hp} {p:Addr} {m:Nat×Str} (h:H p=some (.tup (NU m))):J8 H [p] [m]:=by
 refine⟨rfl,λi p' m' e1 e2=>?_⟩
 cases i with
 | zero=>cases e1;cases e2;exact h
 | succ i=>simp at e1
def lst (rs:ja) (R:Rs Str) (z:Str):Nat:=Rb.lackN (j8 rs (qB R) z)
def opens (rs:ja) (R:Rs Str) (z:Str):List (Nat×Str):=((Qp rs z).filter (opn rs R (lst rs R z))).map λy=>(lst rs R z,y)
def Uj (CG:Addr):Sp:=λvs H Q _=>∃(g D:Addr) (rs:ja) (R:Rs Str) (z:Str),vs=[.ref g,.ref D,.str z]/\jZ CG H g rs/\qy rs/\rs.length<=14/\JV H D rs R/\Kb (Qp rs) (·∈rs.map (·.1)) (qB R) (jD R)/\z∈rs.map (·.1)/\qB R z=none/\
 ∀H' L ts,Same H H'->H L=none->H' L=some (.lst (ts.map V.ref))->J8 H' ts (opens rs R z)->Q (.ref L) H'
theorem vW {ns ms:List Nat} (h:∀x,x∈ns↔x∈ms):Rb.lackN ns=Rb.lackN ms:=by
 have a:Rb.Lacks (Rb.lackN ns) ns:=Rb.lackI_lacks _
 exact Rb.lackN_eq ⟨λm=>a.1 ((h _).mpr m),λx hx=>(h x).mp (a.2 x hx)⟩
theorem Yq {rs:ja} (g:qy rs) {R:Rs Str} (L:Kb (Qp rs) (·∈rs.map (·.1)) (qB R) (jD R)) {z:Str} (hz:z∈rs.map (·.1)):∀x∈j8 rs (qB R) z,x<=8:=λx hx=>by
 obtain⟨y,hy,ey⟩:=jP.mp hx
 exact Yn g L (L.cl hz hy) ey
theorem xf {rs:ja} (g:qy rs) {R:Rs Str} (L:Kb (Qp rs) (·∈rs.map (·.1)) (qB R) (jD R)) {z:Str} (hz:z∈rs.map (·.1)):lst rs R z < 16:=by
 have a:Rb.Lacks (lst rs R z) (j8 rs (qB R) z):=Rb.lackI_lacks _
 rcases Nat.lt_or_ge (lst rs R z) 16 with c | c
 . exact c
 . have:=Yq g L hz 9 (a.2 9 (by omega))
   omega
section
variable {P:Program} {w:World} {K:PySem.W.Frag} {mg:Str->Option Value} {base:Heap}
theorem Ur:qv ["ground","labels","name","least"] ["ground","labels","name"] (qk zY):=⟨rfl,rfl,rfl,by decide+kernel,rfl,by decide+kernel,by decide+kernel⟩
theorem yP {f fL fN fI CG:Addr} {fd fdL fdN fdI:FuncData} (F:jQ K "open_roads" "open_roads" zY f fd) (B:Jc mg) (G:Qk mg) (T:QL K mg) (M:GM K mg CG) (hL:je K mg "lacking" j6 ["numbers"] fL fdL) (hN:je K mg "numbers_in" Zg ["bits"] fN fdN) (hI:je K mg "is_open_to" J0 ["label","number"] fI fdI):qp P w K mg base qM 3 f fd ["ground","labels","name"] (Uj CG):=by
 have GL:qp P w K mg base qM 1 fL fdL ["numbers"] (ZR K):=Yl hL.fn
 have GN:qp P w K mg base qM 1 fN fdN ["bits"] XA:=WM hN.fn B
 have GI:qp P w K mg base qM 2 fI fdI ["label","number"] zT:=vL hI.fn B hN
 obtain⟨fC,fdC,C⟩:=M.cls
 obtain⟨fR,fdR,hR⟩:=M.fr
 obtain⟨fA,fdA,hA⟩:=M.isn
 have GR:qp P w K mg base qM 2 fR fdR ["self","name"] (zw CG):=Ym hR.fn C B G T hA
 refine F.okJ Ur (λvs H Q E h=>?_) (λcdv A outer s H vs Q E hr h=>?_)
 . obtain⟨g,D,rs,R,z,rfl,_⟩:=h
   rfl
 . obtain⟨g,D,rs,R,z,rfl,gr,good,le14,lb,L,hz,ez,q⟩:=h
   have hu:=jA hr
   have r1:q5 1 _:=hr.mono (by decide)
   refine⟨_,qe (qw (i:=3) Ur.nd rfl (Or.inr rfl) (qJ hL GL r1 (by rfl) (qb (qJ hN GN r1 (by rfl) (qb (qN qU (qG hu (jv 1) (jv 2) (λ_ _=>rfl)) qi (λ_ _=>rfl)) qf)) qf)))
     (qh (qA (QI (N':=["end","least","labels"]) (ix:=[none,some 3,some 1]) (tt:=tB (zQ zT [] E0 (jx (Ud (jm 2) (jm 0)) (jx (jm 1) Q0)))) (te:=wp (jx (jm 1) (jx (jm 0) Q0))) rfl ⟨rfl,rfl,rfl,rfl,rfl⟩ (qO (xu hR C.cl GR hr (jv 0) (qb (jv 2) qf))) (λC s2 H2 fp pins=>
       ⟨qt (i:=0) (show (["end","least","labels"]:List Str).Nodup by decide+kernel) rfl (Or.inl rfl),j9 (jt (qJ hI GI hr (by rfl) (qb (qG hu (jv 2) (jv 0) (λ_ _=>rfl)) (qb (jv 1) qf)))),jN (qb (jv 1) (qb (jv 0) qf))⟩)))),?_⟩
   have gl:∀{G':Hp} {y:Str},JV G' D rs R->y∈rs.map (·.1)->∃t,jB G' D (.str y) (some (.ref t))/\G' t=some (.tup (js rs R y)):=λ{G' y} lb' hy=>by
     obtain⟨kvs,a,_,c⟩:=lb'.at_
     obtain⟨r,hr',rfl⟩:=List.mem_map.mp hy
     obtain⟨t,u,v⟩:=c r hr'
     exact⟨t,by rw[<-u];exact jB.k (k:=(Sum.inr r.1:qD)) a,v⟩
   obtain⟨t,gt,ht⟩:=gl lb hz
   have el:js rs R z=[.str "endless",.int (Rb.setN (j8 rs (qB R) z):Nat)]:=by unfold js;rw[ez]
   rw[el]at ht
   have sm8:=Yq good L hz
   have lt:Rb.setN (j8 rs (qB R) z) < 65536:=Rb.setN_lt (m:=16) λx hx=>by have:=sm8 x hx;omega
   refine⟨_,rfl,_,rfl,D,_,rfl,gt,t,_,1,_,rfl,rfl,.of ht,rfl,_,rfl,lt,λl hl=>?_⟩
   have s1:Same H (upd H l (.lst (Zr (Rb.memN (Rb.setN (j8 rs (qB R) z)) 16)))):=qj hl
   have hl1:upd H l (.lst (Zr (Rb.memN (Rb.setN (j8 rs (qB R) z)) 16))) l=some (.lst (Zr (Rb.memN (Rb.setN (j8 rs (qB R) z)) 16))):=qd
   generalize upd H l (.lst (Zr (Rb.memN (Rb.setN (j8 rs (qB R) z)) 16)))=H1 at s1 hl1
   have lm:(Rb.memN (Rb.setN (j8 rs (qB R) z)) 16).length<=16:=by
     have h1:(Rb.memN (Rb.setN (j8 rs (qB R) z)) 16).length<=(List.range 16).length:=List.length_filter_le _ _
     rwa [List.length_range]at h1
   have ele:Rb.lackN (Rb.memN (Rb.setN (j8 rs (qB R) z)) 16)=lst rs R z:=vW λx=>by
     rw[Rb.mem_memN,Rb.testBit_setN,decide_eq_true_iff]
     exact⟨λh=>h.2,λh=>⟨by have:=sm8 x h;omega,h⟩⟩
   refine⟨l,_,rfl,.of hl1,by omega,λH2 s2=>?_⟩
   rw[ele]
   have s12:=s1.trans s2
   have l16:=xf good L hz
   obtain⟨dx,fs,hg,e1,e2⟩:=(gr.mono s12).ins
   obtain⟨r,hr',er⟩:=List.mem_map.mp hz
   refine⟨_,rfl,g,dx,fs,rfl,hg,e2,_,rfl,g,rs,r,by rw[er];rfl,gr.mono s12,hr',good.nm r hr',λH3 le s3 hle=>?_⟩
   have s4:Same H (upd H3 le (.lst ((jW rs r).map V.str))):=s12.trans (s3.trans (qj hle))
   have hl4:upd H3 le (.lst ((jW rs r).map V.str)) le=some (.lst ((jW rs r).map V.str)):=qd
   generalize upd H3 le (.lst ((jW rs r).map V.str))=H4 at s4 hl4
   have egz:Qp rs z=jW rs r:=by rw[<-er,J3 good.nd hr']
   have lr:=XQ (rs:=rs) r
   refine⟨le,rfl,⟨_,.of hl4⟩,λW hW=>?_⟩
   refine QJ (K:=K) (a:=le) (xs:=(jW rs r).map V.str) (λj σ'' G5=>∃(v0:Option V) (ts:List Addr),σ''=[v0,some (.int (lst rs R z:Nat)),some (.ref D)]/\Same H4 G5/\G5 W=some (.lst (ts.map V.ref))/\J8 G5 ts ((((jW rs r).take j).filter (opn rs R (lst rs R z))).map λy=>(lst rs R z,y)))
     ⟨none,[],rfl,qj hW,qd,J8.nil _⟩ (λj σ'' G5 _ ⟨_,_,_,s,_⟩=>.of (s _ _ hl4)) ?_ ?_
   . rintro j x σ'' G5 hx ⟨v0,ts,rfl,s5,hW5,mv⟩
     obtain⟨y,ey,hy,rfl⟩:=Je hx
     have hj:=(List.getElem?_eq_some_iff.mp ey).1
     have hyN:y∈rs.map (·.1):=L.cl hz (by rw[egz];exact hy)
     have sA:=s4.trans s5
     obtain⟨ty,gy,hty⟩:=gl (lb.mono sA) hyN
     refine⟨_,rfl,_,rfl,D,_,rfl,gy,_,rfl,ty,rs,R,y,lst rs R z,rfl,hty,λx hx=>by have:=Yq good L hyN x hx;omega,l16,λG6 s6=>⟨_,rfl,?_⟩⟩
     have etk:((jW rs r).take (j+1)).filter (opn rs R (lst rs R z))=((jW rs r).take j).filter (opn rs R (lst rs R z))++[y].filter (opn rs R (lst rs R z)):=by rw[List.take_add_one,ey,List.filter_append];rfl
     rw[etk]
     cases c:opn rs R (lst rs R z) y with
     | false=>
       refine qZ ⟨_,ts,rfl,s5.trans s6,s6 _ _ hW5,?_⟩
       have e0:[y].filter (opn rs R (lst rs R z))=[]:=by simp [c]
       rw[e0,List.append_nil]
       exact mv.mono s6
     | true=>
       have lts:=mv.1
       rw[List.length_map]at lts
       have lf:=List.length_filter_le (opn rs R (lst rs R z)) ((jW rs r).take j)
       rw[List.length_take]at lf
       refine jY ⟨_,rfl,_,rfl,by show 2<=sizeLine;decide,λt6 ht6=>?_⟩
       refine⟨_,qm (s6 _ _ hW5) ht6,by rw[List.length_map];exact qo (by omega),_,ts++[t6],rfl,Same.upd (s5.trans (s6.trans (qj ht6))) hW,by rw[List.map_append];exact qd,?_⟩
       have e0:[y].filter (opn rs R (lst rs R z))=[y]:=by simp [c]
       rw[e0,List.map_append]
       have nt:t6≠W:=λq=>by rw[q,s6 _ _ hW5]at ht6;cases ht6
       refine J8.app ⟨mv.1,λk p' m a b=>?_⟩ (J8.one (by rw[qg nt];exact qd))
       have z1:=s6 _ _ (mv.2 k p' m a b)
       have n1:p'≠W:=λq=>by rw[q,s6 _ _ hW5]at z1;cases z1
       rw[qg n1]
       exact qm z1 ht6
   . rintro σ'' G5 ⟨v0,ts,rfl,s5,hW5,mv⟩
     rw[List.length_map,List.take_of_length_le (Nat.le_refl _),<-egz]at mv
     exact q G5 W ts (s4.trans s5) (qW s4 hW) hW5 mv
end
end Rh
set_option Elab.async false
set_option linter.all false
set_option maxRecDepth 100000
set_option maxHeartbeats 4000000
namespace Rh
open PySem L2 PyProof.Rows MLab
abbrev QU:Stmt:=top 28
def Xz (CG:Addr):Sp:=λvs H Q _=>∃(g:Addr) (rs:ja) (z:Str),vs=[.ref g,.str z]/\jZ CG H g rs/\(∃r∈rs,r.1=z)/\∀H',Same H H'->Q .non H'
section
variable {P:Program} {w:World} {K:PySem.W.Frag} {mg:Str->Option Value} {base:Heap}
abbrev UJ:List Str:=["ground","thing"]
theorem RS:qv UJ UJ (qk QU):=⟨rfl,rfl,rfl,by decide+kernel,rfl,by decide+kernel,by decide+kernel⟩
theorem WL {f CG:Addr} {fd:FuncData} (F:jQ K "need_place" "need_place" QU f fd) (G:Qk mg) (M:GM K mg CG):qp P w K mg base qM 2 f fd UJ (Xz CG):=by
 obtain⟨fC,fdC,C⟩:=M.cls
 obtain⟨fN,fdN,hN⟩:=M.nm
 have GN:qp P w K mg base qM 1 fN fdN ["self"] (Jy CG):=J2 hN.fn C G
 refine F.okJ RS (λvs H Q E h=>?_) (λcdv A outer s H vs Q E hr h=>?_)
 . obtain⟨g,rs,z,rfl,_⟩:=h
   rfl
 . obtain⟨g,rs,z,rfl,gr,hz,q⟩:=h
   refine⟨_,qh (qL (qu Qy (jv 1) (UM hN C.cl GN hr (jv 0)) (by with_unfolding_all rfl)) jc qC),?_⟩
   obtain⟨dx,fs,hg,l1,l2⟩:=gr.ins
   refine⟨_,rfl,_,rfl,g,dx,fs,rfl,hg,l1,g,rs,rfl,gr,λl hl=>⟨l,_,rfl,.inl (.of qd),rfl,Z4 _,_,rfl,?_⟩⟩
   have e:Z3 (.str z) ((rs.map (·.1)).map V.str)=true:=X9 (by obtain⟨r,hr',rfl⟩:=hz;exact List.mem_map.mpr ⟨r,hr',rfl⟩)
   show if (!Z3 (.str z) ((rs.map (·.1)).map V.str))=true then _ else _
   rw[e]
   exact qZ (q _ (qj hl))
end
theorem WJ {rs:ja} {R:Rs Str} (L:Kb (Qp rs) (·∈rs.map (·.1)) (qB R) (jD R)) {z:Str} (hz:z∈rs.map (·.1)) (ez:qB R z=none):opens rs R z≠[]:=by
 have a:Rb.Lacks (lst rs R z) (j8 rs (qB R) z):=Rb.lackI_lacks _
 obtain⟨y,hy,ey,no⟩:=L.e (m:=lst rs R z) hz ez (λj hj=>jP.mp (a.2 j hj)) (λy hy e=>a.1 (jP.mpr ⟨y,hy,e⟩))
 intro h
 have:(lst rs R z,y)∈opens rs R z:=List.mem_map.mpr ⟨y,List.mem_filter.mpr ⟨hy,decide_eq_true ⟨ey,λm=>by
   obtain⟨u,hu,eu⟩:=jP.mp m
   exact no u hu eu⟩⟩,rfl⟩
 rw[h]at this
 cases this
def Vo (CG:Addr):Sp:=λvs H Q _=>∃(g:Addr) (rs:ja) (z:Str),vs=[.ref g,.str z]/\jZ CG H g rs/\qy rs/\rs.length<=14/\z∈rs.map (·.1)/\
 ∀H' v R,Same H H'->All (Qp rs) (rs.map (·.1)) 0 [] R->((∃n,qB R z=some n/\v=.non)\/(qB R z=none/\∃t m ms,opens rs R z=m::ms/\v=.ref t/\H' t=some (.tup (NU m))))->Q v H'
section
variable {P:Program} {w:World} {K:PySem.W.Frag} {mg:Str->Option Value} {base:Heap}
theorem Vq:qv ["ground","name","labels"] ["ground","name"] (qk Y5):=⟨rfl,rfl,rfl,by decide+kernel,rfl,by decide+kernel,by decide+kernel⟩
theorem ui {f fP fN fI fO CG:Addr} {fd fdP fdN fdI fdO:FuncData} (F:jQ K "open_road" "open_road" Y5 f fd) (B:Jc mg) (G:Qk mg) (T:QL K mg) (M:GM K mg CG) (Y:V5 K mg) (hP:je K mg "need_place" QU UJ fP fdP) (hN:je K mg "numbers_in" Zg ["bits"] fN fdN) (hI:je K mg "is_open_to" J0 ["label","number"] fI fdI) (hO:je K mg "open_roads" zY ["ground","labels","name"] fO fdO):qp P w K mg base qM 9 f fd ["ground","name"] (Vo CG):=by
 obtain⟨fL,fdL,hL⟩:=Y.lack
 obtain⟨fB,fdB,hB⟩:=Y.labels
 have GP:qp P w K mg base qM 2 fP fdP UJ (Xz CG):=WL hP.fn G M
 have GB:qp P w K mg base qM 8 fB fdB ["ground"] (Zv CG):=ZW hB.fn B G T M Y
 have GO:qp P w K mg base qM 3 fO fdO ["ground","labels","name"] (Uj CG):=yP hO.fn B G T M hL hN hI
 refine F.okJ Vq (λvs H Q E h=>?_) (λcdv A outer s H vs Q E hr h=>?_)
 . obtain⟨g,rs,z,rfl,_⟩:=h
   rfl
 . obtain⟨g,rs,z,rfl,gr,good,le14,hz,q⟩:=h
   have hu:=jA hr
   refine⟨_,qe (qY (qJ hP GP (hr.mono (by decide)) (by rfl) (qb (jv 0) (qb (jv 1) qf))))
     (qe (qw (i:=2) Vq.nd rfl (Or.inl rfl) (qJ hB GB hr (by rfl) (qb (jv 0) qf)))
     (qe (qL (qu j7 (qN qU (qG hu (jv 2) (jv 1) (λ_ _=>rfl)) qi (λ_ _=>rfl)) qS (qz _)) (qh (qA X7)) qC)
     (qh (qA (qN jU (qJ hO GO (hr.mono (by decide)) (by rfl) (qb (jv 0) (qb (jv 2) (qb (jv 1) qf)))) qi (λ_ _=>rfl)))))),?_⟩
   refine⟨_,rfl,_,rfl,g,rs,z,rfl,gr,List.mem_map.mp hz,λH1 s1=>?_⟩
   refine⟨_,rfl,g,rs,rfl,gr.mono s1,good,le14,λH2 D R s2 hD lb all=>?_⟩
   have s12:=s1.trans s2
   have L:=xj (JR good.nd) all
   obtain⟨kvs,a,_,c⟩:=lb.at_
   obtain⟨r,hr',er⟩:=List.mem_map.mp hz
   obtain⟨t,u,v⟩:=c r hr'
   rw[er]at u v
   have gd:jB H2 D (.str z) (some (.ref t)):=by rw[<-u];exact jB.k (k:=(Sum.inr z:qD)) a
   cases cz:qB R z with
   | some n=>
     have el:js rs R z=[.str "number",.int (n:Nat),.int (jD R z:Nat)]:=by unfold js;rw[cz]
     rw[el]at v
     exact⟨_,rfl,_,rfl,D,_,rfl,gd,t,_,0,_,rfl,rfl,.of v,rfl,rfl,_,rfl,jI (by decide+kernel) (q H2 _ R s12 all (.inl ⟨n,cz,rfl⟩))⟩
   | none=>
     have el:js rs R z=[.str "endless",.int (Rb.setN (j8 rs (qB R) z):Nat)]:=by unfold js;rw[cz]
     rw[el]at v
     refine⟨_,rfl,_,rfl,D,_,rfl,gd,t,_,0,_,rfl,rfl,.of v,rfl,rfl,_,rfl,jJ (by decide+kernel) ?_⟩
     refine⟨_,rfl,_,rfl,_,rfl,g,D,rs,R,z,rfl,gr.mono s12,good,le14,lb,L,hz,cz,λH3 l ts s3 hl hl3 mv=>?_⟩
     obtain⟨m,ms,em⟩:=List.exists_cons_of_ne_nil (WJ L hz cz)
     cases ts with
     | nil=>have:=mv.1;rw[em]at this;cases this
     | cons t0 ts=>
       have h0:=mv.2 0 t0 m rfl (by rw[em];rfl)
       exact⟨l,_,0,_,rfl,rfl,.of hl3,(show Vc ((t0::ts).map V.ref) ((0:Nat):Int)=some (V.ref t0) from QS rfl),q H3 _ R (s12.trans s3) all (.inr ⟨cz,t0,m,ms,em,rfl,h0⟩)⟩
end
end Rh
set_option Elab.async false
set_option linter.all false
set_option maxRecDepth 100000
set_option maxHeartbeats 4000000
namespace Rh
open PySem L2 PyProof.Rows MLab Rb
abbrev Jz:Stmt:=top 15
abbrev Zy:Stmt:=top 32
abbrev z8:Stmt:=top 33
abbrev RX:Stmt:=top 45
abbrev vq:Stmt:=top 46
abbrev z6:Stmt:=QP (top 35) 0
abbrev z5:Stmt:=QP (top 35) 1
abbrev Yd:Stmt:=QP (top 36) 0
abbrev Yc:Stmt:=QP (top 36) 1
structure Cl (K:PySem.W.Frag) (mg:Str->Option Value) (x qual fld:Str) (st:Stmt) (C f:Addr) (fd:FuncData):Prop where
 cl:YL K C
 mkr:Mk K C f
 ns:mg x=some (.ref C)
 na:jF K C fld
 fn:jQ K "__init__" qual st f fd
 bi:jK K fd ["self",fld] []
 ca:PySem.W.findIn K (.ref C) "__class__"=some (some (.builtin "object.__class__"))
 ob:PySem.W.mroIn K C (.type "object")=some true
structure Wk (K:PySem.W.Frag) (mg:Str->Option Value):Prop where
 isi:mg "isinstance"=none
 bool:mg "bool"=none
 kii:PySem.W.kitOne K (.type "int") (.type "int")=some true
 kib:PySem.W.kitOne K (.type "int") (.type "bool")=some false
 most:∃t,mg "MOST_NUMBER"=some (.int 15 t)
 mset:∃t,mg "MOST_BITS"=some (.int 65535 t)
theorem lk1 {f:Str} {v:V}:[(f,v)].lookup f=some v:=by simp [List.lookup]
def U7 (CN CE:Addr) (H:Hp) (a:Addr):W->Prop
 | .num n=>∃dx,H a=some (.ins CN dx [("number",.int (n:Nat))])
 | .edl b=>∃dx,H a=some (.ins CE dx [("bits",.int (b:Nat))])
def zP:W->Str
 | .num _=>"number"
 | .edl _=>"endless"
def Vg:W->Nat
 | .num n=>n
 | .edl b=>b
section
variable {P:Program} {w:World} {K:PySem.W.Frag} {mg:Str->Option Value} {base:Heap}
def zR:Sp:=λvs H Q _=>∃i:Int,vs=[.int i]/\Q (.bl true) H
def Wy:Sp:=λvs H Q _=>∃i:Int,vs=[.int i]/\0<=i/\i<=15/\Q (.bl true) H
def Up:Sp:=λvs H Q _=>∃i:Int,vs=[.int i]/\0<=i/\i<=65535/\Q (.bl true) H
theorem wG:qv ["thing"] ["thing"] (qk Jz):=⟨rfl,rfl,rfl,by decide+kernel,rfl,by decide+kernel,by decide+kernel⟩
theorem WK {f:Addr} {fd:FuncData} (F:jQ K "is_whole" "is_whole" Jz f fd) (B:Jc mg) (T:Wk K mg):qp P w K mg base qM 1 f fd ["thing"] zR:=by
 refine F.okJ wG (λvs H Q E h=>?_) (λcdv A outer s H vs Q E hr h=>?_)
 . obtain⟨i,rfl,_⟩:=h
   rfl
 . obtain⟨i,rfl,q⟩:=h
   refine⟨_,qh (qA (JQ (qE jq (by rfl) T.isi boot_isinstance (qb (jv 0) (qb (Qz (v:=.ty "int") (by rfl) B.int boot_int rfl) qf)))
     (Z1 (GK (qE jq (by rfl) T.isi boot_isinstance (qb (jv 0) (qb (Qz (v:=.ty "bool") (by rfl) T.bool boot_bool rfl) qf))))))),?_⟩
   exact⟨_,rfl,_,_,_,_,rfl,rfl,.int i,T.kii,_,rfl,jY ⟨_,rfl,_,_,_,_,rfl,rfl,.int i,T.kib,_,rfl,q⟩⟩
theorem yc:qv ["thing"] ["thing"] (qk Zy):=⟨rfl,rfl,rfl,by decide+kernel,rfl,by decide+kernel,by decide+kernel⟩
theorem vI {f fW:Addr} {fd fdW:FuncData} (F:jQ K "is_number" "is_number" Zy f fd) (B:Jc mg) (T:Wk K mg) (hW:je K mg "is_whole" Jz ["thing"] fW fdW):qp P w K mg base qM 2 f fd ["thing"] Wy:=by
 have GW:qp P w K mg base qM 1 fW fdW ["thing"] zR:=WK hW.fn B T
 obtain⟨t,hm⟩:=T.most
 refine F.okJ yc (λvs H Q E h=>?_) (λcdv A outer s H vs Q E hr h=>?_)
 . obtain⟨i,rfl,_⟩:=h
   rfl
 . obtain⟨i,rfl,h0,h1,q⟩:=h
   refine⟨_,qh (qA (JQ (qJ hW GW hr (by rfl) (qb (jv 0) qf)) (JQ (Qb UF qi (jv 0) (qz _)) (Z1 (Qb UF (jv 0) (Jm (v:=.int 15) (by rfl) hm ⟨_,rfl⟩) (qz _)))))),?_⟩
   refine⟨_,rfl,i,rfl,_,rfl,jY ⟨_,rfl,_,_,rfl,rfl,_,rfl,?_⟩⟩
   rw[decide_eq_true h0]
   refine jY ⟨_,rfl,_,_,rfl,rfl,?_⟩
   have e:decide (i<=15)=true:=decide_eq_true h1
   show Q (.bl (decide (i<=15))) H
   rw[e]
   exact q
theorem wL:qv ["thing"] ["thing"] (qk z8):=⟨rfl,rfl,rfl,by decide+kernel,rfl,by decide+kernel,by decide+kernel⟩
theorem yX {f fW:Addr} {fd fdW:FuncData} (F:jQ K "is_set" "is_set" z8 f fd) (B:Jc mg) (T:Wk K mg) (hW:je K mg "is_whole" Jz ["thing"] fW fdW):qp P w K mg base qM 2 f fd ["thing"] Up:=by
 have GW:qp P w K mg base qM 1 fW fdW ["thing"] zR:=WK hW.fn B T
 obtain⟨t,hm⟩:=T.mset
 refine F.okJ wL (λvs H Q E h=>?_) (λcdv A outer s H vs Q E hr h=>?_)
 . obtain⟨i,rfl,_⟩:=h
   rfl
 . obtain⟨i,rfl,h0,h1,q⟩:=h
   refine⟨_,qh (qA (JQ (qJ hW GW hr (by rfl) (qb (jv 0) qf)) (JQ (Qb UF qi (jv 0) (qz _)) (Z1 (Qb UF (jv 0) (Jm (v:=.int 65535) (by rfl) hm ⟨_,rfl⟩) (qz _)))))),?_⟩
   refine⟨_,rfl,i,rfl,_,rfl,jY ⟨_,rfl,_,_,rfl,rfl,_,rfl,?_⟩⟩
   rw[decide_eq_true h0]
   refine jY ⟨_,rfl,_,_,rfl,rfl,?_⟩
   have e:decide (i<=65535)=true:=decide_eq_true h1
   show Q (.bl (decide (i<=65535))) H
   rw[e]
   exact q
def XC (C:Addr) (fld:Str) (hi:Int):Sp:=λvs H Q _=>∃(x dx:Addr) (n:Int),vs=[.ref x,.int n]/\0<=n/\n<=hi/\H x=some (.ins C dx [])/\Q .non (upd H x (.ins C dx [(fld,.int n)]))
theorem wK:qv ["self","number"] ["self","number"] (qk z6):=⟨rfl,rfl,rfl,by decide+kernel,rfl,by decide+kernel,by decide+kernel⟩
theorem yS {f fB fW CN:Addr} {fd fdB fdW:FuncData} (F:jQ K "__init__" "Numbered.__init__" z6 f fd) (B:Jc mg) (T:Wk K mg) (hW:je K mg "is_whole" Jz ["thing"] fW fdW) (hB:je K mg "is_number" Zy ["thing"] fB fdB) (cl:YL K CN) (na:jF K CN "number"):
   qp P w K mg base qM 3 f fd ["self","number"] (XC CN "number" 15):=by
 have GB:qp P w K mg base qM 2 fB fdB ["thing"] Wy:=vI hB.fn B T hW
 refine F.okJ wK (λvs H Q E h=>?_) (λcdv A outer s H vs Q E hr h=>?_)
 . obtain⟨x,dx,n,rfl,_⟩:=h
   rfl
 . obtain⟨x,dx,n,rfl,h0,h1,hx,q⟩:=h
   refine⟨_,qe (qL (Qi (jt (qJ hB GB hr (by rfl) (qb (jv 1) qf)))) jc qC) (qh (XZ (jv 0) (jv 1) rfl)),?_⟩
   exact⟨_,rfl,n,rfl,h0,h1,_,rfl,qZ ⟨_,rfl,_,rfl,x,CN,dx,[],rfl,hx,cl,na,by decide,q⟩⟩
theorem wO:qv ["self","bits"] ["self","bits"] (qk Yd):=⟨rfl,rfl,rfl,by decide+kernel,rfl,by decide+kernel,by decide+kernel⟩
theorem y3 {f fB fW CE:Addr} {fd fdB fdW:FuncData} (F:jQ K "__init__" "Endless.__init__" Yd f fd) (B:Jc mg) (T:Wk K mg) (hW:je K mg "is_whole" Jz ["thing"] fW fdW) (hB:je K mg "is_set" z8 ["thing"] fB fdB) (cl:YL K CE) (na:jF K CE "bits"):
   qp P w K mg base qM 3 f fd ["self","bits"] (XC CE "bits" 65535):=by
 have GB:qp P w K mg base qM 2 fB fdB ["thing"] Up:=yX hB.fn B T hW
 refine F.okJ wO (λvs H Q E h=>?_) (λcdv A outer s H vs Q E hr h=>?_)
 . obtain⟨x,dx,n,rfl,_⟩:=h
   rfl
 . obtain⟨x,dx,n,rfl,h0,h1,hx,q⟩:=h
   refine⟨_,qe (qL (Qi (jt (qJ hB GB hr (by rfl) (qb (jv 1) qf)))) jc qC) (qh (XZ (jv 0) (jv 1) rfl)),?_⟩
   exact⟨_,rfl,n,rfl,h0,h1,_,rfl,qZ ⟨_,rfl,_,rfl,x,CE,dx,[],rfl,hx,cl,na,by decide,q⟩⟩
def Ug (CN CE:Addr):Sp:=λvs H Q _=>∃a w,vs=[.ref a]/\U7 CN CE H a w/\∀p,H p=none->Q (.ref p) (upd H p (.tup [.str (zP w),.int (Vg w:Nat)]))
def Xx (CN CE:Addr):Sp:=λvs H Q E=>(∃a n,vs=[.ref a]/\U7 CN CE H a (.num n))/\Ug CN CE vs H Q E
def Xy (CN CE:Addr):Sp:=λvs H Q E=>(∃a b,vs=[.ref a]/\U7 CN CE H a (.edl b))/\Ug CN CE vs H Q E
theorem U7.inj {CN CE:Addr} (hne:CN≠CE) {H:Hp} {a:Addr} {u v:W} (h:U7 CN CE H a u) (g:U7 CN CE H a v):u=v:=by
 cases u<;>cases v<;>obtain⟨dx,e⟩:=h<;>obtain⟨dx',e'⟩:=g<;>rw[e]at e'
 . have:=(HO.ins.inj (Option.some.inj e')).2.2
   have h3:=List.cons.inj this
   have h4:=V.int.inj (Prod.mk.inj h3.1).2
   congr 1
   omega
 . exact absurd (HO.ins.inj (Option.some.inj e')).1 hne
 . exact absurd (HO.ins.inj (Option.some.inj e')).1 (Ne.symm hne)
 . have:=(HO.ins.inj (Option.some.inj e')).2.2
   have h3:=List.cons.inj this
   have h4:=V.int.inj (Prod.mk.inj h3.1).2
   congr 1
   omega
theorem wJ:qv ["self"] ["self"] (qk z5):=⟨rfl,rfl,rfl,by decide+kernel,rfl,by decide+kernel,by decide+kernel⟩
theorem yR {f CN CE:Addr} {fd:FuncData} (F:jQ K "told" "Numbered.told" z5 f fd) (cl:YL K CN) (na:jF K CN "number") (hne:CN≠CE):qp P w K mg base qM 1 f fd ["self"] (Xx CN CE):=by
 refine F.okJ wJ (λvs H Q E h=>?_) (λcdv A outer s H vs Q E hr h=>?_)
 . obtain⟨_,a,w,rfl,_⟩:=h
   rfl
 . obtain⟨⟨a,n,rfl,hN⟩,a',w,e,hw,q⟩:=h
   cases e
   have ew:=U7.inj hne hw hN
   subst ew
   obtain⟨dx,hx⟩:=hN
   refine⟨_,qh (qA (jN (qb qS (qb (Zm (jv 0) rfl) qf)))),?_⟩
   exact⟨_,rfl,a,CN,dx,_,_,rfl,hx,cl,na,lk1,by show 2<=sizeLine;decide,q⟩
theorem wN:qv ["self"] ["self"] (qk Yc):=⟨rfl,rfl,rfl,by decide+kernel,rfl,by decide+kernel,by decide+kernel⟩
theorem y2 {f CN CE:Addr} {fd:FuncData} (F:jQ K "told" "Endless.told" Yc f fd) (cl:YL K CE) (na:jF K CE "bits") (hne:CN≠CE):qp P w K mg base qM 1 f fd ["self"] (Xy CN CE):=by
 refine F.okJ wN (λvs H Q E h=>?_) (λcdv A outer s H vs Q E hr h=>?_)
 . obtain⟨_,a,w,rfl,_⟩:=h
   rfl
 . obtain⟨⟨a,b,rfl,hN⟩,a',w,e,hw,q⟩:=h
   cases e
   have ew:=U7.inj hne hw hN
   subst ew
   obtain⟨dx,hx⟩:=hN
   refine⟨_,qh (qA (jN (qb qS (qb (Zm (jv 0) rfl) qf)))),?_⟩
   exact⟨_,rfl,a,CE,dx,_,_,rfl,hx,cl,na,lk1,by show 2<=sizeLine;decide,q⟩
end
structure WF (K:PySem.W.Frag) (mg:Str->Option Value) where
 (CN CE fNI fEI fNT fET fW fB fS:Addr)
 (dNI dEI dNT dET dW dB dS:FuncData)
 ne:CN≠CE
 cN:Cl K mg "Numbered" "Numbered.__init__" "number" z6 CN fNI dNI
 cE:Cl K mg "Endless" "Endless.__init__" "bits" Yd CE fEI dEI
 nT:wb K CN "told" "Numbered.told" z5 ["self"] fNT dNT
 eT:wb K CE "told" "Endless.told" Yc ["self"] fET dET
 hW:je K mg "is_whole" Jz ["thing"] fW dW
 hB:je K mg "is_number" Zy ["thing"] fB dB
 hS:je K mg "is_set" z8 ["thing"] fS dS
section
variable {P:Program} {w:World} {K:PySem.W.Frag} {mg:Str->Option Value} {base:Heap}
theorem WF.gNI (h:WF K mg) (B:Jc mg) (T:Wk K mg):qp P w K mg base qM 3 h.fNI h.dNI ["self","number"] (XC h.CN "number" 15):=yS h.cN.fn B T h.hW h.hB h.cN.cl h.cN.na
theorem WF.gEI (h:WF K mg) (B:Jc mg) (T:Wk K mg):qp P w K mg base qM 3 h.fEI h.dEI ["self","bits"] (XC h.CE "bits" 65535):=y3 h.cE.fn B T h.hW h.hS h.cE.cl h.cE.na
theorem WF.gNT (h:WF K mg):qp P w K mg base qM 1 h.fNT h.dNT ["self"] (Xx h.CN h.CE):=yR h.nT.fn h.cN.cl h.cN.na h.ne
theorem WF.gET (h:WF K mg):qp P w K mg base qM 1 h.fET h.dET ["self"] (Xy h.CN h.CE):=y2 h.eT.fn h.cE.cl h.cE.na h.ne
theorem nlk {f g:Str} {v:V} (h:(g==f)=false):[(f,v)].lookup g=none:=by simp [List.lookup,h]
theorem n3:((Str.ofString "told")==(Str.ofString "number"))=false:=by decide+kernel
theorem n4:((Str.ofString "told")==(Str.ofString "bits"))=false:=by decide+kernel
theorem wo {CN CE a:Addr} {H:Hp} {w:W} {Q:VK} (h:U7 CN CE H a w) (q:∀p,H p=none->Q (.ref p) (upd H p (.tup [.str (zP w),.int (Vg w:Nat)]))):
   ∃a' dx fs,V.ref a=.ref a'/\fs.lookup (Str.ofString "told")=none/\((H a'=some (.ins CN dx fs)/\Xx CN CE [V.ref a] H Q E0)\/(H a'=some (.ins CE dx fs)/\Xy CN CE [V.ref a] H Q E0)):=by
 cases w with
 | num n=>obtain⟨dx,e⟩:=id h;exact⟨a,dx,_,rfl,nlk n3,.inl ⟨e,⟨a,n,rfl,h⟩,a,_,rfl,h,q⟩⟩
 | edl b=>obtain⟨dx,e⟩:=id h;exact⟨a,dx,_,rfl,nlk n4,.inr ⟨e,⟨a,b,rfl,h⟩,a,_,rfl,h,q⟩⟩
theorem uH {X:Cx} (h:WF X.K X.mg) (hr:q5 1 X.A) {o:Expr} {ta:TE} {apos pos:Pos} {pl:Sem Bool} (he:JE X o ta)
   (ht:eval (.Call (.Attribute o "told" apos) [] [] pos) X.env=(eval o X.env >>= λov=>standAt apos.atName >>= λ_=>holding [ov] (getMethod ov "told" pl) >>= λr=>callWith pos r.1 r.2 (backTo pos (starEach [] X.env)) (backToKw pos (keywordEach [] X.env))):=by rfl):
   JE X (.Call (.Attribute o "told" apos) [] [] pos) (λσ H Q=>ta σ H λx H1=>∃a u,x=.ref a/\U7 h.CN h.CE H1 a u/\∀p,H1 p=none->Q (.ref p) (upd H1 p (.tup [.str (zP u),.int (Vg u:Nat)]))):=
 uL (vZ (Nr he) h.cN.cl h.nT.me h.gNT hr h.nT.bi h.cE.cl h.eT.me h.gET hr h.eT.bi ht) λσ H Q q=>⟨_,q,λx H1 ⟨a,u,e,i,q1⟩=>by subst e;exact wo i q1⟩
theorem uw {CN CE:Addr} {H:Hp} {x dx:Addr} {n:Nat} (hx:H x=none) (hd:H dx=none) (hne:dx≠x):Same H (upd (upd (upd H dx (.own x)) x (.ins CN dx [])) x (.ins CN dx [("number",.int (n:Nat))]))/\U7 CN CE (upd (upd (upd H dx (.own x)) x (.ins CN dx [])) x (.ins CN dx [("number",.int (n:Nat))])) x (.num n):=
 ⟨λb o hb=>by rw[qg (ql hb hx),qg (ql hb hx),qg (ql hb hd)];exact hb,dx,qd⟩
theorem ux {CN CE:Addr} {H:Hp} {x dx:Addr} {b:Nat} (hx:H x=none) (hd:H dx=none) (hne:dx≠x):Same H (upd (upd (upd H dx (.own x)) x (.ins CE dx [])) x (.ins CE dx [("bits",.int (b:Nat))]))/\U7 CN CE (upd (upd (upd H dx (.own x)) x (.ins CE dx [])) x (.ins CE dx [("bits",.int (b:Nat))])) x (.edl b):=
 ⟨λb o hb=>by rw[qg (ql hb hx),qg (ql hb hx),qg (ql hb hd)];exact hb,dx,qd⟩
end
def wT (rs:ja) (R:Rs Str) (z:Str):W:=match qB R z with
 | some n=>.num n
 | none=>.edl (setN (j8 rs (qB R) z))
theorem Ve {rs:ja} {R:Rs Str} {z:Str} {n:Nat} (e:qB R z=some n):wT rs R z=.num n:=by unfold wT;rw[e]
theorem Vf {rs:ja} {R:Rs Str} {z:Str} (e:qB R z=none):wT rs R z=.edl (setN (j8 rs (qB R) z)):=by unfold wT;rw[e]
theorem RB {rs:ja} (good:qy rs) {R:Rs Str} (L:Kb (Qp rs) (·∈rs.map (·.1)) (qB R) (jD R)) {z:Str} (hz:z∈rs.map (·.1)):okW (wT rs R z):=by
 cases e:qB R z with
 | some n=>
   rw[Ve e]
   have:=Yn good L hz e
   show n < 16
   omega
 | none=>
   rw[Vf e]
   show setN _ < 65536
   refine setN_lt (m:=16) λx hx=>?_
   obtain⟨y,hy,ey⟩:=jP.mp hx
   have:=Yn good L (L.cl hz hy) ey
   omega
def RP (CN CE:Addr):Sp:=λvs H Q _=>∃(t:Addr) (rs:ja) (R:Rs Str) (z:Str),vs=[.ref t]/\H t=some (.tup (js rs R z))/\okW (wT rs R z)/\∀a H',Same H H'->U7 CN CE H' a (wT rs R z)->Q (.ref a) H'
section
variable {P:Program} {w:World} {K:PySem.W.Frag} {mg:Str->Option Value} {base:Heap}
theorem Md:qv ["label"] ["label"] (qk RX):=⟨rfl,rfl,rfl,by decide+kernel,rfl,by decide+kernel,by decide+kernel⟩
theorem Nh {f:Addr} {fd:FuncData} (F:jQ K "label_worth" "label_worth" RX f fd) (h:WF K mg) (B:Jc mg) (T:Wk K mg):qp P w K mg base qM 5 f fd ["label"] (RP h.CN h.CE):=by
 refine F.okJ Md (λvs H Q E z=>?_) (λcdv A outer s H vs Q E hr z=>?_)
 . obtain⟨t,rs,R,z,rfl,_⟩:=z
   rfl
 . obtain⟨t,rs,R,z,rfl,ht,ok,q⟩:=z
   refine⟨_,qe (qL (qu j7 (qN qU (jv 0) qi (λ_ _=>rfl)) qS (qz _)) (qh (qA (zG h.cN.mkr (h.gNI B T) hr (by rfl) h.cN.ns h.cN.bi .nil Zb (qb (qN qU (jv 0) qi (λ_ _=>rfl)) qf)))) qC)
     (qh (qA (zG h.cE.mkr (h.gEI B T) hr (by rfl) h.cE.ns h.cE.bi .nil Zb (qb (qN qU (jv 0) qi (λ_ _=>rfl)) qf)))),?_⟩
   cases e:qB R z with
   | some n=>
     rw[Ve e]at ok q
     have el:js rs R z=[.str "number",.int (n:Nat),.int (jD R z:Nat)]:=by unfold js;rw[e]
     rw[el]at ht
     refine⟨_,rfl,t,_,0,_,rfl,rfl,.of ht,rfl,rfl,_,rfl,jI (by decide+kernel) ?_⟩
     refine⟨_,rfl,t,_,1,_,rfl,rfl,.of ht,rfl,λx dx hx hd hne=>⟨x,dx,_,rfl,by omega,?_,qd,rfl,?_⟩⟩
     . have:n < 16:=ok
       omega
     . obtain⟨s1,i1⟩:=uw (CN:=h.CN) (CE:=h.CE) (n:=n) hx hd hne
       exact q _ _ s1 i1
   | none=>
     rw[Vf e]at ok q
     have el:js rs R z=[.str "endless",.int (setN (j8 rs (qB R) z):Nat)]:=by unfold js;rw[e]
     rw[el]at ht
     refine⟨_,rfl,t,_,0,_,rfl,rfl,.of ht,rfl,rfl,_,rfl,jJ (by decide+kernel) ?_⟩
     refine⟨_,rfl,t,_,1,_,rfl,rfl,.of ht,rfl,λx dx hx hd hne=>⟨x,dx,_,rfl,by omega,?_,qd,rfl,?_⟩⟩
     . have:setN (j8 rs (qB R) z) < 65536:=ok
       omega
     . obtain⟨s1,i1⟩:=ux (CN:=h.CN) (CE:=h.CE) (b:=setN (j8 rs (qB R) z)) hx hd hne
       exact q _ _ s1 i1
def Kk (CG CN CE:Addr):Sp:=λvs H Q _=>∃(g:Addr) (rs:ja) (z:Str),vs=[.ref g,.str z]/\jZ CG H g rs/\qy rs/\rs.length<=14/\z∈rs.map (·.1)/\
 ∀H' a R,Same H H'->All (Qp rs) (rs.map (·.1)) 0 [] R->U7 CN CE H' a (wT rs R z)->Q (.ref a) H'
theorem Kp:qv ["ground","name"] ["ground","name"] (qk vq):=⟨rfl,rfl,rfl,by decide+kernel,rfl,by decide+kernel,by decide+kernel⟩
theorem Gd {f fP fL CG:Addr} {fd fdP fdL:FuncData} (F:jQ K "worth_of" "worth_of" vq f fd) (h:WF K mg) (B:Jc mg) (Z:Wk K mg) (G:Qk mg) (T:QL K mg) (M:GM K mg CG) (Y:V5 K mg) (hP:je K mg "need_place" QU UJ fP fdP) (hL:je K mg "label_worth" RX ["label"] fL fdL):qp P w K mg base qM 9 f fd ["ground","name"] (Kk CG h.CN h.CE):=by
 obtain⟨fB,fdB,hB⟩:=Y.labels
 have GP:qp P w K mg base qM 2 fP fdP UJ (Xz CG):=WL hP.fn G M
 have GB:qp P w K mg base qM 8 fB fdB ["ground"] (Zv CG):=ZW hB.fn B G T M Y
 have GL:qp P w K mg base qM 5 fL fdL ["label"] (RP h.CN h.CE):=Nh hL.fn h B Z
 refine F.okJ Kp (λvs H Q E h=>?_) (λcdv A outer s H vs Q E hr h=>?_)
 . obtain⟨g,rs,z,rfl,_⟩:=h
   rfl
 . obtain⟨g,rs,z,rfl,gr,good,le14,hz,q⟩:=h
   have hu:=jA hr
   refine⟨_,qe (qY (qJ hP GP (hr.mono (by decide)) (by rfl) (qb (jv 0) (qb (jv 1) qf))))
     (qh (qA (qJ hL GL (hr.mono (by decide)) (by rfl) (qb (qG hu (qJ hB GB hr (by rfl) (qb (jv 0) qf)) (jv 1) (λ_ _=>rfl)) qf)))),?_⟩
   refine⟨_,rfl,_,rfl,g,rs,z,rfl,gr,List.mem_map.mp hz,λH1 s1=>?_⟩
   refine⟨_,rfl,g,rs,rfl,gr.mono s1,good,le14,λH2 D R s2 hD lb all=>?_⟩
   have s12:=s1.trans s2
   have L:=xj (JR good.nd) all
   obtain⟨kvs,a,_,c⟩:=lb.at_
   obtain⟨r,hr',er⟩:=List.mem_map.mp hz
   obtain⟨t,u,v⟩:=c r hr'
   rw[er]at u v
   have gd:jB H2 D (.str z) (some (.ref t)):=by rw[<-u];exact jB.k (k:=(Sum.inr z:qD)) a
   exact⟨_,rfl,D,_,rfl,gd,t,rs,R,z,rfl,v,RB good L hz,λa H3 s3 i3=>q H3 a R (s12.trans s3) all i3⟩
end
end Rh
set_option Elab.async false
set_option linter.all false
set_option maxRecDepth 100000
set_option maxHeartbeats 4000000
namespace Rh
open PySem L2 PyProof.Rows MLab
abbrev ZB:Stmt:=top 62
theorem Wp {N:List Str}:∀{ks:List qD},(∀k∈ks,k∈N.map Sum.inr)->∃zs:List Str,ks=zs.map Sum.inr/\∀z∈zs,z∈N
 | [],_=>⟨[],rfl,λz h=>(nomatch h)⟩
 | k::ks,h=>by
   obtain⟨zs,e,hz⟩:=Wp (ks:=ks) λk' hk=>h k' (List.mem_cons_of_mem _ hk)
   obtain⟨z,hz',rfl⟩:=List.mem_map.mp (h k (List.mem_cons_self ..))
   refine⟨z::zs,by rw[e];rfl,λy hy=>?_⟩
   rcases List.mem_cons.mp hy with rfl | hy
   . exact hz'
   . exact hz y hy
structure Ke (H:Hp) (d:Addr) (zs:List Str) (f:Str->Option (Nat×Nat)):Prop where
 at_:∃(o:Obj) (kvs:List (qD×V)),H d=some (.frz o (.dK kvs))/\kvs.map (·.1)=zs.map Sum.inr/\(∀z,f z=none->qQ kvs (Sum.inr z:qD)=none)/\(∀z n s,f z=some (n,s)->∃t,qQ kvs (Sum.inr z:qD)=some (.ref t)/\H t=some (.tup [.int (n:Nat),.int (s:Nat)]))
theorem Ke.mono {H H':Hp} {d:Addr} {zs:List Str} {f:Str->Option (Nat×Nat)} (h:Ke H d zs f) (s:Same H H'):Ke H' d zs f:=⟨let ⟨o,kvs,a,e,b,c⟩:=h.at_;⟨o,kvs,s _ _ a,e,b,λz n m q=>let ⟨t,u,v⟩:=c z n m q;⟨t,u,s _ _ v⟩⟩⟩
theorem Ke.get {H:Hp} {d:Addr} {zs:List Str} {f:Str->Option (Nat×Nat)} (h:Ke H d zs f) (z:Str):∃o:Option V,jB H d (.str z) o/\o.isSome=(f z).isSome/\∀n s,f z=some (n,s)->∃t,o=some (.ref t)/\H t=some (.tup [.int (n:Nat),.int (s:Nat)]):=by
 obtain⟨o,kvs,a,e,b,c⟩:=h.at_
 refine⟨_,.inl ⟨kvs,Sum.inr z,.inr ⟨o,a⟩,rfl,rfl⟩,?_,λn s e=>c z n s e⟩
 cases e:f z with
 | none=>rw[b z e];rfl
 | some p=>
   obtain⟨t,u,_⟩:=c z p.1 p.2 e
   rw[u];rfl
theorem Ke.in_ {H:Hp} {d:Addr} {zs:List Str} {f:Str->Option (Nat×Nat)} (h:Ke H d zs f) {z:Str}:z∈zs↔∃p,f z=some p:=by
 obtain⟨o,kvs,a,e,b,c⟩:=h.at_
 have m:z∈zs↔(Sum.inr z:qD)∈kvs.map (·.1):=by
   rw[e,List.mem_map]
   exact⟨λq=>⟨z,q,rfl⟩,λ⟨y,q,w⟩=>by cases w;exact q⟩
 rw[m]
 constructor
 . intro q
   cases hf:f z with
   | some p=>exact⟨p,rfl⟩
   | none=>exact absurd q (Wn (b z hf))
 . rintro⟨p,q⟩
   obtain⟨t,u,_⟩:=c z p.1 p.2 q
   exact V9 u
theorem Qo.frz {N:List Str} {H:Hp} {d:Addr} {f:Str->Option (Nat×Nat)} (h:Qo N H d f):∃(kvs:List (qD×V)) (zs:List Str),H d=some (.dK kvs)/\(∀z∈zs,z∈N)/\zs.Nodup/\∀o,Ke (upd H d (.frz o (.dK kvs))) d zs f:=by
 obtain⟨kvs,a,b,c,nd,sb⟩:=h.at_
 obtain⟨zs,e,hz⟩:=Wp sb
 refine⟨kvs,zs,a,hz,?_,λo=>⟨o,kvs,qd,e,b,λz n s q=>?_⟩⟩
 . rw[e]at nd
   exact List.Pairwise.of_map Sum.inr (λa b h e=>h (by rw[e])) nd
 . obtain⟨t,u,v⟩:=c z n s q
   exact⟨t,u,by rw[qg (λw=>by rw[w,a]at v;cases v)];exact v⟩
theorem Q9 {α β:Type} {f g:α->Option β}:∀{l:List α},(∀z∈l,f z=g z)->l.filterMap f=l.filterMap g
 | [],_=>rfl
 | a::l,h=>by rw[List.filterMap_cons,List.filterMap_cons,h a (List.mem_cons_self ..),Q9 λz hz=>h z (List.mem_cons_of_mem _ hz)]
theorem K8 {qs:List Addr} (nd:qs.Nodup) {i j:Nat} {q:Addr} (a:qs[i]?=some q) (b:qs[j]?=some q):i=j:=by
 obtain⟨h1,e1⟩:=List.getElem?_eq_some_iff.mp a
 obtain⟨h2,e2⟩:=List.getElem?_eq_some_iff.mp b
 exact VI nd (e1.trans e2.symm)
def ND (R:Rs Str) (N:List Str) (i:Nat):List Str:=N.filter λz=>(qB R z).isSome&&decide (jD R z=i)
def Kn:Sp:=λvs H Q _=>∃(l:Addr) (ps:List Addr) (rs:ja),vs=[.ref l]/\jg H l ps rs/\
 ∀H' L qs R,Same H H'->H L=none->H' L=some (.lst (qs.map V.ref))->qX H' qs (R.map (·.2))->All (Qp rs) (rs.map (·.1)) 0 [] R->Q (.ref L) H'
section
variable {P:Program} {w:World} {K:PySem.W.Frag} {mg:Str->Option Value} {base:Heap}
abbrev Mv:List Str:=["_law_rows_here","_law_found","_law_many","_law_rounds_here","_law_name","_law_leads_here"]
theorem Y3:qv Mv ["_law_rows_here"] (qk ZB):=⟨rfl,rfl,rfl,by decide+kernel,rfl,by decide+kernel,by decide+kernel⟩
theorem VE {f fN fC fB:Addr} {fd fdN fdC fdB:FuncData} (F:jQ K "_law_rounds" "_law_rounds" ZB f fd) (B:Jc mg) (hdi:mg "dict"=none) (hB:je K mg "_law_back" JB Vy fB fdB) (hC:je K mg "_law_comes" Jf Vy fC fdC) (hN:je K mg "_law_numbers" QB ["_law_rows_here"] fN fdN):qp P w K mg base qM 4 f fd ["_law_rows_here"] Kn:=by
 have GN:qp P w K mg base qM 3 fN fdN ["_law_rows_here"] kW:=zd hN.fn B hdi hB hC
 refine F.okJ Y3 (λvs H Q E h=>?_) (λcdv A outer s H vs Q E hr h=>?_)
 . obtain⟨l,ps,rs,rfl,_⟩:=h
   rfl
 . obtain⟨l,ps,rs,rfl,g,q⟩:=h
   have hu:=jA hr
   refine⟨_,qe (qw (i:=1) Y3.nd rfl (Or.inr rfl) (VR (qJ hN GN hr (by rfl) (qb (jv 0) qf))))
     (qe (qw (i:=2) Y3.nd rfl (Or.inl rfl) (qI Qr qi (qE (kE rfl) (by rfl) B.max boot_max (qb (qI uc (jE (qb (Nt KM qi) qf)) (QI (N':=["_law_name","_law_found"]) (ix:=[none,some 1]) (te:=Xv (XR K) (Ud (jm 1) (jm 0)) (tC (.int 1))) rfl ⟨rfl,rfl,rfl,rfl,rfl⟩ (X6 (jv 1)) (λC s2 H2 fp pins=>
         ⟨qt (i:=0) (show (["_law_name","_law_found"]:List Str).Nodup by decide+kernel) rfl (Or.inl rfl),Qa,qN qU (qG hu (jv 1) (jv 0) (λ_ _=>rfl)) qi (λ_ _=>rfl)⟩))) qf))))
     (qe (QH (i:=3) (N':=["_law_k"]) (ix:=[none]) (te:=wt Q0) Y3.nd rfl (Or.inl rfl) rfl ⟨rfl,rfl,rfl,rfl,rfl⟩ (ju (by rfl) B.rng (qb (jv 2) qf)) (λC s2 H2 fp pins=>
         ⟨qt (i:=0) (Gh _) rfl (Or.inl rfl),Qa,jE qf⟩))
     (qe (qT PassesOwn.never rfl (qO (jv 0)) (Zl rfl (jn (qt (i:=4) Y3.nd rfl (Or.inl rfl)) (jn (qt (i:=5) Y3.nd rfl (Or.inl rfl)) Jl)))
       (qh (qL (jX (QX hu (jv 4) (jv 1))) (qh (qY (zg PySem.F.plainAttrs_list PySem.F.slot_list_append PySem.F.type_list_append Qg (qN jU (jv 3) (qN qU (qG hu (jv 1) (jv 4) (λ_ _=>rfl)) qi (λ_ _=>rfl)) (λ_ _=>rfl)) (qb (jv 4) qf)))) qC)))
     (qh (qA (jv 3)))))),?_⟩
   have good:=g.good
   have le14:=g.le
   have nd:=good.nd
   refine⟨_,rfl,l,ps,rs,rfl,g,λH1 e R s1 he fd all=>?_⟩
   have apt:=all.apt YM.nil
   obtain⟨kvs,zs,ha,zN,znd,fz⟩:=fd.frz
   refine⟨e,kvs,rfl,ha,λo=>?_⟩
   have fd2:=fz o
   have s2:Same H (upd H1 e (.frz o (.dK kvs))):=λb u hb=>by rw[qg (ql hb he)];exact s1 _ _ hb
   generalize upd H1 e (.frz o (.dK kvs))=H2 at fd2 s2
   have lz:zs.length<=14:=by
     have:=Ql znd zN
     rw[List.length_map]at this
     omega
   have lR:R.length<=14:=by
     have:=Ql (List.nodup_range (n:=R.length)) (m:=(rs.map (·.1)).map (jD R)) λk hk=>by
       obtain⟨z,hz,_,e⟩:=apt.each (List.mem_range.mp hk)
       exact List.mem_map.mpr ⟨z,hz,e⟩
     rw[List.length_range,List.length_map,List.length_map]at this
     omega
   refine⟨_,rfl,by show 1<=sizeLine;decide,λp hp=>?_⟩
   have s3:Same H2 (upd H2 p (.lst [.int (-1)])):=qj hp
   have hp3:upd H2 p (.lst [.int (-1)]) p=some (.lst [.int (-1)]):=qd
   generalize upd H2 p (.lst [.int (-1)])=H3 at s3 hp3
   have fd3:=fd2.mono s3
   obtain⟨o3,kvs3,hE,ek,_,_⟩:=fd3.at_
   refine⟨_,rfl,e,o3,kvs3,zs,rfl,hE,ek,λW hW=>?_⟩
   refine u5 (out:=λz=>(fR R z).map λp=>V.int (p.2:Nat)) (rest:=[some (.ref e)]) hW hE (qo (by omega)) ?_ ?_ ?_
   . intro x hx G s5 Q' kk
     have:=kk G λ_ _ h=>h
     obtain⟨p',e'⟩:=fd2.in_.mp hx
     simp only[e']at this
     exact this
   . intro x hx v ev G s5 Q' kk
     obtain⟨p',e'⟩:=fd2.in_.mp hx
     obtain⟨ov,go,_,ho⟩:=(fd3.mono s5).get x
     obtain⟨t,et,ht⟩:=ho p'.1 p'.2 e'
     rw[et]at go
     have:v=V.int (p'.2:Nat):=by simp only[e']at ev;exact(Option.some.inj ev).symm
     subst this
     exact⟨_,rfl,_,rfl,e,_,rfl,go,t,_,1,_,rfl,rfl,.of ht,rfl,kk G λ_ _ h=>h⟩
   . intro G1 sG hW1
     have eo:zs.filterMap (λz=>(fR R z).map λp=>V.int (p.2:Nat))=((zs.map λz=>((jD R z:Nat):Int)).map V.int):=by
       rw[List.map_map]
       rw[<-List.filterMap_eq_map]
       refine Q9 λz hz=>?_
       obtain⟨p',e'⟩:=fd2.in_.mp hz
       unfold fR at e' ⊢
       obtain⟨n,en,ep⟩:=Option.map_eq_some_iff.mp e'
       rw[en]
       rfl
     rw[eo]at hW1
     refine⟨p,W,[.int (-1)],_,rfl,rfl,.of (sG _ _ hp3),.of hW1,?_,λl4 hl4=>?_⟩
     . rw[List.length_map,List.length_map]
       exact Nat.le_of_lt (qo (by show 1+zs.length<=1000;omega))
     have s4:Same H (upd G1 l4 (.lst ([V.int (-1)]++((zs.map λz=>((jD R z:Nat):Int)).map V.int)))):=s2.trans (s3.trans (sG.trans (qj hl4)))
     have fd4:Ke (upd G1 l4 (.lst ([V.int (-1)]++((zs.map λz=>((jD R z:Nat):Int)).map V.int)))) e zs (fR R):=(fd3.mono sG).mono (qj hl4)
     have hl5:upd G1 l4 (.lst ([V.int (-1)]++((zs.map λz=>((jD R z:Nat):Int)).map V.int))) l4=some (.lst (((-1:Int)::zs.map λz=>((jD R z:Nat):Int)).map V.int)):=qd
     generalize upd G1 l4 (.lst ([V.int (-1)]++((zs.map λz=>((jD R z:Nat):Int)).map V.int)))=H4 at s4 fd4 hl5
     refine⟨l4,_,rfl,.of hl5,by simp,λm hm hx=>?_⟩
     have em:m=(R.length:Int) - 1:=by
       have up:m<=(R.length:Int) - 1:=by
         rcases List.mem_cons.mp hm with h | h
         . omega
         . obtain⟨z,hz,rfl⟩:=List.mem_map.mp h
           obtain⟨p',e'⟩:=fd2.in_.mp hz
           unfold fR at e'
           obtain⟨n,en,ep⟩:=Option.map_eq_some_iff.mp e'
           have:=YM.step en
           omega
       rcases Nat.eq_zero_or_pos R.length with c | c
       . have:=hx (-1) (List.mem_cons_self ..)
         omega
       . obtain⟨z,hz,e1,e2⟩:=apt.each (i:=R.length - 1) (by omega)
         have hzz:z∈zs:=fd2.in_.mpr (by
           obtain⟨n,en⟩:=Option.isSome_iff_exists.mp e1
           exact⟨_,by unfold fR;rw[en];rfl⟩)
         have:=hx ((jD R z:Nat):Int) (List.mem_cons_of_mem _ (List.mem_map.mpr ⟨z,hzz,rfl⟩))
         omega
     subst em
     refine⟨_,_,rfl,rfl,?_⟩
     refine⟨_,rfl,(1:Int)+((R.length:Int) - 1),rfl,by omega,by omega,λW2 hW2=>?_⟩
     have tn:((1:Int)+((R.length:Int) - 1)).toNat=R.length:=by omega
     rw[tn]
     refine Jb (lo:=0) (n:=R.length) (λi σ' G=>∃(v0:Option V) (qs:List Addr),σ'=[v0]/\Same H4 G/\G W2=some (.lst (qs.map V.ref))/\qs.length=i/\qs.Nodup/\∀q∈qs,G q=some (.lst [])/\H4 q=none/\q≠W2)
       ⟨none,[],rfl,qj hW2,qd,rfl,List.nodup_nil,λq h=>(nomatch h)⟩ ?_ ?_
     . rintro i σ' G hi ⟨v0,qs,rfl,sG4,hG,lq,qnd,hq⟩
       refine⟨by show 0<=sizeLine;decide,λt ht=>?_⟩
       have nt:t≠W2:=λz=>by rw[z,hG]at ht;cases ht
       refine⟨_,qm hG ht,by rw[List.length_map];exact qo (by omega),_,qs++[t],rfl,Same.upd (sG4.trans (qj ht)) hW2,by rw[List.map_append];exact qd,by rw[List.length_append,lq];rfl,?_,λq' hq'=>?_⟩
       . rw[List.nodup_append]
         refine⟨qnd,List.pairwise_singleton ..,λa ha b hb=>?_⟩
         rw[List.mem_singleton.mp hb]
         exact ql (hq a ha).1 ht
       . rcases List.mem_append.mp hq' with h | h
         . obtain⟨a,b,c⟩:=hq q' h
           exact⟨by rw[qg c];exact qm a ht,b,c⟩
         . rw[List.mem_singleton.mp h]
           exact⟨by rw[qg nt];exact qd,qW sG4 ht,nt⟩
     . rintro σ' G5 ⟨v0,qs,rfl,sG5,hG5,lq,qnd,hq⟩
       have gG:∀{G:Hp},Same H4 G->jg G l ps rs:=λsx=>g.mono (s4.trans sx)
       have n0:H W2=none:=qW s4 hW2
       refine⟨_,rfl,l,rfl,⟨_,.of (gG sG5).at_⟩,?_⟩
       refine jo (K:=K) (a:=l) (xs:=ps.map V.ref) (λi σ' G=>∃(v4 v5:Option V),σ'=[some (.ref l),some (.ref e),some (.int ((1:Int)+((R.length:Int) - 1))),some (.ref W2),v4,v5]/\Same H4 G/\G W2=some (.lst (qs.map V.ref))/\∀(k:Nat) (q:Addr),qs[k]?=some q->G q=some (.lst ((ND R ((rs.map (·.1)).take i) k).map V.str)))
         ⟨none,none,rfl,sG5,hG5,λk q' e'=>(hq q' (List.mem_of_getElem? e')).1⟩ (λi σ' G _ ⟨_,_,_,sx,_⟩=>.of (gG sx).at_) ?_ ?_
       . rintro i y σ' G hy ⟨v4,v5,rfl,sx,hW6,hk⟩
         obtain⟨p1,q1,r,rfl,er,hr',ha1,hb1⟩:=(gG sx).rows.item hy
         have hi:=(List.getElem?_eq_some_iff.mp er).1
         have eN:(rs.map (·.1))[i]?=some r.1:=by rw[List.getElem?_map,er];rfl
         have etk:∀k,ND R ((rs.map (·.1)).take (i+1)) k=ND R ((rs.map (·.1)).take i) k++[r.1].filter (λz=>(qB R z).isSome&&decide (jD R z=k)):=λk=>by
           unfold ND
           rw[List.take_add_one,eN,List.filter_append]
           rfl
         refine⟨p1,_,rfl,.of ha1,rfl,_,_,rfl,_,_,rfl,rfl,?_⟩
         obtain⟨ov,go,eov,ho⟩:=(fd4.mono sx).get r.1
         refine⟨_,rfl,_,rfl,e,_,rfl,go,_,rfl,?_⟩
         rw[eov]
         have e1:(fR R r.1).isSome=(qB R r.1).isSome:=by unfold fR;rw[Option.isSome_map]
         rw[e1]
         cases cz:qB R r.1 with
         | none=>
           refine qZ ⟨_,_,rfl,sx,hW6,λk q' e'=>?_⟩
           rw[etk k]
           have:[r.1].filter (λz=>(qB R z).isSome&&decide (jD R z=k))=[]:=by simp [cz]
           rw[this,List.append_nil]
           exact hk k q' e'
         | some n=>
           have ef:fR R r.1=some (n,jD R r.1):=by unfold fR;rw[cz];rfl
           obtain⟨t,et,ht⟩:=ho _ _ ef
           rw[et]at go
           have lt:=YM.step cz
           have eq1:qs[jD R r.1]?=some (qs[jD R r.1]'(by omega)):=List.getElem?_eq_getElem (by omega)
           have hq1:=hk _ _ eq1
           have mem1:=hq _ (List.mem_of_getElem? eq1)
           generalize qs[jD R r.1]'(by omega)=q0 at eq1 hq1 mem1
           have lA:(ND R ((rs.map (·.1)).take i) (jD R r.1)).length<=14:=by
             have h1:=List.length_filter_le (λz=>(qB R z).isSome&&decide (jD R z=jD R r.1)) ((rs.map (·.1)).take i)
             rw[List.length_take]at h1
             show (List.filter _ _).length<=14
             omega
           refine jY ⟨_,rfl,_,rfl,_,rfl,e,_,rfl,go,t,_,1,_,rfl,rfl,.of ht,rfl,W2,_,_,V.ref q0,rfl,rfl,.of hW6,QS (by rw[List.getElem?_map,eq1];rfl),.inl ⟨rfl,_,.of hq1⟩,_,rfl,q0,_,_,rfl,rfl,hq1,by rw[List.length_map];exact qo (by omega),_,_,rfl,Same.upd sx mem1.2.1,by rw[qg (Ne.symm mem1.2.2)];exact hW6,λk q' e'=>?_⟩
           rw[etk k]
           by_cases c:k=jD R r.1
           . subst c
             rw[eq1]at e'
             cases e'
             have:[r.1].filter (λz=>(qB R z).isSome&&decide (jD R z=jD R r.1))=[r.1]:=by simp [cz]
             rw[this,List.map_append]
             exact qd
           . have:[r.1].filter (λz=>(qB R z).isSome&&decide (jD R z=k))=[]:=by simp [cz,Ne.symm c]
             rw[this,List.append_nil,qg (λw=>?_)]
             . exact hk k q' e'
             . subst w
               exact c (K8 qnd e' eq1)
       . rintro σ' G ⟨v4,v5,rfl,sx,hW6,hk⟩
         rw[List.length_map,g.rows.1,<-List.length_map (f:=(·.1)) (as:=rs),List.take_of_length_le (Nat.le_refl _)]at hk
         refine⟨_,rfl,q G W2 qs R (s4.trans sx) n0 hW6 ⟨by rw[lq,List.length_map],λk q' l' e1 e2=>?_⟩ all⟩
         rw[List.getElem?_map]at e2
         cases er:R[k]? with
         | none=>rw[er]at e2;cases e2
         | some r=>
           rw[er]at e2
           obtain rfl:=Option.some.inj e2
           show G q'=some (.lst (r.2.map V.str))
           rw[apt.round nd er]
           exact hk k q' e1
end
end Rh
set_option Elab.async false
set_option linter.all false
set_option maxRecDepth 100000
set_option maxHeartbeats 4000000
namespace Rh
open PySem L2 PyProof.Rows MLab
abbrev XM:Stmt:=top 63
structure YK (H:Hp) (D:Addr) (rs:ja) (R:Rs Str):Prop where
 at_:∃kvs:List (qD×V),Rd H D (.dK kvs)/\kvs.map (·.1)=(rs.map (·.1)).map Sum.inr/\∀r∈rs,∃t,qQ kvs (Sum.inr r.1:qD)=some (.ref t)/\H t=some (.tup (js rs R r.1))
theorem YK.mono {H H':Hp} {D:Addr} {rs:ja} {R:Rs Str} (h:YK H D rs R) (s:Same H H'):YK H' D rs R:=⟨let ⟨kvs,a,e,c⟩:=h.at_;⟨kvs,a.elim (λa=>.inl (s _ _ a)) (λ⟨o,a⟩=>.inr ⟨o,s _ _ a⟩),e,λr hr=>let ⟨t,u,v⟩:=c r hr;⟨t,u,s _ _ v⟩⟩⟩
theorem YK.get {H:Hp} {D:Addr} {rs:ja} {R:Rs Str} (h:YK H D rs R) {z:Str} (hz:z∈rs.map (·.1)):∃t,jB H D (.str z) (some (.ref t))/\H t=some (.tup (js rs R z)):=by
 obtain⟨kvs,a,_,c⟩:=h.at_
 obtain⟨r,hr',rfl⟩:=List.mem_map.mp hz
 obtain⟨t,u,v⟩:=c r hr'
 exact⟨t,by rw[<-u];exact .inl ⟨kvs,Sum.inr r.1,a,rfl,rfl⟩,v⟩
theorem JK {rs:ja} {R:Rs Str} {z:Str} {n:Nat} (e:qB R z=some n):js rs R z=[.str "number",.int (n:Nat),.int (jD R z:Nat)]:=by unfold js;rw[e]
theorem JL {rs:ja} {R:Rs Str} {z:Str} (e:qB R z=none):js rs R z=[.str "endless",.int (Rb.setN (j8 rs (qB R) z):Nat)]:=by unfold js;rw[e]
theorem vg (zs:List Str):(zs.map V.str).all JU=true:=by
 rw[List.all_map,List.all_eq_true]
 exact λ_ _=>rfl
theorem Xh {α:Type} {p:α->Bool}:∀{l:List α} {i:Nat} {x:α},l[i]?=some x->p x=true->(∀y∈l.take i,¬p y=true)->∃xs ys,l=xs++x::ys/\l.filter p=x::ys.filter p/\l.filter p=x::ys.filter p
 | [],i,x,h,_,_=>by simp at h
 | a::l,0,x,h,hp,_=>by
   have:a=x:=by simpa using h
   subst this
   exact⟨[],l,rfl,List.filter_cons_of_pos hp,List.filter_cons_of_pos hp⟩
 | a::l,i+1,x,h,hp,hn=>by
   obtain⟨xs,ys,e1,e2,e3⟩:=Xh (l:=l) (i:=i) (by simpa using h) hp λy hy=>hn y (List.mem_cons_of_mem _ hy)
   have na:¬p a=true:=hn a (List.mem_cons_self ..)
   exact⟨a::xs,ys,by rw[e1];rfl,by rw[List.filter_cons_of_neg na,e2],by rw[List.filter_cons_of_neg na,e2]⟩
def XB:Sp:=λvs H Q _=>∃(l D:Addr) (ps:List Addr) (rs:ja) (R:Rs Str) (z:Str),vs=[.ref l,.ref D,.str z]/\jg H l ps rs/\YK H D rs R/\Kb (Qp rs) (·∈rs.map (·.1)) (qB R) (jD R)/\z∈rs.map (·.1)/\
 ∀H' v,Same H H'->((∃n,qB R z=some n/\v=.non)\/(qB R z=none/\∃t m ms,opens rs R z=m::ms/\v=.ref t/\H' t=some (.tup (NU m))))->Q v H'
section
variable {P:Program} {w:World} {K:PySem.W.Frag} {mg:Str->Option Value} {base:Heap}
abbrev nLO:List Str:=["_law_rows_here","_law_labels_here","_law_name","_law_number","_law_one","_law_leads_here"]
abbrev NS:List Str:=["_law_rows_here","_law_labels_here","_law_name"]
theorem yd:qv nLO NS (qk XM):=⟨rfl,rfl,rfl,by decide+kernel,rfl,by decide+kernel,by decide+kernel⟩
theorem yU {f:Addr} {fd:FuncData} (F:jQ K "_law_open" "_law_open" XM f fd) (B:Jc mg) (hdi:mg "dict"=none):qp P w K mg base qM 1 f fd NS XB:=by
 refine F.okJ yd (λvs H Q E h=>?_) (λcdv A outer s H vs Q E hr h=>?_)
 . obtain⟨l,D,ps,rs,R,z,rfl,_⟩:=h
   rfl
 . obtain⟨l,D,ps,rs,R,z,rfl,g,lb,L,hz,q⟩:=h
   have hu:=jA hr
   refine⟨_,qe (qL (qu j7 (qN qU (qG hu (jv 1) (jv 2) (λ_ _=>rfl)) qi (λ_ _=>rfl)) qS (qz _)) (qh (qA X7)) qC)
     (qe (qw (i:=3) yd.nd rfl (Or.inl rfl) qi)
     (qe (JN PassesOwn.never (qu j7 (qI VC (qI VB (qN qU (qG hu (jv 1) (jv 2) (λ_ _=>rfl)) qi (λ_ _=>rfl)) (jv 3)) qi) qi (qz _)) (qh (qw (i:=3) yd.nd rfl (Or.inl rfl) (qI Qr (jv 3) qi))))
     (qe (qT PassesOwn.never rfl (qO (jv 0)) (Zl rfl (jn (qt (i:=4) yd.nd rfl (Or.inl rfl)) (jn (qt (i:=5) yd.nd rfl (Or.inl rfl)) Jl)))
       (qh (qL (JW.pt (jR (qu J1 (jv 4) (qG hu (jC (YF rfl) (by rfl) hdi boot_dict (qb (jv 0) qf)) (jv 2) (λ_ _=>rfl)) (by with_unfolding_all rfl)) (jR (qu j7 (qN qU (qG hu (jv 1) (jv 4) (λ_ _=>rfl)) qi (λ_ _=>rfl)) qS (qz _))
           (jH (qu j7 (qI VC (qI VB (qN qU (qG hu (jv 1) (jv 4) (λ_ _=>rfl)) qi (λ_ _=>rfl)) (jv 3)) qi) qi (qz _))))))
         (qh (qA (jN (qb (jv 3) (qb (jv 4) qf))))) qC)))
     (qh (qA jz))))),?_⟩
   have good:=g.good
   have le14:=g.le
   obtain⟨t,gd,ht⟩:=lb.get hz
   cases cz:qB R z with
   | some n=>
     rw[JK cz]at ht
     exact⟨_,rfl,_,rfl,D,_,rfl,gd,t,_,0,_,rfl,rfl,.of ht,rfl,rfl,_,rfl,jI (by decide+kernel) (q H _ (λ_ _ h=>h) (.inl ⟨n,cz,rfl⟩))⟩
   | none=>
     rw[JL cz]at ht
     refine⟨_,rfl,_,rfl,D,_,rfl,gd,t,_,0,_,rfl,rfl,.of ht,rfl,rfl,_,rfl,jJ (by decide+kernel) ?_⟩
     have lk:Rb.Lacks (lst rs R z) (j8 rs (qB R) z):=Rb.lackI_lacks _
     have l16:=xf good L hz
     refine Jw (λσ G=>∃(n:Nat) (v4 v5:Option V),σ=[some (.ref l),some (.ref D),some (.str z),some (.int (n:Nat)),v4,v5]/\G=H/\n<=lst rs R z) (λσ _=>match σ with | [_,_,_,some (.int i),_,_]=>20 - i.toNat | _=>0)
       ⟨0,none,none,rfl,rfl,Nat.zero_le _⟩ ?_ ?_
     . rintro σ G ⟨n,v4,v5,rfl,rfl,le⟩
       have eb:Builtin.bitAnd (((Rb.setN (j8 rs (qB R) z):Nat):Int) / 2^ ((n:Nat):Int).toNat) 1=(((decide (n∈j8 rs (qB R) z)).toNat:Nat):Int):=by rw[XH,Rb.testBit_setN]
       refine⟨_,rfl,_,rfl,D,_,rfl,gd,t,_,1,_,rfl,rfl,.of ht,rfl,_,rfl,_,_,rfl,rfl,by show (0:Int)<=(n:Nat);omega,_,_,rfl,rfl,rfl,_,rfl,?_⟩
       by_cases c:n∈j8 rs (qB R) z
       . rw[decide_eq_true c]at eb
         refine jI (decide_eq_true (by show V.int (Builtin.bitAnd _ _)=V.int 1;rw[eb];rfl)) ?_
         have ne:n≠lst rs R z:=λe=>lk.1 (e▸c)
         refine⟨_,rfl,_,_,rfl,rfl,⟨n+1,v4,v5,rfl,rfl,by omega⟩,?_⟩
         show 20 - ((n:Int)+1).toNat < 20 - (n:Int).toNat
         omega
       . rw[decide_eq_false c]at eb
         refine jJ (decide_eq_false λh=>by have h':=V.int.inj (show V.int (Builtin.bitAnd _ _)=V.int 1 from h);rw[eb]at h';cases h') ?_
         have en:n=lst rs R z:=Nat.le_antisymm le (Nat.le_of_not_lt λh=>c (lk.2 n h))
         subst en
         have gG:∀{G':Hp},Same G G'->jg G' l ps rs:=λsx=>g.mono sx
         have egz:Qp rs z=(rs.map (·.1)).filter λy=>decide (y∈jT rs z):=by
           obtain⟨r,hr',er⟩:=List.mem_map.mp hz
           rw[<-er,J3 good.nd hr',Q6 good.nd hr']
           unfold jW
           refine List.filter_congr λy _=>?_
           rw[Bool.eq_iff_iff,zI]
           simp
         have eop:opens rs R z=(((rs.map (·.1)).filter λy=>decide (y∈jT rs z)&&opn rs R (lst rs R z) y)).map λy=>(lst rs R z,y):=by
           unfold opens
           rw[egz,List.filter_filter]
           congr 1
           exact List.filter_congr λy _=>Bool.and_comm _ _
         refine⟨_,rfl,l,rfl,⟨_,.of g.at_⟩,?_⟩
         refine jo (K:=K) (a:=l) (xs:=ps.map V.ref) (λi σ' G'=>∃(v4 v5:Option V),σ'=[some (.ref l),some (.ref D),some (.str z),some (.int (lst rs R z:Nat)),v4,v5]/\Same G G'/\∀y∈(rs.map (·.1)).take i,¬(y∈jT rs z/\opn rs R (lst rs R z) y=true))
           ⟨v4,v5,rfl,λ_ _ h=>h,λy h=>(nomatch h)⟩ (λi σ' G' _ ⟨_,_,_,sx,_⟩=>.of (gG sx).at_) ?_ ?_
         . rintro i y σ' G' hy ⟨v4,v5,rfl,sx,hall⟩
           obtain⟨p1,q1,r,rfl,er,hr',ha1,hb1⟩:=(gG sx).rows.item hy
           have eN:(rs.map (·.1))[i]?=some r.1:=by rw[List.getElem?_map,er];rfl
           have hrN:r.1∈rs.map (·.1):=List.mem_map.mpr ⟨r,hr',rfl⟩
           have skip:∀{G2:Hp} {v5:Option V},Same G' G2->¬(r.1∈jT rs z/\opn rs R (lst rs R z) r.1=true)->∃(v4' v5':Option V),[some (V.ref l),some (.ref D),some (.str z),some (.int (lst rs R z:Nat)),some (.str r.1),v5]=[some (.ref l),some (.ref D),some (.str z),some (.int (lst rs R z:Nat)),v4',v5']/\Same G G2/\∀y∈(rs.map (·.1)).take (i+1),¬(y∈jT rs z/\opn rs R (lst rs R z) y=true):=λ{G2 v5} s2 no=>by
             refine⟨_,_,rfl,sx.trans s2,λy hy=>?_⟩
             rw[List.take_add_one,eN]at hy
             rcases List.mem_append.mp hy with h | h
             . exact hall y h
             . have:y=r.1:=by simpa using h
               rw[this];exact no
           refine⟨p1,_,rfl,.of ha1,rfl,_,_,rfl,_,_,rfl,rfl,?_⟩
           obtain⟨rz,hrz,erz⟩:=List.mem_map.mp hz
           refine⟨_,rfl,_,rfl,y9 (ky (gG sx) hrz λdd q0 hdd hq0 kvs dg=>?_)⟩
           rw[erz]at dg
           have s2:Same G' (upd G' dd (.dK kvs)):=qj hdd
           generalize upd G' dd (.dK kvs)=G2 at s2 dg
           have eld:jT rs z=rz.2:=by rw[<-erz];exact Q6 good.nd hrz
           refine⟨_,rfl,dd,_,rfl,dg,q0,_,rfl,.inr (.of (s2 _ _ hq0)),rfl,vg _,_,rfl,?_⟩
           by_cases c1:r.1∈rz.2
           . refine jI (show Z3 (.str r.1) (rz.2.map V.str)=true from zI.mpr c1) ?_
             obtain⟨t2,gd2,ht2⟩:=(lb.mono (sx.trans s2)).get hrN
             cases cy:qB R r.1 with
             | some m=>
               rw[JK cy]at ht2
               refine⟨_,rfl,_,rfl,D,_,rfl,gd2,t2,_,0,_,rfl,rfl,.of ht2,rfl,rfl,_,rfl,jJ (by decide+kernel) (qZ (skip s2 λh=>?_))⟩
               have:=of_decide_eq_true h.2
               rw[cy]at this
               exact nomatch this.1
             | none=>
               rw[JL cy]at ht2
               refine⟨_,rfl,_,rfl,D,_,rfl,gd2,t2,_,0,_,rfl,rfl,.of ht2,rfl,rfl,_,rfl,jI (by decide+kernel) ?_⟩
               have eb2:Builtin.bitAnd (((Rb.setN (j8 rs (qB R) r.1):Nat):Int) / 2^ ((lst rs R z:Nat):Int).toNat) 1=(((decide (lst rs R z∈j8 rs (qB R) r.1)).toNat:Nat):Int):=by rw[XH,Rb.testBit_setN]
               refine⟨_,rfl,_,rfl,D,_,rfl,gd2,t2,_,1,_,rfl,rfl,.of ht2,rfl,_,rfl,_,_,rfl,rfl,by show (0:Int)<=(lst rs R z:Nat);omega,_,_,rfl,rfl,rfl,_,rfl,?_⟩
               by_cases c2:lst rs R z∈j8 rs (qB R) r.1
               . rw[decide_eq_true c2]at eb2
                 refine jJ (decide_eq_false λh=>by have h':=V.int.inj (show V.int (Builtin.bitAnd _ _)=V.int 0 from h);rw[eb2]at h';cases h') (skip s2 λh=>?_)
                 exact(of_decide_eq_true h.2).2 c2
               . rw[decide_eq_false c2]at eb2
                 refine jI (decide_eq_true (by show V.int (Builtin.bitAnd _ _)=V.int 0;rw[eb2];rfl)) ?_
                 refine⟨_,rfl,_,rfl,by show 2<=sizeLine;decide,λt3 ht3=>?_⟩
                 have ok1:(decide (r.1∈jT rs z)&&opn rs R (lst rs R z) r.1)=true:=by
                   rw[eld,decide_eq_true c1]
                   show opn rs R (lst rs R z) r.1=true
                   exact decide_eq_true ⟨cy,c2⟩
                 obtain⟨xs,ys,e1,e2,e3⟩:=Xh (p:=λy=>decide (y∈jT rs z)&&opn rs R (lst rs R z) y) eN ok1 λy hy h=>hall y hy (by simpa using h)
                 refine q _ _ (sx.trans (s2.trans (qj ht3))) (.inr ⟨cz,t3,(lst rs R z,r.1),_,(by rw[eop,e3];rfl:_=_::(ys.filter λy=>decide (y∈jT rs z)&&opn rs R (lst rs R z) y).map λy=>(lst rs R z,y)),rfl,qd⟩)
           . refine jJ (show Z3 (.str r.1) (rz.2.map V.str)=false from ?_) (qZ (skip s2 λh=>c1 (eld▸h.1)))
             cases c:Z3 (.str r.1) (rz.2.map V.str) with
             | false=>rfl
             | true=>exact absurd (zI.mp c) c1
         . rintro σ' G' ⟨v4,v5,rfl,sx,hall⟩
           rw[List.length_map,g.rows.1,<-List.length_map (f:=(·.1)) (as:=rs),List.take_of_length_le (Nat.le_refl _)]at hall
           refine absurd ?_ (WJ L hz cz)
           rw[eop]
           have:((rs.map (·.1)).filter λy=>decide (y∈jT rs z)&&opn rs R (lst rs R z) y)=[]:=by
             rw[List.filter_eq_nil_iff]
             intro y hy h
             exact hall y hy (by simpa using h)
           rw[this]
           rfl
     . rintro σ G Q1 Q2 kk ⟨a1,e1,a2,e2,a3,a4,e3,e4,b1,b2,b3,b4,e5,e6,e7,e8,c1,f1,i1,j1,f2,f3,f4,i2,j2,f5,f6,f7,k1,f8,q1⟩
       exact⟨a1,e1,a2,e2,a3,a4,e3,e4,b1,b2,b3,b4,e5,e6,e7,e8,c1,f1,i1,j1,f2,f3,f4,i2,j2,f5,f6,f7,k1,f8,kk _ _ q1⟩
end
end Rh
set_option Elab.async false
set_option linter.all false
set_option maxRecDepth 100000
set_option maxHeartbeats 4000000
namespace Rh
open PySem L2 PyProof.Rows MLab
abbrev ZA:Stmt:=top 65
structure Kc (K:PySem.W.Frag) (mg:Str->Option Value):Prop where
 bool:mg "bool"=none
 dict:mg "dict"=none
 kdd:PySem.W.kitOne K (.type "dict") (.type "dict")=some true
 kib:PySem.W.kitOne K (.type "int") (.type "bool")=some false
def Y1:Sp:=λvs H Q _=>∃(D:Addr) (rs:ja) (R:Rs Str),vs=[.ref D]/\JV H D rs R/\qy rs/\rs.length<=14/\∀H',Same H H'->Q (.bl true) H'
section
variable {P:Program} {w:World} {K:PySem.W.Frag} {mg:Str->Option Value} {base:Heap}
abbrev nLS:List Str:=["_law_told","_law_name","_law_label"]
theorem KY:qv nLS ["_law_told"] (qk ZA):=⟨rfl,rfl,rfl,by decide+kernel,rfl,by decide+kernel,by decide+kernel⟩
theorem VD {f:Addr} {fd:FuncData} (F:jQ K "_law_strict" "_law_strict" ZA f fd) (G:Qk mg) (T:QL K mg) (Z:Kc K mg):qp P w K mg base qM 1 f fd ["_law_told"] Y1:=by
 refine F.okJ KY (λvs H Q E h=>?_) (λcdv A outer s H vs Q E hr h=>?_)
 . obtain⟨D,rs,R,rfl,_⟩:=h
   rfl
 . obtain⟨D,rs,R,rfl,lb,good,le14,q⟩:=h
   have hu:=jA hr
   refine⟨_,qe (uF (qT PassesOwn.never rfl (X6 (jv 0)) (qt (i:=1) KY.nd rfl (Or.inl rfl))
       (qe (qw (i:=2) KY.nd rfl (Or.inl rfl) (qG hu (jv 0) (jv 1) (λ_ _=>rfl)))
       (qh (qL (JW.pt (QG (Qi (jt (qE jq (by rfl) T.isi boot_isinstance (qb (jv 2) (qb (Qz (v:=.ty "tuple") (by rfl) G.tup boot_tuple rfl) qf)))))
           (Qh (qu (zB (Nat.lt_of_succ_lt hu)) (QI (N':=["_law_one"]) (ix:=[none]) (tt:=tB (Rv (yw K) (jx (jm 0) (jx (tC (.ty "bool")) Q0)))) (te:=jm 0) rfl ⟨rfl,rfl,rfl,rfl,rfl⟩ (Zj (JP k6 (jv 2) (ZI qi) ZJ)) (λC s2 H2 fp pins=>
             ⟨qt (i:=0) (Gh _) rfl (Or.inl rfl),j9 (jt (qE jq (by rfl) T.isi boot_isinstance (qb (jv 0) (qb (Qz (v:=.ty "bool") (by rfl) Z.bool boot_bool rfl) qf)))),jv 0⟩)) (jE qf) (qz _))))) (qh (qA jz)) qC)))))
     (qh (qA (qE jq (by rfl) T.isi boot_isinstance (qb (jv 0) (qb (Qz (v:=.ty "dict") (by rfl) Z.dict boot_dict rfl) qf))))),?_⟩
   obtain⟨kvs,a,ek,c⟩:=lb.at_
   refine⟨D,kvs,a,λo=>?_⟩
   have hD1:upd H D (.frz o (.dK kvs)) D=some (.frz o (.dK kvs)):=qd
   have f1:∀b u,H b=some u->b≠D->upd H D (.frz o (.dK kvs)) b=some u:=λb u h n=>by rw[qg n];exact h
   generalize upd H D (.frz o (.dK kvs))=H1 at hD1 f1
   refine⟨_,rfl,D,o,kvs,rs.map (·.1),rfl,hD1,ek,?_⟩
   refine Wc (λi σ' G=>∃v1 v2:Option V,σ'=[some (.ref D),v1,v2]/\Same H1 G) ⟨none,none,rfl,λ_ _ h=>h⟩ (λi σ' G _ ⟨_,_,_,sx⟩=>sx _ _ hD1) ?_ ?_
   . rintro i z σ' G ez ⟨v1,v2,rfl,sx⟩
     obtain⟨r,hr',er⟩:=List.mem_map.mp (List.mem_of_getElem? ez)
     obtain⟨t,u,v⟩:=c r hr'
     rw[er]at u v
     have ht:G t=some (.tup (js rs R z)):=sx _ _ (f1 _ _ v λw=>by rw[w,a]at v;cases v)
     have gd:jB G D (.str z) (some (.ref t)):=by rw[<-u];exact .inl ⟨kvs,Sum.inr z,.inr ⟨o,sx _ _ hD1⟩,rfl,rfl⟩
     refine⟨_,rfl,_,rfl,D,_,rfl,gd,?_⟩
     refine⟨_,rfl,_,_,_,_,rfl,rfl,.tup ht,T.ktt,_,rfl,qZ ?_⟩
     have fin:∀(is:List Int) (p W:Addr) (G1:Hp) (Q':Bool->Hp->Prop),is.length<=5->Same G G1->G1 p=some (.tup (is.map V.int))->G1 W=none->(∀G2,Same G G2->Q' false G2)->
         Zs (KJ K p) (Qw 0) (tB (Rv (yw K) (jx (jm 0) (jx (tC (V.ty "bool")) Q0)))) (jm 0) W [none] G1 λG2=>wt Q0 [some (V.ref D),some (.str z),some (.ref t)] G2 λy G3=>Ku K (.ref W) y G3 λx G4=>∃k,x=.bl k/\Q' k G4:=λis p W G1 Q' l5 s1 hp hW kk=>by
       refine U0 (K:=K) (a:=p) (xs:=is) (enc:=V.int) (out:=λ_=>none) (rest:=[]) hW hp (qo (by omega)) ?_ ?_ ?_
       . intro x hx G' s5 R' k2
         exact⟨_,rfl,_,_,_,_,rfl,rfl,.int x,Z.kib,_,rfl,k2 G' λ_ _ h=>h⟩
       . intro x hx v ev
         cases ev
       . intro G2 s2 hW2
         have e0:is.filterMap (λ_=>(none:Option V))=[]:=by rw[List.filterMap_eq_nil_iff];exact λ_ _=>rfl
         rw[e0]at hW2
         exact⟨by show 0<=sizeLine;decide,λl0 hl0=>⟨W,l0,[],rfl,rfl,.of (qm hW2 hl0),.of qd,_,rfl,kk _ (s1.trans (s2.trans (qj hl0)))⟩⟩
     cases cz:qB R z with
     | some n=>
       rw[JK cz]at ht
       refine⟨_,rfl,1,rfl,t,_,rfl,.of ht,(show ¬(HT.sIx 3 0 (some 1)=0/\HT.sIx 3 3 none=3) by decide+kernel),λp hp=>⟨p,rfl,⟨_,.of qd⟩,λW hW=>?_⟩⟩
       exact fin [(n:Nat),(jD R z:Nat)] p W _ _ (show 2<=5 by decide) (qj hp) (show upd G p _ p=some (.tup [.int (n:Nat),.int (jD R z:Nat)]) from qd) hW λG2 s2=>qZ ⟨_,_,rfl,sx.trans s2⟩
     | none=>
       rw[JL cz]at ht
       refine⟨_,rfl,1,rfl,t,_,rfl,.of ht,(show ¬(HT.sIx 2 0 (some 1)=0/\HT.sIx 2 2 none=2) by decide+kernel),λp hp=>⟨p,rfl,⟨_,.of qd⟩,λW hW=>?_⟩⟩
       exact fin [(Rb.setN (j8 rs (qB R) z):Nat)] p W _ _ (show 1<=5 by decide) (qj hp) (show upd G p _ p=some (.tup [.int (Rb.setN (j8 rs (qB R) z):Nat)]) from qd) hW λG2 s2=>qZ ⟨_,_,rfl,sx.trans s2⟩
   . rintro σ' G ⟨v1,v2,rfl,sx⟩
     refine⟨sx _ _ hD1,_,rfl,_,_,_,_,rfl,rfl,.dK qd,Z.kdd,q _ λb u hb=>?_⟩
     by_cases e:b=D
     . subst e
       rw[a]at hb
       cases hb
       exact qd
     . rw[qg e]
       exact sx _ _ (f1 _ _ hb e)
end
end Rh
set_option Elab.async false
set_option linter.all false
set_option maxRecDepth 100000
set_option maxHeartbeats 4000000
namespace Rh
open PySem L2 PyProof.Rows MLab
abbrev j5:Stmt:=QP (top 8) 0
structure wj (K:PySem.W.Frag) (mg:Str->Option Value) (D:Addr) (x qual:Str) (st:Stmt) (fld:Str) (C f:Addr) (fd:FuncData):Prop where
 cls:zu K C (.ref D::Qd)
 mkr:NJ K C f (.ref D::Qd)
 ns:mg x=some (.ref C)
 na:jF K C fld
 fn:jQ K "__init__" qual st f fd
 bi:jK K fd ["self",fld] []
theorem Mo (D:Addr):Vz (.ref D::Qd):=rfl
theorem vV (D:Addr):(Value.ref D::Qd).contains (.type "BaseException")=true:=rfl
theorem wj.rcls {K:PySem.W.Frag} {mg:Str->Option Value} {D C f:Addr} {x qual fld:Str} {st:Stmt} {fd:FuncData} (h:wj K mg D x qual st fld C f fd):Rk K C:=⟨f,_,h.mkr,vV D⟩
def spE (C:Addr) (fld:Str):Sp:=λvs H Q _=>∃e y,vs=[.ref e,y]/\H e=some (Z5 e C)/\∀dx,H dx=none->Q .non (upd (upd H e (J5 e C dx)) dx (.xd [(fld,y)]))
theorem zE {H:Hp} {e dx C:Addr} {fs:List (Str×V)} (h1:H e=none) (h2:upd H e (Z5 e C) dx=none):
   Same H (upd (upd (upd H e (Z5 e C)) e (J5 e C dx)) dx (.xd fs))/\upd (upd (upd H e (Z5 e C)) e (J5 e C dx)) dx (.xd fs) e=some (J5 e C dx)/\upd (upd (upd H e (Z5 e C)) e (J5 e C dx)) dx (.xd fs) dx=some (.xd fs):=by
 have ne:e≠dx:=λz=>by rw[<-z,qd]at h2;cases h2
 refine⟨λb o hb=>?_,?_,qd⟩
 . have b1:b≠e:=ql hb h1
   have b2:b≠dx:=λz=>by rw[<-z,qg b1,hb]at h2;cases h2
   rw[qg b2,qg b1,qg b1];exact hb
 . rw[qg ne];exact qd
def Ju (H H':Hp):Prop:=∀b o,H b=some o->(∀φ,o≠.ext φ)->H' b=some o
theorem _root_.L2.Same.keep {H H':Hp} (s:Same H H'):Ju H H':=λb o h _=>s b o h
theorem Ju.trans {H H' H'':Hp} (a:Ju H H') (b:Ju H' H''):Ju H H'':=λc o h n=>b c o (a c o h n) n
theorem Ju.refl (H:Hp):Ju H H:=λ_ _ h _=>h
theorem _root_.L2.SqT.keep {K:PySem.W.Frag} {H H':Hp} {p:Addr} {xs:List V} (h:SqT K H p xs) (s:Ju H H'):SqT K H' p xs:=by
 rcases h with (h | ⟨o,h⟩) | h
 . exact .inl (.inl (s _ _ h (λ_ z=>nomatch z)))
 . exact .inl (.inr ⟨o,s _ _ h (λ_ z=>nomatch z)⟩)
 . exact .inr h
theorem _root_.L2.SqL.keep {K:PySem.W.Frag} {H H':Hp} {p:Addr} {xs:List V} (h:SqL K H p xs) (s:Ju H H'):SqL K H' p xs:=by
 rcases h with (h | ⟨o,h⟩) | h
 . exact .inl (.inl (s _ _ h (λ_ z=>nomatch z)))
 . exact .inl (.inr ⟨o,s _ _ h (λ_ z=>nomatch z)⟩)
 . exact .inr h
theorem jZ.keep {CG:Addr} {H H':Hp} {a:Addr} {rs:ja} (h:jZ CG H a rs) (s:Ju H H'):jZ CG H' a rs:=by
 obtain⟨dx,lo,rd,kvs,h1,h2,h3,h4⟩:=h
 exact⟨dx,lo,rd,kvs,s _ _ h1 (λ_ z=>nomatch z),s _ _ h2 (λ_ z=>nomatch z),s _ _ h3 (λ_ z=>nomatch z),λr hr=>let ⟨q,a,b⟩:=h4 r hr;⟨q,a,s _ _ b (λ_ z=>nomatch z)⟩⟩
mutual
theorem UT {K:PySem.W.Frag} {H H':Hp} (s:Ju H H'):∀{x:V} {d:PyData},DV K H x d->DV K H' x d
 | _,_,.non=>.non
 | _,_,.bl b=>.bl b
 | _,_,.int i=>.int i
 | _,_,.str x=>.str x
 | _,_,.lst h hs=>.lst (h.keep s) (dvs_keep s hs)
 | _,_,.tup h hs=>.tup (h.keep s) (dvs_keep s hs)
theorem dvs_keep {K:PySem.W.Frag} {H H':Hp} (s:Ju H H'):∀{x:List V} {d:List PyData},DVs K H x d->DVs K H' x d
 | _,_,.nil=>.nil
 | _,_,.cons h hs=>.cons (UT s h) (dvs_keep s hs)
end
theorem KA {X:Cx} {x:Str} {st:Stmt} {ps:List Str} {f:Addr} {fd:FuncData} {k:Nat} {sp:Sp} {E:L2.St->XK} {e:Expr} {es:List Expr} {t:TA} {p pos:Pos} (h:je X.K X.mg x st ps f fd) (G:qp X.prog X.w X.K X.mg X.base (YT X.prog X.w) k f fd ps sp) (hr:q5 k X.A) (hx:ZQ (YT X.prog X.w) X E)
   (hg:Gl X x) (ha:JA X (e::es) t) (hdb:(x==("__debug__":Str))=false:=by decide) (he:starEach (e::es) X.env=(false,eval e X.env)::starEach es X.env:=by rfl) (hpl:(backTo pos (starEach es X.env)).any (·.1)=false:=by rfl):
   JE X (.Call (.Name x p) (e::es) [] pos) (kP sp [] E t):=.of (yE G hr hg h.ns h.fn.kp h.bi .nil hx ha.to hdb he hpl)
section
variable {P:Program} {w:World} {K:PySem.W.Frag} {mg:Str->Option Value} {base:Heap}
theorem vp:qv ["self","found"] ["self","found"] (qk j5):=⟨rfl,rfl,rfl,by decide+kernel,rfl,by decide+kernel,by decide+kernel⟩
theorem vM {D C f:Addr} {fd:FuncData} (x:wj K mg D "NoPlace" "NoPlace.__init__" j5 "found" C f fd):qp P w K mg base qM 1 f fd ["self","found"] (spE C "found"):=by
 refine x.fn.okJ vp (λvs H Q E h=>?_) (λcdv A outer s H vs Q E hr h=>?_)
 . obtain⟨e,y,rfl,_⟩:=h
   rfl
 . obtain⟨e,y,rfl,hH,k⟩:=h
   exact⟨_,qh (Gz (bm:=.ref D::Qd) (jv 0) (jv 1) rfl),_,rfl,_,rfl,e,C,rfl,hH,x.cls,Mo D,x.na,λdx hdx=>k dx hdx⟩
def Z9 (K:PySem.W.Frag) (H:Hp) (N:List Str) (v:V):Prop:=(∃d,DV K H v d/\d.canLay0=true/\d.depth<=40/\∀z∈N,PyData.eqv (.str z) d=false)\/∃a kvs,v=.ref a/\H a=some (.dK kvs)
theorem Z9.keep {H H':Hp} {N:List Str} {v:V} (h:Z9 K H N v) (s:Ju H H'):Z9 K H' N v:=by
 rcases h with ⟨d,a,b⟩ | ⟨a,kvs,e,h⟩
 . exact .inl ⟨d,UT s a,b⟩
 . exact .inr ⟨a,kvs,e,s _ _ h λ_ z=>nomatch z⟩
theorem KB {X:Cx} {x:Str} {st:Stmt} {ps:List Str} {f:Addr} {fd:FuncData} {k:Nat} {sp:Sp} {E:XK} {e:Expr} {es:List Expr} {t:TA} {p pos:Pos} (h:je X.K X.mg x st ps f fd) (G:qp X.prog X.w X.K X.mg X.base (YT X.prog X.w) k f fd ps sp) (hr:q5 k X.A) (hx:Qj (YT X.prog X.w) X E)
   (hg:Gl X x) (ha:JA X (e::es) t) (hdb:(x==("__debug__":Str))=false:=by decide) (he:starEach (e::es) X.env=(false,eval e X.env)::starEach es X.env:=by rfl) (hpl:(backTo pos (starEach es X.env)).any (·.1)=false:=by rfl):
   JE X (.Call (.Name x p) (e::es) [] pos) (zQ sp [] E t):=.of (UC G hr hg h.ns h.fn.kp h.bi .nil hx ha.to hdb he hpl)
def Zf (K:PySem.W.Frag) (CG CP:Addr):Sp:=λvs H Q E=>∃(a:Addr) (rs:ja) (v:V),vs=[.ref a,v]/\jZ CG H a rs/\qy rs/\Z9 K H (rs.map (·.1)) v/\∀H1 dx,Same H H1->H1 dx=some (.xd [(Str.ofString "found",v)])->E (.ref CP) (some dx) H1
theorem Y9 {f CG D CP fP:Addr} {fd fdP:FuncData} (F:jQ K "need_place" "need_place" QU f fd) (G:Qk mg) (M:GM K mg CG) (xP:wj K mg D "NoPlace" "NoPlace.__init__" j5 "found" CP fP fdP):qp P w K mg base (YT P w) 3 f fd UJ (Zf K CG CP):=by
 obtain⟨fC,fdC,C⟩:=M.cls
 obtain⟨fN,fdN,hN⟩:=M.nm
 have GN:qp P w K mg base qM 1 fN fdN ["self"] (Jy CG):=J2 hN.fn C G
 have GP:qp P w K mg base qM 1 fP fdP ["self","found"] (spE CP "found"):=vM xP
 refine F.okX RS (λvs H Q E h=>?_) (λcdv A outer s H vs Q E hr h=>?_)
 . obtain⟨g,rs,v,rfl,_⟩:=h
   rfl
 . obtain⟨g,rs,v,rfl,gr,good,hn,q⟩:=h
   refine⟨_,qh (qL (qu (vE hr.units) (jv 1) (UM hN C.cl GN (hr.mono (by decide)) (jv 0)) (by with_unfolding_all rfl))
     (qh (xn rfl vz (xt xP.mkr GP hr (by rfl) xP.ns xP.bi Zb (qb (jv 1) qf)))) qC),?_⟩
   obtain⟨dx,fs,hg,l1,l2⟩:=gr.ins
   refine⟨_,rfl,_,rfl,g,dx,fs,rfl,hg,l1,g,rs,rfl,gr,λl hl=>?_⟩
   have s1:Same H (upd H l (.lst ((rs.map (·.1)).map V.str))):=qj hl
   have hl1:upd H l (.lst ((rs.map (·.1)).map V.str)) l=some (.lst ((rs.map (·.1)).map V.str)):=qd
   generalize upd H l (.lst ((rs.map (·.1)).map V.str))=H1 at s1 hl1
   rcases hn.keep s1.keep with ⟨d,dv,cl,dp,no⟩ | ⟨a,kvs,rfl,ha⟩
   . have e0:((rs.map (·.1)).map PyData.str).any (λz=>PyData.eqv z d)=false:=by
       rw[List.any_eq_false]
       intro x hx
       obtain⟨z,hz,rfl⟩:=List.mem_map.mp hx
       rw[no z hz]
       exact Bool.false_ne_true
     refine .inl ⟨d,_,dv,NK hl1,cl,Rg (λz hz=>by obtain⟨r,hr',rfl⟩:=List.mem_map.mp hz;exact good.nm r hr'),dp,?_⟩
     show ∃k,V.bl (!_)=V.bl k/\_
     rw[e0]
     refine⟨_,rfl,jY ⟨_,rfl,by show 1<=sizeLine;decide,λe he=>⟨e,v,rfl,qd,λdx hdx=>⟨rfl,e,CP,dx,rfl,?_,xP.rcls,?_⟩⟩⟩⟩
     . exact(zE he hdx).2.1
     . obtain⟨m1,m2,m3⟩:=zE (fs:=[(Str.ofString "found",v)]) he hdx
       exact q _ dx (s1.trans m1) m3
   . refine .inr ⟨a,l,kvs,rs.map (·.1),rfl,rfl,ha,.of hl1,_,rfl,jY ⟨_,rfl,by show 1<=sizeLine;decide,λe he=>⟨e,.ref a,rfl,qd,λdx hdx=>⟨rfl,e,CP,dx,rfl,?_,xP.rcls,?_⟩⟩⟩⟩
     . exact(zE he hdx).2.1
     . obtain⟨m1,m2,m3⟩:=zE (fs:=[(Str.ofString "found",V.ref a)]) he hdx
       exact q _ dx (s1.trans m1) m3
end
end Rh
set_option Elab.async false
set_option linter.all false
set_option maxRecDepth 100000
set_option maxHeartbeats 4000000
namespace Rh
open PySem L2 PyProof.Rows MLab
abbrev JZ:Stmt:=top 64
structure Rp (K:PySem.W.Frag) (mg:Str->Option Value) (D CP:Addr):Prop where
 nD:mg "HeapError"=some (.ref D)
 cD:Kf K D
 kp:PySem.W.kitOne K (.ref CP) (.ref CP)=some true
 spc:PySem.W.specialIn K (.builtin "object.__class__") "__get__"=some (some (.builtin "getset_descriptor.__get__"))
 tks:PySem.W.takesIn K (.builtin "object.__class__")=some true
def kU (K:PySem.W.Frag) (CG:Addr):Sp:=λvs H Q _=>∃(n:Int) (g:Addr) (rs:ja) (v:V),vs=[.int n,.ref g,v]/\jZ CG H g rs/\qy rs/\Z9 K H (rs.map (·.1)) v/\
 ∀H' l,Ju H H'->H' l=some (.lst [v])->Q (.ref l) H'
section
variable {P:Program} {w:World} {K:PySem.W.Frag} {mg:Str->Option Value} {base:Heap}
theorem uf {f fQ CG D CP fP:Addr} {fd fdQ fdP:FuncData} (F:jQ K "worth_of" "worth_of" vq f fd) (G:Qk mg) (M:GM K mg CG) (hQ:je K mg "need_place" QU UJ fQ fdQ) (xP:wj K mg D "NoPlace" "NoPlace.__init__" j5 "found" CP fP fdP):qp P w K mg base (YT P w) 4 f fd ["ground","name"] (Zf K CG CP):=by
 have GQ:qp P w K mg base (YT P w) 3 fQ fdQ UJ (Zf K CG CP):=Y9 hQ.fn G M xP
 refine F.okX Kp (λvs H Q E h=>?_) (λcdv A outer s H vs Q E hr h=>?_)
 . obtain⟨g,rs,v,rfl,_⟩:=h
   rfl
 . obtain⟨g,rs,v,rfl,gr,good,hn,q⟩:=h
   exact⟨_,qe (qY (KB hQ GQ hr Y6 (by rfl) (qb (jv 0) (qb (jv 1) qf)))) jc,_,rfl,_,rfl,g,rs,v,rfl,gr,good,hn,q⟩
theorem yQ {f fQ CG D CP fP:Addr} {fd fdQ fdP:FuncData} (F:jQ K "open_road" "open_road" Y5 f fd) (G:Qk mg) (M:GM K mg CG) (hQ:je K mg "need_place" QU UJ fQ fdQ) (xP:wj K mg D "NoPlace" "NoPlace.__init__" j5 "found" CP fP fdP):qp P w K mg base (YT P w) 4 f fd ["ground","name"] (Zf K CG CP):=by
 have GQ:qp P w K mg base (YT P w) 3 fQ fdQ UJ (Zf K CG CP):=Y9 hQ.fn G M xP
 refine F.okX Vq (λvs H Q E h=>?_) (λcdv A outer s H vs Q E hr h=>?_)
 . obtain⟨g,rs,v,rfl,_⟩:=h
   rfl
 . obtain⟨g,rs,v,rfl,gr,good,hn,q⟩:=h
   exact⟨_,qe (qY (KB hQ GQ hr Y6 (by rfl) (qb (jv 0) (qb (jv 1) qf)))) jc,_,rfl,_,rfl,g,rs,v,rfl,gr,good,hn,q⟩
abbrev nRf:List Str:=["_law_way","_law_ground","_law_thing","_law_told","e"]
abbrev NR:List Str:=["_law_way","_law_ground","_law_thing"]
theorem wH:qv nRf NR (qk JZ):=⟨rfl,rfl,rfl,by decide+kernel,rfl,by decide+kernel,by decide+kernel⟩
theorem WN {f fQ fW fO CG D CP fP:Addr} {fd fdQ fdW fdO fdP:FuncData} (F:jQ K "_law_refused" "_law_refused" JZ f fd) (G:Qk mg) (T:QL K mg) (M:GM K mg CG) (hQ:je K mg "need_place" QU UJ fQ fdQ) (hW:je K mg "worth_of" vq ["ground","name"] fW fdW) (hO:je K mg "open_road" Y5 ["ground","name"] fO fdO)
   (xP:wj K mg D "NoPlace" "NoPlace.__init__" j5 "found" CP fP fdP) (Z:Rp K mg D CP):qp P w K mg base qM 5 f fd NR (kU K CG):=by
 have GW:qp P w K mg base (YT P w) 4 fW fdW ["ground","name"] (Zf K CG CP):=uf hW.fn G M hQ xP
 have GO:qp P w K mg base (YT P w) 4 fO fdO ["ground","name"] (Zf K CG CP):=yQ hO.fn G M hQ xP
 refine F.okJ wH (λvs H Q E h=>?_) (λcdv A outer s H vs Q E hr h=>?_)
 . obtain⟨n,g,rs,v,rfl,_⟩:=h
   rfl
 . obtain⟨n,g,rs,v,rfl,gr,good,hn,q⟩:=h
   refine⟨_,qe (qw (i:=3) wH.nd rfl (Or.inl rfl) X7)
     (qe (Gy rfl rfl (λpn W E hE=>qh (qL (qu j7 (jv 0) qi (qz _)) (qh (qY (KA hW GW hr hE (by rfl) (qb (jv 1) (qb (jv 2) qf))))) (qh (qY (KA hO GO hr hE (by rfl) (qb (jv 1) (qb (jv 2) qf)))))))
       (xq (j:=4) (ts:=kM (tB (Rv (yv K (.ref D::Qd)) (jx (jm 4) (jx (tC (.ref CP)) Q0)))) (wv (wt (jx (Ki K (.ref D::Qd) (jm 4) "found") Q0)) (Qw 3)) Wt)
         (by rfl) Z.nD Z.cD wH.nd rfl rfl
         (λv E=>qh (qL (jt (qE (W6 (bm:=.ref D::Qd) Z.spc Z.tks) (by rfl) T.isi boot_isinstance (qb (jv 4) (qb (Jm (v:=.ref CP) (by rfl) xP.ns rfl) qf)))) (qh (qw (i:=3) wH.nd rfl (Or.inl rfl) (jE (qb (uJ (bm:=.ref D::Qd) (jv 4) rfl) qf)))) qC))
         xp))
     (qh (qA (jv 3)))),?_⟩
   refine⟨λC dx Hx=>C=CP/\Same H Hx/\Hx dx=some (.xd [(Str.ofString "found",v)]),⟨_,rfl,rfl,_,rfl,?_⟩,?_⟩
   . by_cases c:n=0
     . exact jI (decide_eq_true (by rw[c])) ⟨_,rfl,_,rfl,g,rs,v,rfl,gr,good,hn,λH1 dx s1 h1=>⟨rfl,CP,dx,rfl,rfl,rfl,s1,h1⟩⟩
     . exact jJ (decide_eq_false λh=>c (V.int.inj h)) ⟨_,rfl,_,rfl,g,rs,v,rfl,gr,good,hn,λH1 dx s1 h1=>⟨rfl,CP,dx,rfl,rfl,rfl,s1,h1⟩⟩
   rintro a C dx T' Hx H' ⟨rfl,sx,hdx⟩ ha kp ha'
   have nda:dx≠a:=λz=>by
     rw[z,ha]at hdx
     cases hdx
   have hdx':=kp dx _ nda hdx
   have k1:Ju H H':=λb o hb nx=>kp b o (λz=>by
     rw[z]at hb
     have:=sx _ _ hb
     rw[ha]at this
     exact nx _ (Option.some.inj this).symm) (sx _ _ hb)
   have lk:([(Str.ofString "found",v)]:List (Str×V)).lookup (Str.ofString "found")=some v:=by simp [List.lookup]
   refine⟨fP,_,xP.mkr,?_⟩
   rw[if_pos (by simp [List.contains_cons])]
   refine⟨_,rfl,a,C,dx,_,_,.ref C,true,rfl,rfl,ha',hdx',xP.cls,Z.kp,_,rfl,jY ⟨_,rfl,a,C,dx,_,_,v,rfl,ha',hdx',xP.cls,xP.na,lk,by show 1<=sizeLine;decide,λl hl=>?_⟩⟩
   exact⟨_,rfl,q _ l (k1.trans (qj hl).keep) qd⟩
end
end Rh
set_option Elab.async false
set_option linter.all false
set_option maxRecDepth 100000
set_option maxHeartbeats 4000000
namespace Rh
open PySem L2 PyProof.Rows MLab Rb
abbrev zA:Stmt:=top 66
theorem u70 {A:Around} {k:Nat} (r:q5 k A):A.units+70 < cLine:=by have:=r.un;omega
def xk (rs:ja) (R:Rs Str) (z:Str):PyData:=match qB R z with
 | some n=>.tuple [.str "number",.int (n:Nat),.int (jD R z:Nat)]
 | none=>.tuple [.str "endless",.int (setN (j8 rs (qB R) z):Nat)]
theorem UL {K:PySem.W.Frag} {H:Hp} {t:Addr} {rs:ja} {R:Rs Str} {z:Str} (h:H t=some (.tup (js rs R z))):DV K H (.ref t) (xk rs R z):=by
 unfold xk
 cases c:qB R z with
 | some n=>rw[JK c]at h;exact .tup (.of h) (.cons (.str _) (.cons (.int _) (.cons (.int _) .nil)))
 | none=>rw[JL c]at h;exact .tup (.of h) (.cons (.str _) (.cons (.int _) .nil))
theorem okN:PyData.strOk "number"=true:=by decide+kernel
theorem okE:PyData.strOk "endless"=true:=by decide+kernel
theorem Ma {w:Str} (h:PyData.strOk w=true) (i:Int):PySem.SeqAt.shaped (.tuple [.str w,.int i])=true:=by
 unfold PySem.SeqAt.shaped
 simp only[PyData.canLay0,PyData.canLayAll0,h,PyData.depth,PyData.depthAll]
 rfl
theorem N9 {w:Str} (h:PyData.strOk w=true) (i:Int):PySem.SeqAt.shaped (.tuple [.int i,.str w])=true:=by
 unfold PySem.SeqAt.shaped
 simp only[PyData.canLay0,PyData.canLayAll0,h,PyData.depth,PyData.depthAll]
 rfl
theorem uC (rs:ja) (R:Rs Str) (z:Str):PySem.SeqAt.shaped (xk rs R z)=true:=by
 unfold xk
 cases c:qB R z with
 | some n=>
   unfold PySem.SeqAt.shaped
   simp only[PyData.canLay0,PyData.canLayAll0,okN,PyData.depth,PyData.depthAll]
   rfl
 | none=>exact Ma okE _
theorem yi {K:PySem.W.Frag} {H:Hp}:∀{qs:List Addr} {ls:List (List Str)},qX H qs ls->DVs K H (qs.map V.ref) (ls.map dL)
 | [],[],_=>.nil
 | [],_::_,h=>nomatch h.1
 | _::_,[],h=>nomatch h.1
 | q::qs,l::ls,h=>.cons (NK (h.2 0 q l rfl rfl)) (yi (qs:=qs) (ls:=ls) ⟨Nat.succ.inj h.1,λi p x e1 e2=>h.2 (i+1) p x e1 e2⟩)
theorem yk:∀{ls:List (List Str)},(∀l∈ls,∀z∈l,qV z=true)->PyData.canLayAll0 (ls.map dL)=true
 | [],_=>rfl
 | l::ls,h=>by
   rw[List.map_cons,PyData.canLayAll0,yk λy hy=>h y (List.mem_cons_of_mem _ hy),Bool.and_true]
   exact Rg (h l List.mem_cons_self)
theorem yj:∀ls:List (List Str),PyData.depthAll (ls.map dL)<=1
 | []=>Nat.zero_le _
 | l::ls=>by
   rw[List.map_cons]
   have:=yj ls
   simp only[PyData.depthAll,dL,PyData.depth,Nz l]
   omega
theorem RY {ls:List (List Str)} (h:∀l∈ls,∀z∈l,qV z=true):PySem.SeqAt.shaped (.list (ls.map dL))=true:=by
 unfold PySem.SeqAt.shaped
 rw[Bool.and_eq_true]
 refine⟨yk h,decide_eq_true ?_⟩
 have:=yj ls
 simp only[PyData.depth]
 omega
structure Rt (K:PySem.W.Frag) (mg:Str->Option Value):Prop where
 place:∃f fd,je K mg "need_place" QU UJ f fd
 numin:∃f fd,je K mg "numbers_in" Zg ["bits"] f fd
 isop:∃f fd,je K mg "is_open_to" J0 ["label","number"] f fd
 opens:∃f fd,je K mg "open_roads" zY ["ground","labels","name"] f fd
 opn:∃f fd,je K mg "open_road" Y5 ["ground","name"] f fd
 lw:∃f fd,je K mg "label_worth" RX ["label"] f fd
 wof:∃f fd,je K mg "worth_of" vq ["ground","name"] f fd
 rnds:∃f fd,je K mg "rounds_of" JY ["ground"] f fd
 lback:∃f fd,je K mg "_law_back" JB Vy f fd
 lcomes:∃f fd,je K mg "_law_comes" Jf Vy f fd
 lnum:∃f fd,je K mg "_law_numbers" QB ["_law_rows_here"] f fd
 llab:∃f fd,je K mg "_law_labels" ZC ["_law_rows_here"] f fd
 lrnd:∃f fd,je K mg "_law_rounds" ZB ["_law_rows_here"] f fd
 lopn:∃f fd,je K mg "_law_open" XM NS f fd
 lstr:∃f fd,je K mg "_law_strict" ZA ["_law_told"] f fd
def Wz (CG:Addr):Sp:=λvs H Q _=>∃(l g:Addr) (ps:List Addr) (rs:ja),vs=[.ref l,.ref g]/\jg H l ps rs/\jZ CG H g rs/\∀H',Same H H'->Q (.bl true) H'
section
variable {P:Program} {w:World} {K:PySem.W.Frag} {mg:Str->Option Value} {base:Heap}
abbrev Mu:List Str:=["_law_rows_here","_law_ground","_law_due","_law_told","_law_rounds_here","_law_name","_law_row"]
abbrev w5:List Str:=["_law_rows_here","_law_ground"]
theorem Y2:qv Mu w5 (qk zA):=⟨rfl,rfl,rfl,by decide+kernel,rfl,by decide+kernel,by decide+kernel⟩
theorem vJ {f CG:Addr} {fd:FuncData} (F:jQ K "_law_right" "_law_right" zA f fd) (h:WF K mg) (B:Jc mg) (Z:Wk K mg) (G:Qk mg) (T:QL K mg) (ZD:Kc K mg) (M:GM K mg CG) (Y:V5 K mg) (L:Rt K mg):qp P w K mg base qM 10 f fd w5 (Wz CG):=by
 obtain⟨fP,fdP,hP⟩:=L.place
 obtain⟨fN,fdN,hN⟩:=L.numin
 obtain⟨fI,fdI,hI⟩:=L.isop
 obtain⟨fO,fdO,hO⟩:=L.opens
 obtain⟨fR,fdR,hR⟩:=L.opn
 obtain⟨fL,fdL,hL⟩:=L.lw
 obtain⟨fW,fdW,hW⟩:=L.wof
 obtain⟨fD,fdD,hD⟩:=L.rnds
 obtain⟨fb,fdb,hb⟩:=L.lback
 obtain⟨fc,fdc,hc⟩:=L.lcomes
 obtain⟨fn,fdn,hn⟩:=L.lnum
 obtain⟨fl,fdl,hl⟩:=L.llab
 obtain⟨fr,fdr,hr'⟩:=L.lrnd
 obtain⟨fo,fdo,ho⟩:=L.lopn
 obtain⟨fs,fds,hs⟩:=L.lstr
 obtain⟨fB,fdB,hB⟩:=Y.labels
 have Gl1:qp P w K mg base qM 4 fl fdl ["_law_rows_here"] Ko:=VF hl.fn B ZD.dict hb hc hn
 have GB:qp P w K mg base qM 8 fB fdB ["ground"] (Zv CG):=ZW hB.fn B G T M Y
 have GD:qp P w K mg base qM 8 fD fdD ["ground"] (RO CG):=Ng hD.fn B G T M Y
 have Gs:qp P w K mg base qM 1 fs fds ["_law_told"] Y1:=VD hs.fn G T ZD
 have Gr:qp P w K mg base qM 4 fr fdr ["_law_rows_here"] Kn:=VE hr'.fn B ZD.dict hb hc hn
 have GW:qp P w K mg base qM 9 fW fdW ["ground","name"] (Kk CG h.CN h.CE):=Gd hW.fn h B Z G T M Y hP hL
 have GR:qp P w K mg base qM 9 fR fdR ["ground","name"] (Vo CG):=ui hR.fn B G T M Y hP hN hI hO
 have Go:qp P w K mg base qM 1 fo fdo NS XB:=yU ho.fn B ZD.dict
 refine F.okJ Y2 (λvs H Q E h=>?_) (λcdv A outer s H vs Q E hr h0=>?_)
 . obtain⟨l,g,ps,rs,rfl,_⟩:=h
   rfl
 . obtain⟨l,g,ps,rs,rfl,ga,gr,q⟩:=h0
   have hu:=jA hr
   refine⟨_,qe (qw (i:=2) Y2.nd rfl (Or.inl rfl) (VR (qJ hl Gl1 (hr.mono (by decide)) (by rfl) (qb (jv 0) qf))))
     (qe (qw (i:=3) Y2.nd rfl (Or.inl rfl) (qJ hB GB (hr.mono (by decide)) (by rfl) (qb (jv 1) qf)))
     (qe (qw (i:=4) Y2.nd rfl (Or.inl rfl) (qJ hD GD (hr.mono (by decide)) (by rfl) (qb (jv 1) qf)))
     (qe (qL (JW.pt (QG (qu (w9 (u70 hr)) (jv 3) (jv 2) (qz _)) (QG (Qi (jt (qJ hs Gs (hr.mono (by decide)) (by rfl) (qb (jv 3) qf)))) (Qh (qu (XT hr.units) (jv 4) (qJ hr' Gr (hr.mono (by decide)) (by rfl) (qb (jv 0) qf)) (qz _)))))) (qh (qA jz)) qC)
     (qe (qT PassesOwn.never rfl (X6 (jv 2)) (qt (i:=5) Y2.nd rfl (Or.inl rfl))
       (qh (qL (JW.pt (QG (qu (XT hr.units) (uH h (hr.mono (by decide)) (qJ hW GW hr (by rfl) (qb (jv 1) (qb (jv 5) qf)))) (JP wD (qG hu (jv 2) (jv 5) (λ_ _=>rfl)) ZJ (ZI qi)) (qz _))
         (Qh (qu (XT hr.units) (qJ hR GR hr (by rfl) (qb (jv 1) (qb (jv 5) qf))) (qJ ho Go (hr.mono (by decide)) (by rfl) (qb (jv 0) (qb (jv 2) (qb (jv 5) qf)))) (qz _))))) (qh (qA jz)) qC)))
     (qe (qY (X8 PySem.F.plainAttrs_dict PySem.F.slot_dict_clear PySem.F.type_dict_clear vS (jv 3)))
     (qe (qT PassesOwn.never rfl (qO (jv 4)) (qt (i:=6) Y2.nd rfl (Or.inl rfl)) (qh (qY (zg PySem.F.plainAttrs_list PySem.F.slot_list_append PySem.F.type_list_append Qg (jv 6) (qb qS qf)))))
     (qe (qY (X8 PySem.F.plainAttrs_list PySem.F.slot_list_clear PySem.F.type_list_clear xb (jv 4)))
     (qh (qA jz))))))))),?_⟩
   have good:=ga.good
   have le14:=ga.le
   have nd:=good.nd
   have knd:((rs.map (·.1)).map (Sum.inr:Str->qD)).Nodup:=QC nd λa _ b _ e=>Sum.inr.inj e
   refine⟨_,rfl,l,ps,rs,rfl,ga,λH1 D1 R s1 hD1 lb1 all=>?_⟩
   obtain⟨kvs1,a1,ek1,c1⟩:=lb1.at_
   refine⟨D1,kvs1,rfl,a1,λo=>?_⟩
   have sA:Same H (upd H1 D1 (.frz o (.dK kvs1))):=Same.upd s1 hD1
   have hA:upd H1 D1 (.frz o (.dK kvs1)) D1=some (.frz o (.dK kvs1)):=qd
   have cA:∀r∈rs,∃t,qQ kvs1 (Sum.inr r.1:qD)=some (.ref t)/\upd H1 D1 (.frz o (.dK kvs1)) t=some (.tup (js rs R r.1)):=λr hr=>let ⟨t,u,v⟩:=c1 r hr;⟨t,u,by rw[qg (λe=>by rw[e,a1]at v;cases v)];exact v⟩
   generalize upd H1 D1 (.frz o (.dK kvs1))=HA at sA hA cA
   have lbR:∀{X:Hp},Same HA X->YK X D1 rs R:=λsx=>⟨kvs1,.inr ⟨o,sx _ _ hA⟩,ek1,λr hr=>let ⟨t,u,v⟩:=cA r hr;⟨t,u,sx _ _ v⟩⟩
   refine⟨_,rfl,g,rs,rfl,gr.mono sA,good,le14,λH2 D2 R2 s2 hD2 lb2 all2=>?_⟩
   obtain rfl:=All.uniq nd all all2
   have La:=xj (JR nd) all
   refine⟨_,rfl,g,rs,rfl,gr.mono (sA.trans s2),good,le14,λH3 L3 qs R3 s3 hL3 hL3' rn3 fz3 all3=>?_⟩
   obtain rfl:=All.uniq nd all all3
   obtain⟨kvs2,a2,ek2,c2⟩:=(lb2.mono s3).at_
   have sA3:=s2.trans s3
   refine⟨_,rfl,_,rfl,D2,D1,kvs2,kvs1,rfl,rfl,.inl a2,.inr ⟨o,sA3 _ _ hA⟩,?_,λp hp=>?_,_,rfl,qZ ?_⟩
   . have e1:=congrArg List.length ek1
     have e2:=congrArg List.length ek2
     rw[List.length_map]at e1 e2
     omega
   . obtain⟨i,hi⟩:=List.getElem?_of_mem hp
     have hk:p.1∈(rs.map (·.1)).map (Sum.inr:Str->qD):=by rw[<-ek2];exact List.mem_map.mpr ⟨p,hp,rfl⟩
     obtain⟨z,hz,ez⟩:=List.mem_map.mp hk
     obtain⟨r,hr1,er⟩:=List.mem_map.mp hz
     obtain⟨t2,u2,v2⟩:=c2 r hr1
     obtain⟨t1,u1,v1⟩:=cA r hr1
     have e3:qQ kvs2 p.1=some p.2:=Xu (by rw[ek2];exact knd) (show kvs2[i]?=some (p.1,p.2) from hi)
     rw[<-ez,<-er,u2]at e3
     refine⟨.ref t1,xk rs R r.1,by rw[<-ez,<-er];exact u1,?_,UL (sA3 _ _ v1),uC ..⟩
     rw[<-Option.some.inj e3]
     exact UL v2
   refine⟨_,rfl,D2,rs,R,rfl,lb2.mono s3,good,le14,λH4 s4=>⟨_,rfl,qZ ?_⟩⟩
   have s34:=s3.trans s4
   have sA4:=sA3.trans s4
   refine⟨_,rfl,_,rfl,l,ps,rs,rfl,ga.mono (sA.trans sA4),λH5 L5 qs5 R5 s5 hL5 hL5' rn5 all5=>?_⟩
   obtain rfl:=All.uniq nd all all5
   have sA5:=sA4.trans s5
   have s35:=s4.trans s5
   have names:∀l∈R.map (·.2),∀z∈l,qV z=true:=λl hl z hz=>by
     obtain⟨r,hr1,rfl⟩:=List.mem_map.mp hl
     obtain⟨r2,hr2,rfl⟩:=List.mem_map.mp (((all.apt YM.nil).sub r hr1).subset hz)
     exact good.nm r2 hr2
   refine⟨.list ((R.map (·.2)).map dL),.lst (.of (s35 _ _ hL3')) (yi (rn3.mono s35)),.lst (.of hL5') (yi rn5),RY names,_,rfl,qZ ?_⟩
   refine⟨_,rfl,D1,o,kvs1,rs.map (·.1),rfl,sA5 _ _ hA,ek1,?_⟩
   refine Wc (λi σ' X=>∃v5 v6:Option V,σ'=[some (.ref l),some (.ref g),some (.ref D1),some (.ref D2),some (.ref L3),v5,v6]/\Same H5 X) ⟨none,none,rfl,λ_ _ h=>h⟩ (λi σ' X _ ⟨_,_,_,sx⟩=>sx _ _ (sA5 _ _ hA)) ?_ ?_
   . rintro i z σ' X ez ⟨v5,v6,rfl,sx⟩
     have hz:z∈rs.map (·.1):=List.mem_of_getElem? ez
     have sX:=sA5.trans sx
     refine⟨_,rfl,_,rfl,g,rs,z,rfl,gr.mono (sA.trans sX),good,le14,hz,λX1 a R' s6 all' iw=>⟨a,_,rfl,iw,λp hp=>?_⟩⟩
     obtain rfl:=All.uniq nd all all'
     have s7:Same X1 (upd X1 p (.tup [.str (zP (wT rs R z)),.int (Vg (wT rs R z):Nat)])):=qj hp
     have hp7:upd X1 p (.tup [.str (zP (wT rs R z)),.int (Vg (wT rs R z):Nat)]) p=some (.tup [.str (zP (wT rs R z)),.int (Vg (wT rs R z):Nat)]):=qd
     generalize upd X1 p (.tup [.str (zP (wT rs R z)),.int (Vg (wT rs R z):Nat)])=X2 at s7 hp7
     have sX2:=s6.trans s7
     obtain⟨t,gt,ht⟩:=(lbR (sX.trans sX2)).get hz
     have rest:∀X3,Same X2 X3->∀d p2,DV K X3 (.ref p) d->DV K X3 p2 d->PySem.SeqAt.shaped d=true->∀(Q':VK),(∀X4,Same X3 X4->Q' (.bl false) X4)->K6 K false (.ref p) p2 X3 Q':=λX3 s8 d p2 d1 d2 sh Q' kk=>⟨d,d1,d2,sh,kk X3 λ_ _ h=>h⟩
     have go:∀X3,Same X2 X3->∀Q':Bool->Hp->Prop,(∀X4,Same X X4->Q' false X4)->Uc (Xv (K6 K false) (zQ (Vo CG) [] E0 (jx (jm 1) (jx (jm 5) Q0))) (zQ XB [] E0 (jx (jm 0) (jx (jm 2) (jx (jm 5) Q0))))) [some (.ref l),some (.ref g),some (.ref D1),some (.ref D2),some (.ref L3),some (.str z),v6] X3 Q':=λX3 s8 Q' kk=>by
       have s9:=sX2.trans s8
       refine⟨_,rfl,_,rfl,g,rs,z,rfl,gr.mono (sA.trans (sX.trans s9)),good,le14,hz,λX4 v R' s10 all' hv=>?_⟩
       obtain rfl:=All.uniq nd all all'
       refine⟨_,rfl,_,rfl,_,rfl,l,D1,ps,rs,R,z,rfl,ga.mono (sA.trans (sX.trans (s9.trans s10))),lbR (sX.trans (s9.trans s10)),La,hz,λX5 v' s11 hv'=>?_⟩
       rcases hv with ⟨n,cz,rfl⟩ | ⟨cz,t1,m,ms,em,rfl,ht1⟩
       . rcases hv' with ⟨n',cz',rfl⟩ | ⟨cz',_⟩
         . exact⟨.none,.non,.non,rfl,_,rfl,kk _ (s9.trans (s10.trans s11))⟩
         . rw[cz]at cz';cases cz'
       . rcases hv' with ⟨n',cz',_⟩ | ⟨_,t2,m',ms',em',rfl,ht2⟩
         . rw[cz]at cz';cases cz'
         . rw[em]at em'
           cases em'
           have hy:m.2∈rs.map (·.1):=by
             have:m∈opens rs R z:=by rw[em];exact List.mem_cons_self ..
             obtain⟨y,hy,rfl⟩:=List.mem_map.mp this
             exact La.cl hz (List.mem_filter.mp hy).1
           obtain⟨r,hr1,er⟩:=List.mem_map.mp hy
           have ok1:PyData.strOk m.2=true:=by rw[<-er];exact zD (good.nm r hr1)
           exact⟨.tuple [.int (m.1:Int),.str m.2],.tup (.of (s11 _ _ ht1)) (.cons (.int _) (.cons (.str _) .nil)),.tup (.of ht2) (.cons (.int _) (.cons (.str _) .nil)),N9 ok1 _,_,rfl,kk _ (s9.trans (s10.trans s11))⟩
     have fin:∀X4,Same X X4->∃v5' v6':Option V,[some (V.ref l),some (.ref g),some (.ref D1),some (.ref D2),some (.ref L3),some (.str z),v6]=[some (.ref l),some (.ref g),some (.ref D1),some (.ref D2),some (.ref L3),v5',v6']/\Same H5 X4:=λX4 s8=>⟨_,_,rfl,sx.trans s8⟩
     cases cz:qB R z with
     | some n=>
       rw[JK cz]at ht
       rw[Ve cz]at hp7
       refine⟨_,rfl,_,rfl,D1,_,rfl,gt,2,rfl,.inl ⟨t,_,rfl,.of ht,(show ¬(HT.sIx 3 0 none=0/\HT.sIx 3 3 (some 2)=3) by decide+kernel),λp2 hp2=>?_⟩⟩
       refine⟨.tuple [.str "number",.int (n:Nat)],.tup (.of (qm hp7 hp2)) (.cons (.str _) (.cons (.int _) .nil)),.tup (.of (show upd X2 p2 _ p2=some (.tup [.str "number",.int (n:Nat)]) from qd)) (.cons (.str _) (.cons (.int _) .nil)),Ma okN _,_,rfl,qZ ?_⟩
       exact go _ (qj hp2) _ λX4 s8=>qZ (fin X4 s8)
     | none=>
       rw[JL cz]at ht
       rw[Vf cz]at hp7
       refine⟨_,rfl,_,rfl,D1,_,rfl,gt,2,rfl,.inr ⟨t,_,rfl,.of ht,(show HT.sIx 2 0 none=0/\HT.sIx 2 2 (some 2)=2 by decide+kernel),?_⟩⟩
       refine⟨.tuple [.str "endless",.int (setN (j8 rs (qB R) z):Nat)],.tup (.of hp7) (.cons (.str _) (.cons (.int _) .nil)),.tup (.of ht) (.cons (.str _) (.cons (.int _) .nil)),Ma okE _,_,rfl,qZ ?_⟩
       exact go _ (λ_ _ h=>h) _ λX4 s8=>qZ (fin X4 s8)
   . rintro σ' X ⟨v5,v6,rfl,sx⟩
     have n2:H D2=none:=qW sA hD2
     have nL:H L3=none:=qW (sA.trans s2) hL3
     have aX:=(s35.trans sx) _ _ a2
     refine⟨_,rfl,.inr (.inr (.inl ⟨rfl,.inl ⟨_,aX⟩⟩)),D2,kvs2,rfl,rfl,aX,?_⟩
     have sZ:Same H (upd X D2 (.dK [])):=Same.upd (sA.trans (sA5.trans sx)) n2
     have neD:∀{p:Addr} {xs:List V},X p=some (.lst xs)->upd X D2 (.dK []) p=some (.lst xs):=λ{p xs} hp=>by rw[qg (λe=>by rw[e,aX]at hp;cases hp)];exact hp
     have hLZ:=neD ((s35.trans sx) _ _ hL3')
     have rnZ:∀p∈qs,H p=none/\p≠L3/\∃ys:List V,upd X D2 (.dK []) p=some (.lst ys)/\ys.length<=14:=λp hp=>by
       obtain⟨i,hi⟩:=List.getElem?_of_mem hp
       have hi':=(List.getElem?_eq_some_iff.mp hi).1
       have lq:=rn3.1
       obtain⟨ns,e2⟩:∃ns,(R.map (·.2))[i]?=some ns:=⟨_,List.getElem?_eq_getElem (by omega)⟩
       have h3:=rn3.2 i p _ hi e2
       refine⟨qW (sA.trans s2) (fz3 p hp),λe=>?_,_,neD ((s35.trans sx) _ _ h3),?_⟩
       . rw[e,hL3']at h3
         have h4:=HO.lst.inj (Option.some.inj h3)
         cases hq:qs with
         | nil=>rw[hq]at hp;cases hp
         | cons q0 qr=>
           rw[hq,List.map_cons]at h4
           cases hx:ns with
           | nil=>rw[hx]at h4;cases h4
           | cons y ys=>rw[hx,List.map_cons]at h4;cases (List.cons.inj h4).1
       . obtain⟨r,hr1,er⟩:=List.mem_map.mp (List.mem_of_getElem? e2)
         have:=((all.apt YM.nil).sub r hr1).length_le
         rw[List.length_map]at this
         rw[List.length_map,<-er]
         omega
     have lQ:qs.length<=14:=by
       have apt:=all.apt YM.nil
       have:=Ql (List.nodup_range (n:=R.length)) (m:=(rs.map (·.1)).map (jD R)) λk hk=>by
         obtain⟨z,hz,_,e⟩:=apt.each (List.mem_range.mp hk)
         exact List.mem_map.mpr ⟨z,hz,e⟩
       rw[List.length_range,List.length_map,List.length_map]at this
       have lq:=rn3.1
       rw[List.length_map]at lq
       omega
     generalize upd X D2 (.dK [])=X0 at sZ hLZ rnZ
     refine⟨_,rfl,L3,rfl,⟨_,.of hLZ⟩,?_⟩
     refine jo (K:=K) (a:=L3) (xs:=qs.map V.ref) (λi σ' Y=>∃v6:Option V,σ'=[some (.ref l),some (.ref g),some (.ref D1),some (.ref D2),some (.ref L3),v5,v6]/\Same H Y/\Y L3=some (.lst (qs.map V.ref))/\∀p∈qs,∃ys:List V,Y p=some (.lst ys)/\ys.length<=14+i)
       ⟨v6,rfl,sZ,hLZ,λp hp=>(rnZ p hp).2.2⟩ (λi σ' Y _ ⟨_,_,_,hY,_⟩=>.of hY) ?_ ?_
     . rintro i y σ' Y hy ⟨v6',rfl,sY,hY,hp⟩
       rw[List.getElem?_map]at hy
       cases ex:qs[i]? with
       | none=>rw[ex]at hy;cases hy
       | some p=>
         rw[ex]at hy
         obtain rfl:=(Option.some.inj hy).symm
         have hi:=(List.getElem?_eq_some_iff.mp ex).1
         have mp:p∈qs:=List.mem_of_getElem? ex
         obtain⟨np,npL,_⟩:=rnZ p mp
         obtain⟨ys,e1,e2⟩:=hp p mp
         refine⟨_,rfl,.inl ⟨rfl,_,.of e1⟩,p,ys,_,rfl,rfl,e1,qo (by omega),_,rfl,Same.upd sY np,by rw[qg (Ne.symm npL)];exact hY,λp' hp'=>?_⟩
         by_cases c:p'=p
         . subst c
           exact⟨_,qd,by rw[List.length_append];show ys.length+1<=_;omega⟩
         . obtain⟨ys',e3,e4⟩:=hp p' hp'
           exact⟨ys',by rw[qg c];exact e3,by omega⟩
     . rintro σ' Y ⟨v6',rfl,sY,hY,hp⟩
       exact⟨_,rfl,.inl ⟨rfl,_,.of hY⟩,L3,_,rfl,rfl,hY,q _ (Same.upd sY nL)⟩
end
end Rh
set_option Elab.async false
set_option linter.all false
set_option maxRecDepth 100000
set_option maxHeartbeats 4000000
namespace Rh
open PySem L2 PyProof.Rows MLab
theorem XV {α β γ:Type} {f:α->β->γ}:∀{xs:List α} {ys:List β} {c:γ},c∈List.zipWith f xs ys->∃a∈xs,∃b∈ys,c=f a b
 | [],ys,c,h=>by simp at h
 | x::xs,[],c,h=>by simp at h
 | x::xs,y::ys,c,h=>by
   rw[List.zipWith_cons_cons]at h
   rcases List.mem_cons.mp h with rfl | h
   . exact⟨x,List.mem_cons_self ..,y,List.mem_cons_self ..,rfl⟩
   . obtain⟨a,ha,b,hb,e⟩:=XV h
     exact⟨a,List.mem_cons_of_mem _ ha,b,List.mem_cons_of_mem _ hb,e⟩
theorem kH {α β γ δ:Type} {f:α->β->γ} {g:γ->δ} {k:α->δ} (h:∀a b,g (f a b)=k a):∀{xs:List α} {ys:List β},xs.length=ys.length->(List.zipWith f xs ys).map g=xs.map k
 | [],[],_=>rfl
 | [],_::_,e=>nomatch e
 | _::_,[],e=>nomatch e
 | x::xs,y::ys,e=>by rw[List.zipWith_cons_cons,List.map_cons,List.map_cons,h,kH h (Nat.succ.inj e)]
theorem kG {α β γ δ:Type} {f:α->β->γ} {g:γ->δ} {k:β->δ} (h:∀a b,g (f a b)=k b):∀{xs:List α} {ys:List β},xs.length=ys.length->(List.zipWith f xs ys).map g=ys.map k
 | [],[],_=>rfl
 | [],_::_,e=>nomatch e
 | _::_,[],e=>nomatch e
 | x::xs,y::ys,e=>by rw[List.zipWith_cons_cons,List.map_cons,List.map_cons,h,kG h (Nat.succ.inj e)]
def x6 (rs:ja):ja:=rs.drop (rs.length - 1)++rs.take (rs.length - 1)
theorem Uz (rs:ja):(x6 rs).length=rs.length:=by
 unfold x6
 rw[List.length_append,List.length_drop,List.length_take]
 omega
theorem Uy {rs:ja} {r:Str×List Str} (h:r∈x6 rs):r∈rs:=by
 rcases List.mem_append.mp h with h | h
 . exact List.mem_of_mem_drop h
 . exact List.mem_of_mem_take h
def ZV (rs:ja):ja:=List.zipWith (λa b=>(a.1,b.2)) rs (x6 rs)
theorem ZU (rs:ja):(ZV rs).map (·.1)=rs.map (·.1):=by
 unfold ZV
 exact kH (f:=λ(a b:Str×List Str)=>(a.1,b.2)) (g:=λr:Str×List Str=>r.1) (k:=λr:Str×List Str=>r.1) (λ_ _=>rfl) (Uz rs).symm
theorem UD (rs:ja):(ZV rs).length=rs.length:=by
 have:=congrArg List.length (ZU rs)
 rwa [List.length_map,List.length_map]at this
theorem yF {rs:ja} (g:qy rs):qy (ZV rs):=by
 refine⟨λr hr=>?_,by rw[ZU];exact g.nd,λr hr z hz=>?_,λr hr=>?_,?_⟩
 . obtain⟨a,ha,b,hb,rfl⟩:=XV hr
   exact g.nm a ha
 . obtain⟨a,ha,b,hb,rfl⟩:=XV hr
   rw[ZU]
   exact g.to b (Uy hb) z hz
 . obtain⟨a,ha,b,hb,rfl⟩:=XV hr
   exact g.rd b (Uy hb)
 . have e:(ZV rs).map (λr=>r.2.length)=(x6 rs).map λr=>r.2.length:=by
     unfold ZV
     exact kG (f:=λ(a b:Str×List Str)=>(a.1,b.2)) (g:=λr:Str×List Str=>r.2.length) (k:=λr:Str×List Str=>r.2.length) (λ_ _=>rfl) (Uz rs).symm
   rw[e]
   have e2:((x6 rs).map λr=>r.2.length).sum=(rs.map λr=>r.2.length).sum:=by
     unfold x6
     rw[List.map_append,List.sum_append,Nat.add_comm,<-List.sum_append,<-List.map_append,List.take_append_drop]
   rw[e2]
   exact g.few
theorem Ga {rs:ja} {i:Nat} {r:Str×List Str} (e:rs[i]?=some r):∃(j:Nat) (b:Str×List Str),rs[j]?=some b/\((i=0/\j=rs.length - 1)\/(0 < i/\j=i - 1))/\(ZV rs)[i]?=some (r.1,b.2):=by
 have hi:=(List.getElem?_eq_some_iff.mp e).1
 have key:∀b,(x6 rs)[i]?=some b->(ZV rs)[i]?=some (r.1,b.2):=λb hb=>by
   unfold ZV
   rw[List.getElem?_zipWith,e,hb]
 rcases Nat.eq_zero_or_pos i with c | c
 . obtain⟨b,h1⟩:∃b,rs[rs.length - 1]?=some b:=⟨_,List.getElem?_eq_getElem (by omega)⟩
   refine⟨rs.length - 1,_,h1,.inl ⟨c,rfl⟩,key _ ?_⟩
   unfold x6
   rw[List.getElem?_append_left (by rw[List.length_drop];omega),List.getElem?_drop,c]
   exact h1
 . obtain⟨b,h1⟩:∃b,rs[i - 1]?=some b:=⟨_,List.getElem?_eq_getElem (by omega)⟩
   refine⟨i - 1,_,h1,.inr ⟨c,rfl⟩,key _ ?_⟩
   unfold x6
   rw[List.getElem?_append_right (by rw[List.length_drop];omega),List.length_drop,List.getElem?_take,if_pos (by omega)]
   have:i - (rs.length - (rs.length - 1))=i - 1:=by omega
   rw[this]
   exact h1
theorem Z9.one {K:PySem.W.Frag} {H:Hp} {N:List Str} {v:V} (h:Z9 K H N v):(∃c,v=.ref c)\/∃d,DV K H v d/\PySem.SeqAt.shaped (.list [d])=true:=by
 rcases h with ⟨d,a,b,c,_⟩ | ⟨a,kvs,e,_⟩
 . refine .inr ⟨d,a,?_⟩
   unfold PySem.SeqAt.shaped
   rw[Bool.and_eq_true]
   refine⟨?_,decide_eq_true ?_⟩
   . simp only[PyData.canLay0,PyData.canLayAll0,b]
     rfl
   . simp only[PyData.depth,PyData.depthAll]
     omega
 . exact .inl ⟨a,e⟩
theorem Yo {K:PySem.W.Frag} {H:Hp} {N:List Str} {w:Str} (ok:PyData.strOk w=true) (nw:qV w=false) (hN:∀z∈N,qV z=true):Z9 K H N (.str w):=by
 refine .inl ⟨.str w,.str w,ok,Nat.zero_le _,λz hz=>?_⟩
 show (z==w)=false
 rw[beq_eq_false_iff_ne]
 intro e
 have:=hN z hz
 rw[e,nw]at this
 cases this
theorem y7 {K:PySem.W.Frag} {H:Hp} {N:List Str} {z:Str} {t:Addr} (h:H t=some (.tup [.str z])) (hz:qV z=true):Z9 K H N (.ref t):=by
 refine .inl ⟨.tuple [.str z],.tup (.of h) (.cons (.str z) .nil),?_,?_,λy _=>rfl⟩
 . simp only[PyData.canLay0,PyData.canLayAll0,zD hz]
   rfl
 . simp only[PyData.depth,PyData.depthAll]
   decide
theorem y8 {K:PySem.W.Frag} {H:Hp} {N:List Str} {z:Str} {t:Addr} (h:H t=some (.lst [.str z])) (hz:qV z=true):Z9 K H N (.ref t):=by
 refine .inl ⟨.list [.str z],.lst (.of h) (.cons (.str z) .nil),?_,?_,λy _=>rfl⟩
 . simp only[PyData.canLay0,PyData.canLayAll0,zD hz]
   rfl
 . simp only[PyData.depth,PyData.depthAll]
   decide
theorem VH:(Str.ofString "9").cps.toList=[57]:=by decide+kernel
theorem vO {K:PySem.W.Frag} {H:Hp} {N:List Str} {z:Str} (h:qV z=true) (hN:∀z∈N,qV z=true):Z9 K H N (.str (z++Str.ofString "9")):=by
 obtain⟨hc,h8,h1⟩:=Zi h
 have e:(z++Str.ofString "9").cps.toList=z.cps.toList++[57]:=by
   rw[<-VH,PySem.Str.cps_append,Array.toList_append]
 refine Yo ?_ ?_ hN
 . unfold PyData.strOk
   rw[Array.all_eq_true_iff_forall_mem]
   intro c hc'
   have hc2:c∈(z++Str.ofString "9").cps.toList:=by simpa using hc'
   rw[e]at hc2
   rcases List.mem_append.mp hc2 with q | q
   . have:=hc c q
     exact decide_eq_true (by omega)
   . have:c=57:=by simpa using q
     subst this
     decide
 . unfold qV
   have:(z++Str.ofString "9").cps.toList.all jr=false:=by
     rw[e,List.all_append]
     have:([57].all jr)=false:=by decide
     rw[this,Bool.and_false]
   rw[this,Bool.and_false]
end Rh
set_option Elab.async false
set_option linter.all false
set_option maxRecDepth 100000
set_option maxHeartbeats 4000000
namespace Rh
open PySem L2 PyProof.Rows MLab
def Um (K:PySem.W.Frag):Sp:=λvs H Q _=>∃(a:Addr) (ns:List Int),vs=[.ref a]/\SqL K H a (ns.map V.int)/\ns.length<=63/\∀H',Q (.bl true) H'
theorem Nq {r:Int} (h0:0<=r) (h1:r < 4):∃mo:Nat,Vc [V.int 5,.int 7,.int 9,.int 14] r=some (.int (mo:Int))/\0 < mo/\mo<=14:=by
 have:r=0\/r=1\/r=2\/r=3:=by omega
 rcases this with rfl | rfl | rfl | rfl
 . exact⟨5,rfl,by decide,by decide⟩
 . exact⟨7,rfl,by decide,by decide⟩
 . exact⟨9,rfl,by decide,by decide⟩
 . exact⟨14,rfl,by decide,by decide⟩
structure NI (K:PySem.W.Frag) (mg:Str->Option Value):Prop where
 cell:∃f fd,je K mg "_law_cell_at" Uw ["_law_script","_law_k"] f fd
 source:∃f fd,je K mg "_law_source" zy ["_law_cell"] f fd
 take:∃f fd,je K mg "_law_take" zX ["_law_source_here","_law_many"] f fd
 names:∃f fd,je K mg "_law_names" zZ ["_law_source_here","_law_many"] f fd
 leads:∃f fd,je K mg "_law_leads" z7 Yi f fd
 rows:∃f fd,je K mg "_law_rows" Us ["_law_source_here","_law_most"] f fd
 need:∃f fd,je K mg "need_rows" WC ["rows"] f fd
 right:∃f fd,je K mg "_law_right" zA w5 f fd
 refd:∃f fd,je K mg "_law_refused" JZ NR f fd
theorem wA {n s t:Int} {k:qD} {v:V} (h:qQ (src n s t) k=some v):∃i,v=.int i:=by
 obtain⟨p,hp,e⟩:=Option.map_eq_some_iff.mp h
 have:=List.mem_of_find?_eq_some hp
 unfold src at this
 simp only[List.mem_cons,List.mem_nil_iff,or_false]at this
 rcases this with rfl | rfl | rfl<;>exact⟨_,e.symm⟩
mutual
theorem KF {K:PySem.W.Frag} {H H':Hp} {d:Addr} {kvs:List (qD×V)}:∀{x:V} {dd:PyData},DV K H x dd->H d=some (.dK kvs)->(∀b u,H b=some u->b≠d->H' b=some u)->DV K H' x dd
 | _,_,.non,_,_=>.non
 | _,_,.bl b,_,_=>.bl b
 | _,_,.int i,_,_=>.int i
 | _,_,.str x,_,_=>.str x
 | _,_,.lst h hs,hd,k=>.lst (h.elim (λh=>h.elim (λh=>.inl (.inl (k _ _ h λz=>by rw[z,hd]at h;cases h))) (λ⟨o,h⟩=>.inl (.inr ⟨o,k _ _ h λz=>by rw[z,hd]at h;cases h⟩))) .inr) (dvs_fr hs hd k)
 | _,_,.tup h hs,hd,k=>.tup (h.elim (λh=>h.elim (λh=>.inl (.inl (k _ _ h λz=>by rw[z,hd]at h;cases h))) (λ⟨o,h⟩=>.inl (.inr ⟨o,k _ _ h λz=>by rw[z,hd]at h;cases h⟩))) .inr) (dvs_fr hs hd k)
theorem dvs_fr {K:PySem.W.Frag} {H H':Hp} {d:Addr} {kvs:List (qD×V)}:∀{x:List V} {dd:List PyData},DVs K H x dd->H d=some (.dK kvs)->(∀b u,H b=some u->b≠d->H' b=some u)->DVs K H' x dd
 | _,_,.nil,_,_=>.nil
 | _,_,.cons h hs,hd,k=>.cons (KF h hd k) (dvs_fr hs hd k)
end
theorem Xa {H2:Hp} {l:Addr} {ps:List Addr} {rs:ja} {CG:Addr} {R:Hp->Prop} (hl2:H2 l=some (.lst (ps.map V.ref))) (rat:jw H2 ps rs) (good:qy rs) (pos:0 < rs.length) (le14:rs.length<=14)
   {l2:Addr} (hl2':H2 l2=none) {x dx:Addr} (hx:upd H2 l2 (.lst (ps.map V.ref)) x=none) (hdx:upd H2 l2 (.lst (ps.map V.ref)) dx=none) (ndx:dx≠x) {E:XK} (k:∀H4,Same H2 H4->jZ CG H4 x rs->R H4):
   XE CG [.ref x,.ref l2] (upd (upd (upd H2 l2 (.lst (ps.map V.ref))) dx (.own x)) x (.ins CG dx [])) (λv H'=>v=.non/\R H') E:=by
 have hx2:H2 x=none:=by
   by_cases e:x=l2
   . rw[e,qd]at hx;cases hx
   . rw[qg e]at hx;exact hx
 have hdx2:H2 dx=none:=by
   by_cases e:dx=l2
   . rw[e,qd]at hdx;cases hdx
   . rw[qg e]at hdx;exact hdx
 have s3:Same H2 (upd (upd (upd H2 l2 (.lst (ps.map V.ref))) dx (.own x)) x (.ins CG dx [])):=λb u hb=>by
   rw[qg (ql hb hx2),qg (ql hb hdx2),qg (ql hb hl2')]
   exact hb
 have hl3:upd (upd (upd H2 l2 (.lst (ps.map V.ref))) dx (.own x)) x (.ins CG dx []) l2=some (.lst (ps.map V.ref)):=by
   have n1:l2≠x:=λe=>by rw[<-e,qd]at hx;cases hx
   have n2:l2≠dx:=λe=>by rw[<-e,qd]at hdx;cases hdx
   rw[qg n1,qg n2]
   exact qd
 refine⟨x,dx,l2,ps,rs,rfl,⟨hl3,rat.mono s3,good,pos,le14⟩,qd,λH4 gr fr4=>⟨rfl,k H4 (λb u hb=>fr4 b u (s3 _ _ hb) (ql hb hx2)) gr⟩⟩
section
variable {P:Program} {w:World} {K:PySem.W.Frag} {mg:Str->Option Value} {base:Heap}
abbrev Mt:List Str:=["_law_script","_law_k","_law_source_here","_law_rows_here","_law_ground","_law_other","_law_some","_law_thing","_law_way"]
theorem Zx:qv Mt ["_law_script"] (qk XL):=⟨rfl,rfl,rfl,by decide+kernel,rfl,by decide+kernel,by decide+kernel⟩
theorem Gf {f CG D CP fP:Addr} {fd fdP:FuncData} (F:jQ K "law" "law" XL f fd) (h:WF K mg) (B:Jc mg) (Zk:Wk K mg) (G:Qk mg) (T:QL K mg) (ZD:Kc K mg) (N:Kd K mg) (M:GM K mg CG) (Y:V5 K mg) (L:Rt K mg) (Z:NI K mg)
   (xP:wj K mg D "NoPlace" "NoPlace.__init__" j5 "found" CP fP fdP) (ZE:Rp K mg D CP):qp P w K mg base qM 11 f fd ["_law_script"] (Um K):=by
 obtain⟨fO,fdO,hO⟩:=Z.cell
 obtain⟨fL,fdL,hL⟩:=Z.source
 obtain⟨fT,fdT,hT⟩:=Z.take
 obtain⟨fN,fdN,hN⟩:=Z.names
 obtain⟨fD,fdD,hD⟩:=Z.leads
 obtain⟨fR,fdR,hR⟩:=Z.rows
 obtain⟨fW,fdW,hW⟩:=Z.need
 obtain⟨f1,fd1,h1⟩:=Z.right
 obtain⟨f2,fd2,h2⟩:=Z.refd
 obtain⟨f3,fd3,h3⟩:=L.place
 obtain⟨f4,fd4,h4⟩:=L.wof
 obtain⟨f5,fd5,h5⟩:=L.opn
 obtain⟨fI,fdI,C⟩:=M.cls
 have GO:qp P w K mg base qM 1 fO fdO ["_law_script","_law_k"] (k4 K):=uq hO.fn B
 have GL:qp P w K mg base qM 1 fL fdL ["_law_cell"] Wx:=vH hL.fn B
 have GT:qp P w K mg base qM 1 fT fdT ["_law_source_here","_law_many"] zS:=zC hT.fn
 have GR:qp P w K mg base qM 3 fR fdR ["_law_source_here","_law_most"] kS:=uh hR.fn B G hT hN hD
 have GI:qp P w K mg base qM 6 fI fdI ["self","rows"] (XE CG):=yZ C B G T N hW
 have G1:qp P w K mg base qM 10 f1 fd1 w5 (Wz CG):=vJ h1.fn h B Zk G T ZD M Y L
 have G2:qp P w K mg base qM 5 f2 fd2 NR (kU K CG):=WN h2.fn G T M h3 h4 h5 xP ZE
 refine F.okJ Zx (λvs H Q E z=>?_) (λcdv A outer s H vs Q E hr z=>?_)
 . obtain⟨a,ns,rfl,_⟩:=z
   rfl
 . obtain⟨a,ns,rfl,hq,hlen,k⟩:=z
   have hu:=jA hr
   have r1:q5 1 _:=hr.mono (by decide)
   have r3:q5 3 _:=hr.mono (by decide)
   have r5:q5 5 _:=hr.mono (by decide)
   have r7:q5 7 _:=hr.mono (by decide)
   refine⟨_,qe (qT PassesOwn.never rfl (ju (by rfl) B.rng (qb (qE (Xi rfl) (by rfl) B.max boot_max (qb qi (qb (qE (kD rfl) (by rfl) B.min boot_min (qb (qE jp (by rfl) B.len boot_len (qb (jv 0) qf)) (qb qi qf))) qf))) qf))
       (qt (i:=1) Zx.nd rfl (Or.inl rfl))
       (qe (qw (i:=2) Zx.nd rfl (Or.inl rfl) (qJ hL GL r1 (by rfl) (qb (qJ hO GO r1 (by rfl) (qb (jv 0) (qb (jv 1) qf))) qf)))
       (qe (qw (i:=3) Zx.nd rfl (Or.inr rfl) (qJ hR GR r3 (by rfl) (qb (jv 2) (qb (qN jU (jE (qb qi (qb qi (qb qi (qb qi qf))))) (qJ hT GT r1 (by rfl) (qb (jv 2) (qb qi qf))) (λ_ _=>rfl)) qf))))
       (qe (qw (i:=4) Zx.nd rfl (Or.inl rfl) (zG C.mkr GI r7 (by rfl) C.ns C.bi .nil Zb (qb (jC QA (by rfl) G.lst boot_list (qb (jv 3) qf)) qf)))
       (qe (QH (i:=5) (N':=["_law_at","_law_row","_law_rows_here"]) (ix:=[none,none,some 3]) (g:=G0 K 2 (WV (Qw 0) (WV (Qw 1) G8))) (te:=wp (jx (Xv (XR K) (jm 1) (tC (.int 0))) (jx (Xv (XR K) (Xv (K5 K) (jm 2) (Xv (yx λi j=>.int (i - j)) (jm 0) (tC (.int 1)))) (tC (.int 1))) Q0))) Zx.nd rfl (Or.inl rfl) rfl ⟨rfl,rfl,rfl,rfl,rfl⟩ (X5 (by rfl) T.enu (qb (jv 3) qf)) (λC s2 H2 fp pins=>
         ⟨Zl rfl (jn (qt (i:=0) (show (["_law_at","_law_row","_law_rows_here"]:List Str).Nodup by decide+kernel) rfl (Or.inl rfl)) (jn (qt (i:=1) (show (["_law_at","_law_row","_law_rows_here"]:List Str).Nodup by decide+kernel) rfl (Or.inl rfl)) Jl)),Qa,
           jN (qb (qN qU (jv 1) qi (λ_ _=>rfl)) (qb (qN qU (qN jU (jv 2) (qI yH (jv 0) qi) (λ_ _=>rfl)) qi (λ_ _=>rfl)) qf))⟩))
       (qe (qL (JW.pt (QG (Qi (jt (qJ h1 G1 hr (by rfl) (qb (jv 3) (qb (jv 4) qf))))) (QG (Qi (jt (qJ h1 G1 hr (by rfl) (qb (jv 5) (qb (zG C.mkr GI r7 (by rfl) C.ns C.bi .nil Zb (qb (jC QA (by rfl) G.lst boot_list (qb (jv 5) qf)) qf)) qf))))) (Qh (Qi (jt (qJ h1 G1 hr (by rfl) (qb (jv 3) (qb (jv 4) qf))))))))) (qh (qA jz)) qC)
       (qe (qw (i:=6) Zx.nd rfl (Or.inl rfl) (jE (qb X7 (qb qi (qb qS (qb qS (qb (jN (qb (qN qU (qN jU (jv 3) qi (λ_ _=>rfl)) qi (λ_ _=>rfl)) qf)) (qb (jE (qb (qN qU (qN jU (jv 3) qi (λ_ _=>rfl)) qi (λ_ _=>rfl)) qf)) (qb (qI Zh (qN qU (qN jU (jv 3) qi (λ_ _=>rfl)) qi (λ_ _=>rfl)) qS) (qb jz (qb jO qf)))))))))))
       (qe (qw (i:=7) Zx.nd rfl (Or.inl rfl) (qN jU (jv 6) (qJ hT GT r1 (by rfl) (qb (jv 2) (qb qi qf))) (λ_ _=>rfl)))
       (qh (qT PassesOwn.never rfl (ju (by rfl) B.rng (qb qi qf)) (qt (i:=8) Zx.nd rfl (Or.inl rfl))
         (qh (qL (qu (yK hr.units) (qJ h2 G2 r5 (by rfl) (qb (jv 8) (qb (jv 4) (qb (jv 7) qf)))) (jE (qb (jv 7) qf)) (qz _)) (qh (qA jz)) qC))))))))))))
     (qh (qA jz)),?_⟩
   refine⟨_,rfl,a,_,rfl,.inl hq,_,_,rfl,_,_,rfl,?_⟩
   generalize hj:(if (if (3:Int) < ((ns.map V.int).length:Int) then (3:Int) else ((ns.map V.int).length:Int)) > 2 then (if (3:Int) < ((ns.map V.int).length:Int) then (3:Int) else ((ns.map V.int).length:Int)) else 2)=jj
   have jb:-(2^62)<=jj/\jj < 2^62:=by
     rw[<-hj]
     split<;>split<;>omega
   refine⟨jj,rfl,jb.1,jb.2,?_⟩
   refine QD (λi σ H'=>∃v1 v2 v3 v4 v5 v6 v7 v8,σ=[some (.ref a),v1,v2,v3,v4,v5,v6,v7,v8]/\SqL K H' a (ns.map V.int)) ⟨_,_,_,_,_,_,_,_,rfl,hq⟩ ?_ ?_
   . rintro i σ H' hi ⟨v1,v2,v3,v4,v5,v6,v7,v8,rfl,hq2⟩
     refine⟨_,rfl,_,rfl,a,ns,_,rfl,hq2,by omega,λc=>⟨c,rfl,λd n sd hd=>?_⟩⟩
     refine⟨_,rfl,by show 4<=sizeLine;decide,λlp hlp=>?_⟩
     have ndp:lp≠d:=λe=>by rw[e,qd]at hlp;cases hlp
     refine⟨_,rfl,d,4,n,sd,0,rfl,qm qd hlp,by decide,by decide,λr n1 t1 r0 r1'=>?_⟩
     obtain⟨mo,em,m0,m14⟩:=Nq r0 r1'
     refine⟨lp,_,r,_,rfl,rfl,.of (by rw[qg ndp];exact qd),em,d,mo,n1,sd,t1,rfl,qd,m0,m14,λl ps rs n2 t2 H2 hl hl2 rat good pos le hd2 fr2=>?_⟩
     have hlp':H' lp=none:=by rw[qg ndp]at hlp;exact hlp
     have sm:Same H' H2:=λb u hb=>by
       have nb:b≠d:=ql hb hd
       refine fr2 b u ?_ nb
       rw[qg nb,qg (ql hb hlp'),qg nb]
       exact hb
     have le14:rs.length<=14:=Nat.le_trans le m14
     have g2:jg H2 l ps rs:=⟨hl2,rat,good,pos,le14⟩
     refine⟨_,rfl,l,_,rfl,.inl (.of hl2),λl2 hl2' x dx hx hdx ndx=>?_⟩
     refine Xa hl2 rat good pos le14 hl2' hx hdx ndx λH4 s4 gr=>?_
     have g4:jg H4 l ps rs:=g2.mono s4
     refine⟨_,rfl,l,rfl,⟨_,.of g4.at_⟩,λW hW=>?_⟩
     refine xV (K:=K) (a:=l) (xs:=ps.map V.ref) (λj σ' G=>∃(v0 v1:Option V) (ts:List Addr),σ'=[v0,v1,some (.ref l)]/\Same H4 G/\G W=some (.lst (ts.map V.ref))/\jw G ts ((ZV rs).take j))
       ⟨none,none,[],rfl,qj hW,qd,⟨rfl,λi p r e=>(nomatch e)⟩⟩ (λj σ' G _ ⟨_,_,_,_,sx,_⟩=>.of (sx _ _ g4.at_)) ?_ ?_
     . rintro j y σ' G pe hy hpe ⟨v0,v1',ts,rfl,sx,hWG,rts⟩
       obtain⟨p1,q1,rj,rfl,er,hrj,ha1,hb1⟩:=(g4.mono sx).rows.item hy
       have hj:=(List.getElem?_eq_some_iff.mp er).1
       obtain⟨j2,b,eb,hj2,eo⟩:=Ga er
       have lps:=g4.rows.1
       have hj2':=(List.getElem?_eq_some_iff.mp eb).1
       obtain⟨p2,ep2⟩:∃p2,ps[j2]?=some p2:=⟨_,List.getElem?_eq_getElem (by omega)⟩
       obtain⟨q2,ha2,hb2⟩:=(g4.mono sx).rows.2 j2 p2 b ep2 eb
       have se:Same G (upd G pe (.tup [.int (j:Nat),.ref p1])):=qj hpe
       have he:upd G pe (.tup [.int (j:Nat),.ref p1]) pe=some (.tup [.int (j:Nat),.ref p1]):=qd
       generalize upd G pe (.tup [.int (j:Nat),.ref p1])=G1 at se he
       have at2:Vc (ps.map V.ref) ((j:Int) - 1)=some (.ref p2):=by
         rcases hj2 with ⟨c0,c1⟩ | ⟨c0,c1⟩
         . have hl0:0 < ps.length:=by omega
           have e1:ps.map V.ref=(ps.take (ps.length - 1)).map V.ref++[V.ref p2]:=by
             have e2:ps=ps.take (ps.length - 1)++[p2]:=by
               have h1:=(List.take_append_drop (ps.length - 1) ps).symm
               have h2:ps.drop (ps.length - 1)=[p2]:=by
                 refine List.ext_getElem? λm=>?_
                 rw[List.getElem?_drop]
                 cases m with
                 | zero=>
                   have:ps.length - 1+0=j2:=by omega
                   rw[this,ep2]
                   rfl
                 | succ m=>
                   rw[List.getElem?_eq_none (by omega)]
                   rfl
               rw[h2]at h1
               exact h1
             exact(congrArg (List.map V.ref) e2).trans (List.map_append ..)
           have e3:(j:Int) - 1=-1:=by omega
           rw[e3,e1]
           exact xW _ _
         . have e3:(j:Int) - 1=((j2:Nat):Int):=by omega
           rw[e3]
           exact QS (by rw[List.getElem?_map,ep2];rfl)
       refine⟨pe,_,rfl,.of he,rfl,_,_,rfl,_,_,rfl,rfl,?_⟩
       refine⟨_,rfl,p1,_,0,_,rfl,rfl,.of (se _ _ ha1),rfl,_,rfl,_,rfl,_,_,rfl,rfl,l,_,_,_,rfl,rfl,.of ((sx.trans se) _ _ g4.at_),at2,p2,_,1,_,rfl,rfl,.of (se _ _ ha2),rfl,by show 2<=sizeLine;decide,λt ht=>?_⟩
       have nt:t≠W:=λz=>by rw[z,se _ _ hWG]at ht;cases ht
       have lts:=rts.1
       rw[List.length_take]at lts
       refine⟨_,qm (se _ _ hWG) ht,by rw[List.length_map];exact qo (by omega),_,_,ts++[t],rfl,Same.upd (sx.trans (se.trans (qj ht))) hW,by rw[List.map_append];exact qd,?_⟩
       rw[List.take_add_one,eo]
       refine jw.snoc (q:=q2) ⟨rts.1,λm p r e1 e2=>?_⟩ ?_ ?_
       . obtain⟨q,a1,a2⟩:=rts.2 m p r e1 e2
         have keep:∀{b:Addr} {xs:List V},G b=some (.tup xs)->upd (upd G1 t (.tup [.str rj.1,.ref q2])) W (.lst (ts.map V.ref++[V.ref t])) b=some (.tup xs):=λ{b xs} hb=>by
           rw[qg (λz=>by rw[z,hWG]at hb;cases hb)]
           exact qm (se _ _ hb) ht
         exact⟨q,keep a1,keep a2⟩
       . rw[qg nt]
         exact qd
       . rw[qg (λz=>by rw[z,hWG]at hb2;cases hb2)]
         exact qm (se _ _ hb2) ht
     rintro σ' H5 ⟨v0,v1',ts,rfl,s5,hW5,rts⟩
     rw[List.length_map,g4.rows.1,<-UD rs,List.take_of_length_le (Nat.le_refl _)]at rts
     have lo:(ZV rs).length=rs.length:=UD rs
     have go5:jg H5 W ts (ZV rs):=⟨hW5,rts,yF good,by omega,by omega⟩
     refine⟨_,rfl,_,rfl,l,x,ps,rs,rfl,g4.mono s5,gr.mono s5,λH6 s6=>⟨_,rfl,qZ ?_⟩⟩
     have go6:=go5.mono s6
     refine⟨_,rfl,_,rfl,W,_,rfl,.inl (.of go6.at_),λl3 hl3 x3 dx3 hx3 hdx3 ndx3=>?_⟩
     refine Xa go6.at_ go6.rows go6.good go6.pos go6.le hl3 hx3 hdx3 ndx3 λH7 s7 gr7=>?_
     refine⟨W,x3,ts,ZV rs,rfl,go6.mono s7,gr7,λH8 s8=>⟨_,rfl,qZ ?_⟩⟩
     have s48:Same H4 H8:=s5.trans (s6.trans (s7.trans s8))
     refine⟨_,rfl,_,rfl,l,x,ps,rs,rfl,g4.mono s48,gr.mono s48,λH9 s9=>⟨_,rfl,qZ ?_⟩⟩
     have s49:Same H4 H9:=s48.trans s9
     have g9:=g4.mono s49
     have gr9:=gr.mono s49
     have s29:Same H2 H9:=s4.trans s49
     have hd9:=s29 _ _ hd2
     have hq9:SqL K H9 a (ns.map V.int):=s29.seq (sm.seq hq2)
     obtain⟨p0,ep0⟩:∃p0,ps[0]?=some p0:=⟨_,List.getElem?_eq_getElem (by have:=g9.rows.1;omega)⟩
     obtain⟨r0',er0⟩:∃r0',rs[0]?=some r0':=⟨_,List.getElem?_eq_getElem (by omega)⟩
     obtain⟨q0,ha0,hb0⟩:=g9.rows.2 0 p0 r0' ep0 er0
     have nz0:qV r0'.1=true:=good.nm r0' (List.mem_of_getElem? er0)
     have nmz:∀z∈rs.map (·.1),qV z=true:=λz hz=>by
       obtain⟨r',hr',rfl⟩:=List.mem_map.mp hz
       exact good.nm r' hr'
     have at0:Vc (ps.map V.ref) 0=some (.ref p0):=QS (j:=0) (by rw[List.getElem?_map,ep0];rfl)
     refine⟨_,rfl,l,_,0,_,rfl,rfl,.of g9.at_,at0,p0,_,0,_,rfl,rfl,.of ha0,rfl,by show 1<=sizeLine;decide,λtu htu=>?_⟩
     have sU:Same H9 (upd H9 tu (.tup [.str r0'.1])):=qj htu
     have hU:upd H9 tu (.tup [.str r0'.1]) tu=some (.tup [.str r0'.1]):=qd
     generalize upd H9 tu (.tup [.str r0'.1])=HU at sU hU
     refine⟨_,rfl,l,_,0,_,rfl,rfl,.of (sU _ _ g9.at_),at0,p0,_,0,_,rfl,rfl,.of (sU _ _ ha0),rfl,by show 1<=sizeLine;decide,λli hli=>?_⟩
     have sV:Same HU (upd HU li (.lst [.str r0'.1])):=qj hli
     have hV:upd HU li (.lst [.str r0'.1]) li=some (.lst [.str r0'.1]):=qd
     generalize upd HU li (.lst [.str r0'.1])=HV at sV hV
     have sUV:=sU.trans sV
     refine⟨_,rfl,l,_,0,_,rfl,rfl,.of (sUV _ _ g9.at_),at0,p0,_,0,_,rfl,rfl,.of (sUV _ _ ha0),rfl,_,_,rfl,rfl,?_,λde hde=>?_⟩
     . have e8:(Str.ofString "9").length=1:=by decide+kernel
       have z08:=(Zi nz0).2.1
       rw[e8]
       exact Nat.le_of_lt (qo (by omega))
     have sD:Same HV (upd HV de (.dK [])):=qj hde
     have hDe:upd HV de (.dK []) de=some (.dK []):=qd
     generalize upd HV de (.dK [])=HD at sD hDe
     refine⟨by show 9<=sizeLine;decide,λls hls=>?_⟩
     have sS:Same HD (upd HD ls (.lst [.non,.int 0,.str (Str.ofString "A"),.str (Str.ofString ""),.ref tu,.ref li,.str (r0'.1++Str.ofString "9"),.bl true,.ref de])):=qj hls
     have hS:upd HD ls (.lst [.non,.int 0,.str (Str.ofString "A"),.str (Str.ofString ""),.ref tu,.ref li,.str (r0'.1++Str.ofString "9"),.bl true,.ref de]) ls=some (.lst [.non,.int 0,.str (Str.ofString "A"),.str (Str.ofString ""),.ref tu,.ref li,.str (r0'.1++Str.ofString "9"),.bl true,.ref de]):=qd
     have odd:∀v∈[V.non,.int 0,.str (Str.ofString "A"),.str (Str.ofString ""),.ref tu,.ref li,.str (r0'.1++Str.ofString "9"),.bl true,.ref de],Z9 K (upd HD ls (.lst [.non,.int 0,.str (Str.ofString "A"),.str (Str.ofString ""),.ref tu,.ref li,.str (r0'.1++Str.ofString "9"),.bl true,.ref de])) (rs.map (·.1)) v:=λv hv=>by
       simp only[List.mem_cons,List.mem_nil_iff,or_false]at hv
       rcases hv with rfl | rfl | rfl | rfl | rfl | rfl | rfl | rfl | rfl
       . exact .inl ⟨.none,.non,rfl,Nat.zero_le _,λz _=>rfl⟩
       . exact .inl ⟨.int 0,.int 0,rfl,Nat.zero_le _,λz _=>rfl⟩
       . exact Yo (by decide+kernel) (by decide+kernel) nmz
       . exact Yo (by decide+kernel) (by decide+kernel) nmz
       . exact y7 (sS _ _ (sD _ _ (sV _ _ hU))) nz0
       . exact y8 (sS _ _ (sD _ _ hV)) nz0
       . exact vO nz0 nmz
       . exact .inl ⟨.bool true,.bl true,rfl,Nat.zero_le _,λz _=>rfl⟩
       . exact .inr ⟨de,[],rfl,sS _ _ hDe⟩
     have s9S:Same H9 (upd HD ls (.lst [.non,.int 0,.str (Str.ofString "A"),.str (Str.ofString ""),.ref tu,.ref li,.str (r0'.1++Str.ofString "9"),.bl true,.ref de])):=sUV.trans (sD.trans sS)
     have l9:[V.non,.int 0,.str (Str.ofString "A"),.str (Str.ofString ""),.ref tu,.ref li,.str (r0'.1++Str.ofString "9"),.bl true,.ref de].length=9:=rfl
     generalize upd HD ls (.lst [.non,.int 0,.str (Str.ofString "A"),.str (Str.ofString ""),.ref tu,.ref li,.str (r0'.1++Str.ofString "9"),.bl true,.ref de])=HS at hS odd s9S
     generalize [V.non,.int 0,.str (Str.ofString "A"),.str (Str.ofString ""),.ref tu,.ref li,.str (r0'.1++Str.ofString "9"),.bl true,.ref de]=xs at hS odd l9
     have nls:ls≠d:=λz=>by have:=s9S _ _ hd9;rw[<-z,hS]at this;cases this
     refine⟨_,rfl,_,rfl,d,9,n2,sd,t2,rfl,s9S _ _ hd9,by decide,by decide,λrr n3 t3 rr0 rr1=>?_⟩
     obtain⟨v,ev⟩:∃v,xs[rr.toNat]?=some v:=⟨_,List.getElem?_eq_getElem (by omega)⟩
     have erl:rr=((rr.toNat:Nat):Int):=by omega
     have kT:∀b u,HS b=some u->b≠d->upd HS d (.dK (src n3 sd t3)) b=some u:=λb u hb nb=>by rw[qg nb];exact hb
     refine⟨ls,_,_,v,rfl,rfl,.of (kT _ _ hS nls),by rw[erl];exact QS ev,?_⟩
     have nov:=odd v (List.mem_of_getElem? ev)
     have n0d:H' d=none:=hd
     have novT:Z9 K (upd HS d (.dK (src n3 sd t3))) (rs.map (·.1)) v:=by
       rcases nov with ⟨dd,dv,rest⟩ | ⟨c1,kvs,e,hc⟩
       . exact .inl ⟨dd,KF dv (s9S _ _ hd9) kT,rest⟩
       . by_cases cd:c1=d
         . exact .inr ⟨c1,_,e,by rw[cd];exact qd⟩
         . exact .inr ⟨c1,kvs,e,kT _ _ hc cd⟩
     have grT:jZ CG (upd HS d (.dK (src n3 sd t3))) x rs:=by
       obtain⟨dx',lo',rd',kvs',e1,e2,e3,e4⟩:=gr.mono (s49.trans s9S)
       refine⟨dx',lo',rd',kvs',kT _ _ e1 (λz=>by rw[z,s9S _ _ hd9]at e1;cases e1),kT _ _ e2 (λz=>by rw[z,s9S _ _ hd9]at e2;cases e2),kT _ _ e3 (λz=>?_),λr' hr'=>let ⟨q',a1,a2⟩:=e4 r' hr';⟨q',a1,kT _ _ a2 (λz=>by rw[z,s9S _ _ hd9]at a2;cases a2)⟩⟩
       rw[z,s9S _ _ hd9]at e3
       have e5:=HO.dK.inj (Option.some.inj e3)
       obtain⟨q',a1,_⟩:=e4 r0' (List.mem_of_getElem? er0)
       rw[<-e5]at a1
       obtain⟨i',e6⟩:=wA a1
       cases e6
     have hqT:SqL K (upd HS d (.dK (src n3 sd t3))) a (ns.map V.int):=by
       rcases s9S.seq hq9 with (h | ⟨o,h⟩) | h
       . exact .inl (.inl (kT _ _ h (λz=>by rw[z,s9S _ _ hd9]at h;cases h)))
       . exact .inl (.inr ⟨o,kT _ _ h (λz=>by rw[z,s9S _ _ hd9]at h;cases h)⟩)
       . exact .inr h
     generalize upd HS d (.dK (src n3 sd t3))=HT at novT grT hqT
     refine⟨2,rfl,by decide,by decide,?_⟩
     refine QD (λm σ' G=>∃w8,σ'=[some (.ref a),some (.int (0+(i:Int))),some (.ref d),some (.ref l),some (.ref x),some (.ref W),some (.ref ls),some v,w8]/\Ju HT G) ⟨_,rfl,Ju.refl _⟩ ?_ ?_
     . rintro m σ' G hm ⟨w8,rfl,kp⟩
       refine⟨_,rfl,_,rfl,_,rfl,_,x,rs,v,rfl,grT.keep kp,good,novT.keep kp,λG1 l1 k1 hl1=>⟨_,rfl,by show 1<=sizeLine;decide,λl4 hl4=>?_⟩⟩
       have k2:Ju HT (upd G1 l4 (.lst [v])):=kp.trans (k1.trans (qj hl4).keep)
       exact⟨l1,l4,v,rfl,rfl,.of (qm hl1 hl4),.of qd,(novT.keep k2).one,_,rfl,qZ ⟨_,rfl,k2⟩⟩
     . rintro σ' G ⟨w8,rfl,kp⟩
       exact⟨_,_,_,_,_,_,_,_,rfl,hqT.keep kp⟩
   . rintro σ H' ⟨v1,v2,v3,v4,v5,v6,v7,v8,rfl,_⟩
     exact k H'
end
end Rh
set_option Elab.async false
set_option linter.all false
set_option maxRecDepth 100000
set_option maxHeartbeats 4000000
namespace Rh
open PySem L2 PyProof.Rows MLab
theorem kss {K:PySem.W.Frag}:PySem.W.kitOne K (.type "str") (.type "str")=some true:=by kernel_rfl
theorem ktt {K:PySem.W.Frag}:PySem.W.kitOne K (.type "tuple") (.type "tuple")=some true:=by kernel_rfl
theorem kll {K:PySem.W.Frag}:PySem.W.kitOne K (.type "list") (.type "list")=some true:=by kernel_rfl
theorem kii {K:PySem.W.Frag}:PySem.W.kitOne K (.type "int") (.type "int")=some true:=by kernel_rfl
theorem kib {K:PySem.W.Frag}:PySem.W.kitOne K (.type "int") (.type "bool")=some false:=by kernel_rfl
theorem kdd {K:PySem.W.Frag}:PySem.W.kitOne K (.type "dict") (.type "dict")=some true:=by kernel_rfl
section
variable {K:PySem.W.Frag}
def MF (K:PySem.W.Frag) (n q:Str) (s:Stmt) (f:Addr):Prop:=∃fd,jQ K n q s f fd
theorem MF.mk' {x qual:Str} {st:Stmt} {f:Addr} {oc:Value} {od an:Option Addr} {osl:Array (Option Value)} {kV doc pm cdv ct:Value} (l:K.lookup f=some ⟨oc,od,.func (PySem.W.fnOf x qual (QR st) (Qc st) (qk st) .none kV doc pm an cdv ct),osl⟩) (c:PySem.W.codeIn K cdv qual=true) (k:PySem.W.keepIn K (.ref f)=true):MF K x qual st f:=⟨_,VW l c k⟩
def HF (K:PySem.W.Frag) (n:Str) (s:Stmt) (f:Addr):Prop:=PySem.W.nsIn K mainGlobals n=some (some (.ref f))/\MF K n n s f
theorem HF.mk' {x:Str} {st:Stmt} {f:Addr} {oc:Value} {od an:Option Addr} {osl:Array (Option Value)} {kV doc pm cdv ct:Value} (a:PySem.W.nsIn K mainGlobals x=some (some (.ref f))) (l:K.lookup f=some ⟨oc,od,.func (PySem.W.fnOf x x (QR st) (Qc st) (qk st) .none kV doc pm an cdv ct),osl⟩) (c:PySem.W.codeIn K cdv x=true) (k:PySem.W.keepIn K (.ref f)=true):HF K x st f:=⟨a,_,VW l c k⟩
theorem HF.has {h:Heap} {mg:Str->Option Value} {n:Str} {s:Stmt} {f:Addr} {ps:List Str} (l:HF K n s f) (X:K.In h) (G:h.Ns mainGlobals mg) (b:∀{fd},jQ K n n s f fd->jK K fd ps []):∃fd,je K mg n s ps f fd:=let ⟨a,fd,F⟩:=l;⟨fd,F,PySem.W.mg_of X G a,b F⟩
end
def RL (es:Array DictEntry):Bool:=es.all λe=>match e.key with | .str _ _=>true | _=>false
theorem wz {es:Array DictEntry} (h:RL es=true):StrKeys es:=by
 intro e he
 have q:=Array.all_eq_true'.mp h e he
 revert q
 cases hk:e.key<;>intro q<;>first | exact⟨_,_,rfl⟩ | (dsimp only at q;cases q)
section
variable {K:PySem.W.Frag} {mg:Str->Option Value} {D C f:Addr} {x qual fld:Str} {st:Stmt}
theorem Rc {h:Heap} {fd:FuncData} {nm q:Str} {N:Addr} {bs:List Value} {hdct:Bool} {sn:List Str} {sub:List Value} {ab:Bool} {col:Option Bool} {dd:Option Addr} {k0 k1 k2 k3 k5:Option Value}
   (X:K.In h) (G:h.Ns mainGlobals mg) (tl:∀h:Heap,K.In h->OwnTail h Qd (.ref D::Qd)) (F:jQ K "__init__" qual st f fd) (b:jK K fd ["self",fld] [])
   (a1:PySem.W.nsIn K mainGlobals x=some (some (.ref C)))
   (a2:K.lookup C=some (excClassObj nm q C N bs (.ref D::Qd) hdct sn sub ab col dd k0 k1 k2 k3 k5 "ValueError.__new__"))
   (a3:PySem.W.findIn K (.ref C) "__init__"=some (some (.ref f))) (a4:PySem.W.isFn K (.ref f)=true) (a5:PySem.W.keepIn K (.ref C)=true)
   (a6:PySem.W.findIn K (.ref C) "__getattribute__"=some (some (.builtin "BaseException.__getattribute__"))) (a7:PySem.W.findIn K (.ref C) "__getattr__"=some none)
   (a8:PySem.W.findIn K (.ref C) "__setattr__"=some (some (.builtin "object.__setattr__"))) (a9:PySem.W.hasDictIn K C=true)
   (a10:PySem.W.mroIn K C (.type "BaseException")=some true) (a11:PySem.W.mroIn K C (.type "object")=some true)
   (a12:PySem.W.findIn K (.ref C) "__class__"=some (some (.builtin "object.__class__"))) (a13:PySem.W.findIn K (.ref C) fld=some none):wj K mg D x qual st fld C f fd:=
 ⟨⟨a6,a7,a8,a9,⟨_,by unfold PySem.W.clsIn;rw[a2],rfl⟩,a10,a11,a12⟩,⟨⟨nm,q,N,bs,hdct,sn,sub,ab,col,dd,k0,k1,k2,k3,k5,a2⟩,tl,a3,a4,a5⟩,PySem.W.mg_of X G a1,a13,F,b⟩
end
theorem all_mk {l:PySem.W.OpenLaw} {w:World} {K:PySem.W.Frag} {h:Heap} {mg:Str->Option Value} {fa:Addr} (X:K.In h) (G:h.Ns mainGlobals mg) (hfa:mg "law"=some (.ref fa))
   {fO fL fT fN fD fR fA1 fA2 fA3 fA4 fA5 fA6 fA7 fA8 fB1 fB2 fB3 fB4 fB5 fB6 fB7 fB8 fW1 fW2 fW3 fW5 fP1 fP2 fP3 fP4 fP5 fP6 fP7 fC1 fC2 fC3 fC4 fC5 fC6 fC7 fC8 fC9 fCGi fCGM fCGF fCNi fCNT fCEi fCET CNoPlace fNoPlace:Addr}
   {fLAW:Addr} {odLAW anLAW:Option Addr} {slLAW:Array (Option Value)} {ocLAW kVLAW dcLAW pmLAW cdLAW ctLAW:Value}
   {CG:Addr}
   {CN:Addr}
   {CE:Addr}
   {tm1:Tok}
   {tm2:Tok}
   {tm3:Tok}
   {tm4:Tok}
   {tm5:Tok}
   {tm6:Tok}
   {D:Addr} {nmHE qHE:Str} {NHE:Addr} {bsHE subHE:List Value} {hdctHE abHE:Bool} {snHE:List Str} {colHE:Option Bool} {ddHE:Option Addr} {kaHE kbHE kcHE kdHE keHE:Option Value} {oHN:Value} {dHN:Option Addr} {es:Array DictEntry} {ep:Nat} {slHN:Array (Option Value)}
   {nmNoPlace qNoPlace:Str} {NNoPlace:Addr} {bsNoPlace subNoPlace:List Value} {hdctNoPlace abNoPlace:Bool} {snNoPlace:List Str} {colNoPlace:Option Bool} {ddNoPlace:Option Addr} {kaNoPlace kbNoPlace kcNoPlace kdNoPlace keNoPlace:Option Value}
   (lO:HF K "_law_cell_at" Uw fO)
   (lL:HF K "_law_source" zy fL)
   (lT:HF K "_law_take" zX fT)
   (lN:HF K "_law_names" zZ fN)
   (lD:HF K "_law_leads" z7 fD)
   (lR:HF K "_law_rows" Us fR)
   (lA1:HF K "is_name" Zz fA1)
   (lA2:HF K "is_tuple_of_names" Y4 fA2)
   (lA3:HF K "is_row" z9 fA3)
   (lA4:HF K "need_form" Uu fA4)
   (lA5:HF K "need_own_names" wP fA5)
   (lA6:HF K "need_ends" Uv fA6)
   (lA7:HF K "need_few_roads" wQ fA7)
   (lA8:HF K "need_rows" WC fA8)
   (lB1:HF K "lacking" j6 fB1)
   (lB2:HF K "set_of" XJ fB2)
   (lB3:HF K "numbers_behind" Kr fB3)
   (lB4:HF K "gets_number" Ya fB4)
   (lB5:HF K "round_of" ZT fB5)
   (lB6:HF K "give_number" WD fB6)
   (lB7:HF K "give_numbers" XN fB7)
   (lB8:HF K "labels_of" zz fB8)
   (lW1:HF K "is_whole" Jz fW1)
   (lW2:HF K "is_number" Zy fW2)
   (lW3:HF K "is_set" z8 fW3)
   (lW5:HF K "numbers_in" Zg fW5)
   (lP1:HF K "need_place" QU fP1)
   (lP2:HF K "is_open_to" J0 fP2)
   (lP3:HF K "open_roads" zY fP3)
   (lP4:HF K "open_road" Y5 fP4)
   (lP5:HF K "label_worth" RX fP5)
   (lP6:HF K "worth_of" vq fP6)
   (lP7:HF K "rounds_of" JY fP7)
   (lC1:HF K "_law_back" JB fC1)
   (lC2:HF K "_law_comes" Jf fC2)
   (lC3:HF K "_law_numbers" QB fC3)
   (lC4:HF K "_law_labels" ZC fC4)
   (lC5:HF K "_law_rounds" ZB fC5)
   (lC6:HF K "_law_open" XM fC6)
   (lC7:HF K "_law_strict" ZA fC7)
   (lC8:HF K "_law_right" zA fC8)
   (lC9:HF K "_law_refused" JZ fC9)
   (aLAW:PySem.W.nsIn K mainGlobals "law"=some (some (.ref fLAW)))
   (lLAW:K.lookup fLAW=some ⟨ocLAW,odLAW,.func (PySem.W.fnOf "law" "law" (QR XL) (Qc XL) (qk XL) .none kVLAW dcLAW pmLAW anLAW cdLAW ctLAW),slLAW⟩)
   (cLAW:PySem.W.codeIn K cdLAW "law"=true)
   (kLAW:PySem.W.keepIn K (.ref fLAW)=true)
   (nCG:PySem.W.nsIn K mainGlobals "Ground"=some (some (.ref CG)))
   (pgCG:PySem.W.plainGet K CG Str.empty=true)
   (hdCG:PySem.W.hasDictIn K CG=true)
   (poCG:PySem.W.plainOver K CG=true)
   (saCG:PySem.W.findIn K (.ref CG) "__setattr__"=some (some (.builtin "object.__setattr__")))
   (mkCG:PySem.W.makesIn K CG=true)
   (inCG:PySem.W.findIn K (.ref CG) "__init__"=some (some (.ref fCGi)))
   (fiCG:PySem.W.isFn K (.ref fCGi)=true)
   (kcCG:PySem.W.keepIn K (.ref CG)=true)
   (noCG:PySem.W.findIn K (.ref CG) "order"=some none)
   (nrCG:PySem.W.findIn K (.ref CG) "roads"=some none)
   (lCGi:MF K "__init__" "Ground.__init__" Vv fCGi)
   (atCGM:PySem.W.findIn K (.ref CG) "names"=some (some (.ref fCGM)))
   (fnCGM:PySem.W.isFn K (.ref fCGM)=true)
   (lCGM:MF K "names" "Ground.names" ZF fCGM)
   (atCGF:PySem.W.findIn K (.ref CG) "roads_from"=some (some (.ref fCGF)))
   (fnCGF:PySem.W.isFn K (.ref fCGF)=true)
   (lCGF:MF K "roads_from" "Ground.roads_from" Yb fCGF)
   (nCN:PySem.W.nsIn K mainGlobals "Numbered"=some (some (.ref CN)))
   (pgCN:PySem.W.plainGet K CN Str.empty=true)
   (hdCN:PySem.W.hasDictIn K CN=true)
   (poCN:PySem.W.plainOver K CN=true)
   (saCN:PySem.W.findIn K (.ref CN) "__setattr__"=some (some (.builtin "object.__setattr__")))
   (mkCN:PySem.W.makesIn K CN=true)
   (inCN:PySem.W.findIn K (.ref CN) "__init__"=some (some (.ref fCNi)))
   (fiCN:PySem.W.isFn K (.ref fCNi)=true)
   (kcCN:PySem.W.keepIn K (.ref CN)=true)
   (naCN:PySem.W.findIn K (.ref CN) "number"=some none)
   (lCNi:MF K "__init__" "Numbered.__init__" z6 fCNi)
   (caCN:PySem.W.findIn K (.ref CN) "__class__"=some (some (.builtin "object.__class__")))
   (obCN:PySem.W.mroIn K CN (.type "object")=some true)
   (atCNT:PySem.W.findIn K (.ref CN) "told"=some (some (.ref fCNT)))
   (fnCNT:PySem.W.isFn K (.ref fCNT)=true)
   (lCNT:MF K "told" "Numbered.told" z5 fCNT)
   (nCE:PySem.W.nsIn K mainGlobals "Endless"=some (some (.ref CE)))
   (pgCE:PySem.W.plainGet K CE Str.empty=true)
   (hdCE:PySem.W.hasDictIn K CE=true)
   (poCE:PySem.W.plainOver K CE=true)
   (saCE:PySem.W.findIn K (.ref CE) "__setattr__"=some (some (.builtin "object.__setattr__")))
   (mkCE:PySem.W.makesIn K CE=true)
   (inCE:PySem.W.findIn K (.ref CE) "__init__"=some (some (.ref fCEi)))
   (fiCE:PySem.W.isFn K (.ref fCEi)=true)
   (kcCE:PySem.W.keepIn K (.ref CE)=true)
   (naCE:PySem.W.findIn K (.ref CE) "bits"=some none)
   (lCEi:MF K "__init__" "Endless.__init__" Yd fCEi)
   (caCE:PySem.W.findIn K (.ref CE) "__class__"=some (some (.builtin "object.__class__")))
   (obCE:PySem.W.mroIn K CE (.type "object")=some true)
   (atCET:PySem.W.findIn K (.ref CE) "told"=some (some (.ref fCET)))
   (fnCET:PySem.W.isFn K (.ref fCET)=true)
   (lCET:MF K "told" "Endless.told" Yc fCET)
   (zlen:PySem.W.nsIn K mainGlobals "len"=some none)
   (zmax:PySem.W.nsIn K mainGlobals "max"=some none)
   (zmin:PySem.W.nsIn K mainGlobals "min"=some none)
   (zint:PySem.W.nsIn K mainGlobals "int"=some none)
   (zrange:PySem.W.nsIn K mainGlobals "range"=some none)
   (zisinstance:PySem.W.nsIn K mainGlobals "isinstance"=some none)
   (zstr:PySem.W.nsIn K mainGlobals "str"=some none)
   (zall:PySem.W.nsIn K mainGlobals "all"=some none)
   (zenumerate:PySem.W.nsIn K mainGlobals "enumerate"=some none)
   (zsum:PySem.W.nsIn K mainGlobals "sum"=some none)
   (zsorted:PySem.W.nsIn K mainGlobals "sorted"=some none)
   (zlist:PySem.W.nsIn K mainGlobals "list"=some none)
   (zreversed:PySem.W.nsIn K mainGlobals "reversed"=some none)
   (zset:PySem.W.nsIn K mainGlobals "set"=some none)
   (ztuple:PySem.W.nsIn K mainGlobals "tuple"=some none)
   (zdict:PySem.W.nsIn K mainGlobals "dict"=some none)
   (zbool:PySem.W.nsIn K mainGlobals "bool"=some none)
   (m1:PySem.W.nsIn K mainGlobals "LETTERS"=some (some (.str "abcdefghijklmnopqrstuvwxyz" tm1)))
   (m2:PySem.W.nsIn K mainGlobals "LONGEST_NAME"=some (some (.int 8 tm2)))
   (m3:PySem.W.nsIn K mainGlobals "MOST_PLACES"=some (some (.int 14 tm3)))
   (m4:PySem.W.nsIn K mainGlobals "MOST_ROADS"=some (some (.int 40 tm4)))
   (m5:PySem.W.nsIn K mainGlobals "MOST_NUMBER"=some (some (.int 15 tm5)))
   (m6:PySem.W.nsIn K mainGlobals "MOST_BITS"=some (some (.int 65535 tm6)))
   (aHE:PySem.W.nsIn K mainGlobals "HeapError"=some (some (.ref D)))
   (oHE:K.lookup D=some (excClassObj nmHE qHE D NHE bsHE Qd hdctHE snHE subHE abHE colHE ddHE kaHE kbHE kcHE kdHE keHE "ValueError.__new__"))
   (nHE:K.lookup NHE=some ⟨oHN,dHN,.dict es ep,slHN⟩)
   (skHE:RL es=true)
   (niHE:nsFind es (Str.ofString "__init__")=none)
   (a1NoPlace:PySem.W.nsIn K mainGlobals "NoPlace"=some (some (.ref CNoPlace)))
   (a2NoPlace:K.lookup CNoPlace=some (excClassObj nmNoPlace qNoPlace CNoPlace NNoPlace bsNoPlace (.ref D::Qd) hdctNoPlace snNoPlace subNoPlace abNoPlace colNoPlace ddNoPlace kaNoPlace kbNoPlace kcNoPlace kdNoPlace keNoPlace "ValueError.__new__"))
   (a3NoPlace:PySem.W.findIn K (.ref CNoPlace) "__init__"=some (some (.ref fNoPlace)))
   (a4NoPlace:PySem.W.isFn K (.ref fNoPlace)=true)
   (lNoPlace:MF K "__init__" "NoPlace.__init__" j5 fNoPlace)
   (a5NoPlace:PySem.W.keepIn K (.ref CNoPlace)=true)
   (a6NoPlace:PySem.W.findIn K (.ref CNoPlace) "__getattribute__"=some (some (.builtin "BaseException.__getattribute__")))
   (a7NoPlace:PySem.W.findIn K (.ref CNoPlace) "__getattr__"=some none)
   (a8NoPlace:PySem.W.findIn K (.ref CNoPlace) "__setattr__"=some (some (.builtin "object.__setattr__")))
   (a9NoPlace:PySem.W.hasDictIn K CNoPlace=true)
   (a10NoPlace:PySem.W.mroIn K CNoPlace (.type "BaseException")=some true)
   (a11NoPlace:PySem.W.mroIn K CNoPlace (.type "object")=some true)
   (a12NoPlace:PySem.W.findIn K (.ref CNoPlace) "__class__"=some (some (.builtin "object.__class__")))
   (a13NoPlace:PySem.W.findIn K (.ref CNoPlace) "found"=some none)
   (spc:PySem.W.specialIn K (.builtin "object.__class__") "__get__"=some (some (.builtin "getset_descriptor.__get__")))
   (tks:PySem.W.takesIn K (.builtin "object.__class__")=some true)
   (ne:CN≠CE)
   (w1:PySem.W.kitOne K (.ref CNoPlace) (.ref CNoPlace)=some true)
   :
   ∃fd:FuncData,(∀(s:Shared) (v:Value),BindsTo s fd ⟨[v],[]⟩ [("_law_script",v)])/\∀base:Heap,K.In base->base.Ns mainGlobals mg->qp l.prog w K mg base qM 11 fa fd ["_law_script"] (Um K):=by
 have e:=hfa.symm.trans (PySem.W.mg_of X G aLAW)
 cases e
 obtain⟨_,hO⟩:=lO.has (ps:=["_law_script","_law_k"]) X G λF=>F.binds λ_ _ _ _ _ _ us hl=>by obtain⟨_,_,rfl⟩:=JJ hl;rfl
 obtain⟨_,hL⟩:=lL.has (ps:=["_law_cell"]) X G λF=>F.binds λ_ _ _ _ _ _ us hl=>by obtain⟨_,rfl⟩:=Qt hl;rfl
 obtain⟨_,hT⟩:=lT.has (ps:=["_law_source_here","_law_many"]) X G λF=>F.binds λ_ _ _ _ _ _ us hl=>by obtain⟨_,_,rfl⟩:=JJ hl;rfl
 obtain⟨_,hN⟩:=lN.has (ps:=["_law_source_here","_law_many"]) X G λF=>F.binds λ_ _ _ _ _ _ us hl=>by obtain⟨_,_,rfl⟩:=JJ hl;rfl
 obtain⟨_,hD⟩:=lD.has (ps:=["_law_source_here","_law_many","_law_shape","_law_low"]) X G λF=>F.binds λ_ _ _ _ _ _ us hl=>by obtain⟨_,_,_,_,rfl⟩:=uB hl;rfl
 obtain⟨_,hR⟩:=lR.has (ps:=["_law_source_here","_law_most"]) X G λF=>F.binds λ_ _ _ _ _ _ us hl=>by obtain⟨_,_,rfl⟩:=JJ hl;rfl
 obtain⟨_,hA1⟩:=lA1.has (ps:=["thing"]) X G λF=>F.binds λ_ _ _ _ _ _ us hl=>by obtain⟨_,rfl⟩:=Qt hl;rfl
 obtain⟨_,hA2⟩:=lA2.has (ps:=["thing"]) X G λF=>F.binds λ_ _ _ _ _ _ us hl=>by obtain⟨_,rfl⟩:=Qt hl;rfl
 obtain⟨_,hA3⟩:=lA3.has (ps:=["thing"]) X G λF=>F.binds λ_ _ _ _ _ _ us hl=>by obtain⟨_,rfl⟩:=Qt hl;rfl
 obtain⟨_,hA4⟩:=lA4.has (ps:=["rows"]) X G λF=>F.binds λ_ _ _ _ _ _ us hl=>by obtain⟨_,rfl⟩:=Qt hl;rfl
 obtain⟨_,hA5⟩:=lA5.has (ps:=["order"]) X G λF=>F.binds λ_ _ _ _ _ _ us hl=>by obtain⟨_,rfl⟩:=Qt hl;rfl
 obtain⟨_,hA6⟩:=lA6.has (ps:=["ends","order"]) X G λF=>F.binds λ_ _ _ _ _ _ us hl=>by obtain⟨_,_,rfl⟩:=JJ hl;rfl
 obtain⟨_,hA7⟩:=lA7.has (ps:=["rows"]) X G λF=>F.binds λ_ _ _ _ _ _ us hl=>by obtain⟨_,rfl⟩:=Qt hl;rfl
 obtain⟨_,hA8⟩:=lA8.has (ps:=["rows"]) X G λF=>F.binds λ_ _ _ _ _ _ us hl=>by obtain⟨_,rfl⟩:=Qt hl;rfl
 obtain⟨_,hB1⟩:=lB1.has (ps:=["numbers"]) X G λF=>F.binds λ_ _ _ _ _ _ us hl=>by obtain⟨_,rfl⟩:=Qt hl;rfl
 obtain⟨_,hB2⟩:=lB2.has (ps:=["numbers"]) X G λF=>F.binds λ_ _ _ _ _ _ us hl=>by obtain⟨_,rfl⟩:=Qt hl;rfl
 obtain⟨_,hB3⟩:=lB3.has (ps:=["ground","numbered","name"]) X G λF=>F.binds λ_ _ _ _ _ _ us hl=>by obtain⟨_,_,_,rfl⟩:=VO hl;rfl
 obtain⟨_,hB4⟩:=lB4.has (ps:=["ground","numbered","name","number"]) X G λF=>F.binds λ_ _ _ _ _ _ us hl=>by obtain⟨_,_,_,_,rfl⟩:=uB hl;rfl
 obtain⟨_,hB5⟩:=lB5.has (ps:=["ground","numbered","number"]) X G λF=>F.binds λ_ _ _ _ _ _ us hl=>by obtain⟨_,_,_,rfl⟩:=VO hl;rfl
 obtain⟨_,hB6⟩:=lB6.has (ps:=["ground","numbered","number"]) X G λF=>F.binds λ_ _ _ _ _ _ us hl=>by obtain⟨_,_,_,rfl⟩:=VO hl;rfl
 obtain⟨_,hB7⟩:=lB7.has (ps:=["ground","numbered"]) X G λF=>F.binds λ_ _ _ _ _ _ us hl=>by obtain⟨_,_,rfl⟩:=JJ hl;rfl
 obtain⟨_,hB8⟩:=lB8.has (ps:=["ground"]) X G λF=>F.binds λ_ _ _ _ _ _ us hl=>by obtain⟨_,rfl⟩:=Qt hl;rfl
 obtain⟨_,hW1⟩:=lW1.has (ps:=["thing"]) X G λF=>F.binds λ_ _ _ _ _ _ us hl=>by obtain⟨_,rfl⟩:=Qt hl;rfl
 obtain⟨_,hW2⟩:=lW2.has (ps:=["thing"]) X G λF=>F.binds λ_ _ _ _ _ _ us hl=>by obtain⟨_,rfl⟩:=Qt hl;rfl
 obtain⟨_,hW3⟩:=lW3.has (ps:=["thing"]) X G λF=>F.binds λ_ _ _ _ _ _ us hl=>by obtain⟨_,rfl⟩:=Qt hl;rfl
 obtain⟨_,hW5⟩:=lW5.has (ps:=["bits"]) X G λF=>F.binds λ_ _ _ _ _ _ us hl=>by obtain⟨_,rfl⟩:=Qt hl;rfl
 obtain⟨_,hP1⟩:=lP1.has (ps:=["ground","thing"]) X G λF=>F.binds λ_ _ _ _ _ _ us hl=>by obtain⟨_,_,rfl⟩:=JJ hl;rfl
 obtain⟨_,hP2⟩:=lP2.has (ps:=["label","number"]) X G λF=>F.binds λ_ _ _ _ _ _ us hl=>by obtain⟨_,_,rfl⟩:=JJ hl;rfl
 obtain⟨_,hP3⟩:=lP3.has (ps:=["ground","labels","name"]) X G λF=>F.binds λ_ _ _ _ _ _ us hl=>by obtain⟨_,_,_,rfl⟩:=VO hl;rfl
 obtain⟨_,hP4⟩:=lP4.has (ps:=["ground","name"]) X G λF=>F.binds λ_ _ _ _ _ _ us hl=>by obtain⟨_,_,rfl⟩:=JJ hl;rfl
 obtain⟨_,hP5⟩:=lP5.has (ps:=["label"]) X G λF=>F.binds λ_ _ _ _ _ _ us hl=>by obtain⟨_,rfl⟩:=Qt hl;rfl
 obtain⟨_,hP6⟩:=lP6.has (ps:=["ground","name"]) X G λF=>F.binds λ_ _ _ _ _ _ us hl=>by obtain⟨_,_,rfl⟩:=JJ hl;rfl
 obtain⟨_,hP7⟩:=lP7.has (ps:=["ground"]) X G λF=>F.binds λ_ _ _ _ _ _ us hl=>by obtain⟨_,rfl⟩:=Qt hl;rfl
 obtain⟨_,hC1⟩:=lC1.has (ps:=["_law_roads","_law_found","_law_name","_law_number"]) X G λF=>F.binds λ_ _ _ _ _ _ us hl=>by obtain⟨_,_,_,_,rfl⟩:=uB hl;rfl
 obtain⟨_,hC2⟩:=lC2.has (ps:=["_law_roads","_law_found","_law_name","_law_number"]) X G λF=>F.binds λ_ _ _ _ _ _ us hl=>by obtain⟨_,_,_,_,rfl⟩:=uB hl;rfl
 obtain⟨_,hC3⟩:=lC3.has (ps:=["_law_rows_here"]) X G λF=>F.binds λ_ _ _ _ _ _ us hl=>by obtain⟨_,rfl⟩:=Qt hl;rfl
 obtain⟨_,hC4⟩:=lC4.has (ps:=["_law_rows_here"]) X G λF=>F.binds λ_ _ _ _ _ _ us hl=>by obtain⟨_,rfl⟩:=Qt hl;rfl
 obtain⟨_,hC5⟩:=lC5.has (ps:=["_law_rows_here"]) X G λF=>F.binds λ_ _ _ _ _ _ us hl=>by obtain⟨_,rfl⟩:=Qt hl;rfl
 obtain⟨_,hC6⟩:=lC6.has (ps:=["_law_rows_here","_law_labels_here","_law_name"]) X G λF=>F.binds λ_ _ _ _ _ _ us hl=>by obtain⟨_,_,_,rfl⟩:=VO hl;rfl
 obtain⟨_,hC7⟩:=lC7.has (ps:=["_law_told"]) X G λF=>F.binds λ_ _ _ _ _ _ us hl=>by obtain⟨_,rfl⟩:=Qt hl;rfl
 obtain⟨_,hC8⟩:=lC8.has (ps:=["_law_rows_here","_law_ground"]) X G λF=>F.binds λ_ _ _ _ _ _ us hl=>by obtain⟨_,_,rfl⟩:=JJ hl;rfl
 obtain⟨_,hC9⟩:=lC9.has (ps:=["_law_way","_law_ground","_law_thing"]) X G λF=>F.binds λ_ _ _ _ _ _ us hl=>by obtain⟨_,_,_,rfl⟩:=VO hl;rfl
 have FLAW:=VW (st:=XL) lLAW cLAW kLAW
 obtain⟨_,FiCG⟩:=lCGi
 have clCG:NL K mg CG fCGi _:=⟨⟨pgCG,hdCG,poCG,saCG⟩,⟨mkCG,inCG,fiCG,kcCG⟩,PySem.W.mg_of X G nCG,noCG,nrCG,FiCG,FiCG.binds (ps:=["self","rows"]) λ_ _ _ _ _ _ us hl=>by obtain⟨_,_,rfl⟩:=JJ hl;rfl⟩
 obtain⟨_,FCGM⟩:=lCGM
 have mCGM:wb K CG "names" "Ground.names" ZF ["self"] fCGM _:=⟨FCGM,⟨atCGM,fnCGM,FCGM.kp⟩,FCGM.binds (ps:=["self"]) λ_ _ _ _ _ _ us hl=>by obtain⟨_,rfl⟩:=Qt hl;rfl⟩
 obtain⟨_,FCGF⟩:=lCGF
 have mCGF:wb K CG "roads_from" "Ground.roads_from" Yb ["self","name"] fCGF _:=⟨FCGF,⟨atCGF,fnCGF,FCGF.kp⟩,FCGF.binds (ps:=["self","name"]) λ_ _ _ _ _ _ us hl=>by obtain⟨_,_,rfl⟩:=JJ hl;rfl⟩
 obtain⟨_,FiCN⟩:=lCNi
 have clCN:Cl K mg "Numbered" "Numbered.__init__" "number" z6 CN fCNi _:=⟨⟨pgCN,hdCN,poCN,saCN⟩,⟨mkCN,inCN,fiCN,kcCN⟩,PySem.W.mg_of X G nCN,naCN,FiCN,FiCN.binds (ps:=["self","number"]) λ_ _ _ _ _ _ us hl=>by obtain⟨_,_,rfl⟩:=JJ hl;rfl,caCN,obCN⟩
 obtain⟨_,FCNT⟩:=lCNT
 have mCNT:wb K CN "told" "Numbered.told" z5 ["self"] fCNT _:=⟨FCNT,⟨atCNT,fnCNT,FCNT.kp⟩,FCNT.binds (ps:=["self"]) λ_ _ _ _ _ _ us hl=>by obtain⟨_,rfl⟩:=Qt hl;rfl⟩
 obtain⟨_,FiCE⟩:=lCEi
 have clCE:Cl K mg "Endless" "Endless.__init__" "bits" Yd CE fCEi _:=⟨⟨pgCE,hdCE,poCE,saCE⟩,⟨mkCE,inCE,fiCE,kcCE⟩,PySem.W.mg_of X G nCE,naCE,FiCE,FiCE.binds (ps:=["self","bits"]) λ_ _ _ _ _ _ us hl=>by obtain⟨_,_,rfl⟩:=JJ hl;rfl,caCE,obCE⟩
 obtain⟨_,FCET⟩:=lCET
 have mCET:wb K CE "told" "Endless.told" Yc ["self"] fCET _:=⟨FCET,⟨atCET,fnCET,FCET.kp⟩,FCET.binds (ps:=["self"]) λ_ _ _ _ _ _ us hl=>by obtain⟨_,rfl⟩:=Qt hl;rfl⟩
 have tl:∀h:Heap,K.In h->OwnTail h Qd (.ref D::Qd):=λh X=>.own (X _ _ oHE) ⟨_,es,ep,X _ _ nHE,rfl,wz skHE,λ_=>rfl⟩ niHE .base
 have ccD:Kf K D:=⟨Qd,⟨_,_,_,_,_,_,_,_,_,_,_,_,_,_,_,oHE⟩,rfl⟩
 obtain⟨_,FNoPlace⟩:=lNoPlace
 have xNoPlace:wj K mg D "NoPlace" "NoPlace.__init__" j5 "found" CNoPlace fNoPlace _:=Rc X G tl FNoPlace (FNoPlace.binds (ps:=["self","found"]) λ_ _ _ _ _ _ us hl=>by obtain⟨_,_,rfl⟩:=JJ hl;rfl) a1NoPlace a2NoPlace a3NoPlace a4NoPlace a5NoPlace a6NoPlace a7NoPlace a8NoPlace a9NoPlace a10NoPlace a11NoPlace a12NoPlace a13NoPlace
 have B:Jc mg:=⟨PySem.W.mg_none_of X G zlen,PySem.W.mg_none_of X G zmax,PySem.W.mg_none_of X G zmin,PySem.W.mg_none_of X G zint,PySem.W.mg_none_of X G zrange⟩
 have Gk:Qk mg:=⟨PySem.W.mg_none_of X G zsorted,PySem.W.mg_none_of X G zlist,PySem.W.mg_none_of X G zreversed,PySem.W.mg_none_of X G zset,PySem.W.mg_none_of X G ztuple⟩
 have T:QL K mg:=⟨PySem.W.mg_none_of X G zisinstance,PySem.W.mg_none_of X G zstr,PySem.W.mg_none_of X G zall,PySem.W.mg_none_of X G zenumerate,PySem.W.mg_none_of X G zsum,⟨_,PySem.W.mg_of X G m1⟩,⟨_,PySem.W.mg_of X G m2⟩,⟨_,PySem.W.mg_of X G m3⟩,⟨_,PySem.W.mg_of X G m4⟩,kss,ktt,kll⟩
 have Nn:Kd K mg:=⟨⟨_,_,hA1⟩,⟨_,_,hA2⟩,⟨_,_,hA3⟩,⟨_,_,hA4⟩,⟨_,_,hA5⟩,⟨_,_,hA6⟩,⟨_,_,hA7⟩⟩
 have M:GM K mg CG:=⟨⟨_,_,clCG⟩,⟨_,_,mCGM⟩,⟨_,_,mCGF⟩,⟨_,_,hA1⟩⟩
 have Y:V5 K mg:=⟨⟨_,_,hB1⟩,⟨_,_,hB2⟩,⟨_,_,hB3⟩,⟨_,_,hB4⟩,⟨_,_,hB5⟩,⟨_,_,hB6⟩,⟨_,_,hB7⟩,⟨_,_,hB8⟩⟩
 have Wq:Wk K mg:=⟨PySem.W.mg_none_of X G zisinstance,PySem.W.mg_none_of X G zbool,kii,kib,⟨_,PySem.W.mg_of X G m5⟩,⟨_,PySem.W.mg_of X G m6⟩⟩
 let wf:WF K mg:=⟨CN,CE,fCNi,fCEi,fCNT,fCET,fW1,fW2,fW3,_,_,_,_,_,_,_,ne,clCN,clCE,mCNT,mCET,hW1,hW2,hW3⟩
 have ZD:Kc K mg:=⟨PySem.W.mg_none_of X G zbool,PySem.W.mg_none_of X G zdict,kdd,kib⟩
 have L:Rt K mg:=⟨⟨_,_,hP1⟩,⟨_,_,hW5⟩,⟨_,_,hP2⟩,⟨_,_,hP3⟩,⟨_,_,hP4⟩,⟨_,_,hP5⟩,⟨_,_,hP6⟩,⟨_,_,hP7⟩,⟨_,_,hC1⟩,⟨_,_,hC2⟩,⟨_,_,hC3⟩,⟨_,_,hC4⟩,⟨_,_,hC5⟩,⟨_,_,hC6⟩,⟨_,_,hC7⟩⟩
 have Z:NI K mg:=⟨⟨_,_,hO⟩,⟨_,_,hL⟩,⟨_,_,hT⟩,⟨_,_,hN⟩,⟨_,_,hD⟩,⟨_,_,hR⟩,⟨_,_,hA8⟩,⟨_,_,hC8⟩,⟨_,_,hC9⟩⟩
 have ZE:Rp K mg D CNoPlace:=⟨PySem.W.mg_of X G aHE,ccD,w1,spc,tks⟩
 exact⟨PySem.W.fnOf "law" "law" (QR XL) (Qc XL) (qk XL) .none kVLAW dcLAW pmLAW anLAW cdLAW ctLAW,λs v=>.of_eq rfl,λbase _ _=>Gf FLAW wf B Wq Gk T ZD Nn M Y L Z xNoPlace ZE⟩
theorem walk {l:PySem.W.OpenLaw} {q:Program} {loose:List Str} {XP:(Str->Option Value)->Heap->Prop} {YP:World->Heap->Prop} {d:DefRec} {K:Params->PySem.W.Frag} (hn:l.most=some 63) (hdf:d.params.defaults=[])
   (hY:∀(w:World) (h:Heap),YP w h->(K w.params).In h)
   (F:∀(w:World) (mg:Str->Option Value) (fa:Addr) (h:Heap),(K w.params).In h->h.Ns mainGlobals mg->mg d.name=some (.ref fa)->
     ∃fd:FuncData,(∀(s:Shared) (u:Value),BindsTo s fd ⟨[u],[]⟩ [("_law_script",u)])/\∀base:Heap,(K w.params).In base->base.Ns mainGlobals mg->qp l.prog w (K w.params) mg base qM 11 fa fd ["_law_script"] (Um (K w.params))):
   PySem.W.WalkO q loose XP YP l.row.toRowW d [] (λf vs=>PySem.call f vs):=
 L2.walk_of (n:=63) (k:=11) (x:="_law_script") (CX:=λ_=>qM) (sp:=λw=>Um (K w.params)) hn (by decide) hdf ⟨rfl,by decide,by decide,rfl⟩ hY F (λ_ _ a ns hl _ hS=>⟨a,ns,rfl,hS,hl,λ_=>rfl⟩) λ_ _ _ _ _ z=>z
end Rh
open PySem PySem.W PyProof.Rows
def PySem.W.Fast.tw12650940102420419871 : Unit := ()
def PySem.W.Fast.tw17642196800702610994 : Unit := ()
def PySem.W.Fast.tw861502493610598483 : Unit := ()
def PySem.W.Fast.tw4038046598495731775 : Unit := ()
def PySem.W.Fast.tw1553595786076442722 : Unit := ()
def PySem.W.Fast.tw10095648818634518890 : Unit := ()
def PySem.W.Fast.tw7774113678449685934 : Unit := ()
def PySem.W.Fast.tw8371023844593182472 : Unit := ()
def PySem.W.Fast.tw7654782340341435455 : Unit := ()
def PySem.W.Fast.tw11070388883789476980 : Unit := ()
def PySem.W.Fast.tw18017129668781235815 : Unit := ()
def PySem.W.Fast.tw4976532014690838185 : Unit := ()
def PySem.W.Fast.tw8283583134300015385 : Unit := ()
def PySem.W.Fast.tw12902166330736054541 : Unit := ()
def PySem.W.Fast.tw11346864328391097527 : Unit := ()
def PySem.W.Fast.tw5010956058597451964 : Unit := ()
def PySem.W.Fast.tw514280064592716601 : Unit := ()
def PySem.W.Fast.tw102665633916901851 : Unit := ()
def PySem.W.Fast.tw9872438946963307937 : Unit := ()
def PySem.W.Fast.tw9586009075069172419 : Unit := ()
def PySem.W.Fast.tw2741014181512449073 : Unit := ()
def PySem.W.Fast.tw14019768675606591570 : Unit := ()
def PySem.W.Fast.tw14284835775768690865 : Unit := ()
def PySem.W.Fast.tw4625118829043911747 : Unit := ()
def PySem.W.Fast.tw8535803893964050539 : Unit := ()
def PySem.W.Fast.tw28018229315631829 : Unit := ()
def PySem.W.Fast.tw6125853113672642322 : Unit := ()
def PySem.W.Fast.tw8092328550381762920 : Unit := ()
def PySem.W.Fast.tw17348111734160510231 : Unit := ()
def PySem.W.Fast.tw16202735626409321261 : Unit := ()
def PySem.W.Fast.tw11373181179767321252 : Unit := ()
def PySem.W.Fast.tw13831308528885131752 : Unit := ()
def PySem.W.Fast.tw14387916025512776202 : Unit := ()
def PySem.W.Fast.tw16120054744476736488 : Unit := ()
def PySem.W.Fast.tw10510019762269167821 : Unit := ()
def PySem.W.Fast.tw12301033059052437259 : Unit := ()
def PySem.W.Fast.tw16860917588515726111 : Unit := ()
def PySem.W.Fast.tw10611411778653204182 : Unit := ()
def PySem.W.Fast.tw6945566481307383155 : Unit := ()
def PySem.W.Fast.tw1205604411410820431 : Unit := ()
def PySem.W.Fast.tw13294680673763070992 : Unit := ()
def PySem.W.Fast.tw4334401890000744311 : Unit := ()
def PySem.W.Fast.tw12772213712371865176 : Unit := ()
def PySem.W.Fast.tw11824586356888161845 : Unit := ()
def PySem.W.Fast.tw18115114710476104648 : Unit := ()
def PySem.W.Fast.tw3520257249291928256 : Unit := ()
def PySem.W.Fast.tw11481637867367846703 : Unit := ()
def PySem.W.Fast.tw17852080271459398996 : Unit := ()
def PySem.W.Fast.tw9630203353718772412 : Unit := ()
def PySem.W.Fast.tw354308444213283272 : Unit := ()
def PySem.W.Fast.tw4189273013823423559 : Unit := ()
def PySem.W.Fast.tw13307065042914920193 : Unit := ()
def PySem.W.Fast.tw14859695947638507448 : Unit := ()
def PySem.W.Fast.tw10988312798546598065 : Unit := ()
def PySem.W.Fast.tw11033627544408312984 : Unit := ()
def PySem.W.Fast.tw13343918040275786880 : Unit := ()
def PySem.W.Fast.tw8997383693586321770 : Unit := ()
def PySem.W.Fast.tw16864618592142003386 : Unit := ()
def PySem.W.Fast.tw2107523057676978006 : Unit := ()
def PySem.W.Fast.tw1000662321505670351 : Unit := ()
def PySem.W.Fast.tw16626521671886133394 : Unit := ()
def PySem.W.Fast.tw890339118813698166 : Unit := ()
def PySem.W.Fast.tw9304451534382375720 : Unit := ()
def PySem.W.Fast.tw15173544498738437827 : Unit := ()
def PySem.W.Fast.tw5378528727604396283 : Unit := ()
def PySem.W.Fast.tw18095796173783872564 : Unit := ()
def PySem.W.Fast.tw12003660372656728261 : Unit := ()
def PySem.W.Fast.tw15142666989864626641 : Unit := ()
def PySem.W.Fast.tw12773500944031208451 : Unit := ()
def PySem.W.Fast.tw6469784823511061222 : Unit := ()
def PySem.W.Fast.tw1956260828630720203 : Unit := ()
def PySem.W.Fast.tw11408881796089955267 : Unit := ()
def PySem.W.Fast.tw15554417296805563061 : Unit := ()
def PySem.W.Fast.tw12717557048674177747 : Unit := ()
def PySem.W.Fast.tw1972164579936704799 : Unit := ()
def PySem.W.Fast.tw3300257896294614128 : Unit := ()
def PySem.W.Fast.tw9977182230042388008 : Unit := ()
def PySem.W.Fast.tw7943549864190904611 : Unit := ()
def PySem.W.Fast.tw8157277791214410489 : Unit := ()
def PySem.W.Fast.tw5537553045615171315 : Unit := ()
def PySem.W.Fast.tw3897268976836264337 : Unit := ()
def PySem.W.Fast.tw13034982811429478159 : Unit := ()
def PySem.W.Fast.tw3713540243193553862 : Unit := ()
def PySem.W.Fast.tw2789304352393801511 : Unit := ()
def PySem.W.Fast.tw4734895289157585001 : Unit := ()
def PySem.W.Fast.tw5725222548895626118 : Unit := ()
def PySem.W.Fast.tw9399754086935153974 : Unit := ()
def PySem.W.Fast.tw4906484309439969231 : Unit := ()
def PySem.W.Fast.tw247591363613054380 : Unit := ()
def PySem.W.Fast.tw10295913840692754127 : Unit := ()
def PySem.W.Fast.tw1607123104830579860 : Unit := ()
def PySem.W.Fast.tw10741264400317747893 : Unit := ()
def PySem.W.Fast.tw15685335758407661847 : Unit := ()
def PySem.W.Fast.tw12297992134047619483 : Unit := ()
def PySem.W.Fast.tw11384182702204212275 : Unit := ()
def PySem.W.Fast.tw10698057553749749337 : Unit := ()
def PySem.W.Fast.tw7212858340449540239 : Unit := ()
def PySem.W.Fast.tw13861969467909019144 : Unit := ()
def PySem.W.Fast.tw11066385474520676512 : Unit := ()
def PySem.W.Fast.tw4323258101793500111 : Unit := ()
def PySem.W.Fast.tw13913613514976480042 : Unit := ()
def PySem.W.Fast.tw13385558918117058561 : Unit := ()
def PySem.W.Fast.tw16298917771340976007 : Unit := ()
def PySem.W.Fast.tw17435391645217708394 : Unit := ()
def PySem.W.Fast.tw4480162626587320490 : Unit := ()
def PySem.W.Fast.tw1342123614928995077 : Unit := ()
def PySem.W.Fast.tw2080317491765294665 : Unit := ()
def PySem.W.Fast.tw8318101203651539667 : Unit := ()
def PySem.W.Fast.tw9784134513789038367 : Unit := ()
def PySem.W.Fast.tw6148498323302512570 : Unit := ()
def PySem.W.Fast.tw14154597600763967237 : Unit := ()
def PySem.W.Fast.tw7480016910919988345 : Unit := ()
def PySem.W.Fast.tw12314708539913122752 : Unit := ()
def PySem.W.Fast.tw6549852094080907030 : Unit := ()
def PySem.W.Fast.tw16003985067176294414 : Unit := ()
def PySem.W.Fast.tw12138319994727072339 : Unit := ()
def PySem.W.Fast.tw12887044766017154078 : Unit := ()
def PySem.W.Fast.tw2244103112122482387 : Unit := ()
def PySem.W.Fast.tw15235614512728720 : Unit := ()
def PySem.W.Fast.tw18031968618487185184 : Unit := ()
def PySem.W.Fast.tw5000232492035539693 : Unit := ()
def PySem.W.Fast.tw4171853373547519906 : Unit := ()
def PySem.W.Fast.tw5467331546851215429 : Unit := ()
def PySem.W.Fast.tw9387514328989991554 : Unit := ()
def PySem.W.Fast.tw5323657890516693427 : Unit := ()
def PySem.W.Fast.tw15401437161963490237 : Unit := ()
def PySem.W.Fast.tw5217270863462422736 : Unit := ()
def PySem.W.Fast.tw16636501806038632012 : Unit := ()
def PySem.W.Fast.tw16217903435359918192 : Unit := ()
def PySem.W.Fast.tw2259672571474061568 : Unit := ()
def PySem.W.Fast.tw5344687154915797982 : Unit := ()
def PySem.W.Fast.tw1158361714356455011 : Unit := ()
def PySem.W.Fast.tw2570914705882880060 : Unit := ()
def PySem.W.Fast.tw10792498714594961201 : Unit := ()
def PySem.W.Fast.tw13462424878891718212 : Unit := ()
def PySem.W.Fast.tw8222940686941784037 : Unit := ()
def PySem.W.Fast.tw2358075552688931204 : Unit := ()
def PySem.W.Fast.tw7001957589650049515 : Unit := ()
def PySem.W.Fast.tw16203965252921439515 : Unit := ()
def PySem.W.Fast.tw4483904966330829159 : Unit := ()
def PySem.W.Fast.tw6968137755033780318 : Unit := ()
def PySem.W.Fast.tw2694234056635809718 : Unit := ()
def PySem.W.Fast.tw12459912946257978736 : Unit := ()
def PySem.W.Fast.tw6105849179199505303 : Unit := ()
def PySem.W.Fast.tw4884199854448574 : Unit := ()
def PySem.W.Fast.tw8995945545434573385 : Unit := ()
def PySem.W.Fast.tw16615150188913437886 : Unit := ()
def PySem.W.Fast.tw15805137534098808535 : Unit := ()
set_option maxRecDepth 100000
set_option maxHeartbeats 0
open_top hd for PySem.Challenge.rw_ringheaps_k41_labels_found
set_option maxRecDepth 100000 in
set_option maxHeartbeats 0 in
theorem PySem.Challenge.cw_ringheaps_k41_labels_found_holds : PySem.Challenge.rw_ringheaps_k41_labels_found.Holds := by
 refine hd ?_
 k_fill
 refine Rh.walk (l:=PySem.Challenge.rw_ringheaps_k41_labels_found) rfl rfl (λw h Y=>PySem.W.kIn_of Y) ?F
 case F=>
   intro w mg fa h KX G hmg
   refine' Rh.all_mk KX G hmg ?_ ?_ ?_ ?_ ?_ ?_ ?_ ?_ ?_ ?_ ?_ ?_ ?_ ?_ ?_ ?_ ?_ ?_ ?_ ?_ ?_ ?_ ?_ ?_ ?_ ?_ ?_ ?_ ?_ ?_ ?_ ?_ ?_ ?_ ?_ ?_ ?_ ?_ ?_ ?_ ?_ ?_ ?_ ?_ ?_ ?_ ?_ ?_ ?_ ?_ ?_ ?_ ?_ ?_ ?_ ?_ ?_ ?_ ?_ ?_ ?_ ?_ ?_ ?_ ?_ ?_ ?_ ?_ ?_ ?_ ?_ ?_ ?_ ?_ ?_ ?_ ?_ ?_ ?_ ?_ ?_ ?_ ?_ ?_ ?_ ?_ ?_ ?_ ?_ ?_ ?_ ?_ ?_ ?_ ?_ ?_ ?_ ?_ ?_ ?_ ?_ ?_ ?_ ?_ ?_ ?_ ?_ ?_ ?_ ?_ ?_ ?_ ?_ ?_ ?_ ?_ ?_ ?_ ?_ ?_ ?_ ?_ ?_ ?_ ?_ ?_ ?_ ?_ ?_ ?_ ?_ ?_ ?_ ?_ ?_ ?_ ?_ ?_ ?_ ?_ ?_ ?_
   any_goals first | (apply Rh.HF.mk'<;>k_is) | (apply Rh.MF.mk'<;>k_is) | k_is | kernel_rfl | rfl | decide
