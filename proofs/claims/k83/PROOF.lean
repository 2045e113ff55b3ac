import PyProof.Rows.All
import Wide.All
import OpenK.AllK
import Wide.FinOn
import Lean
import PyProof.EqAt
import PyProof.EqKinds
import PyProof.TupleCall
import PySem.Challenge.RW_ringheaps_k83_grounds_joined_and_paired
set_option Elab.async false
set_option linter.all false
set_option maxRecDepth 100000
namespace L2
open PySem PySem.Spec PyProof.Rows
abbrev qN:=Sum Int Str
def zu:qN->Value->Bool
 | .inl k,v=>Value.isInt k v
 | .inr x,v=>Value.isStrOf x v
def Gu (w:World):qN->Int
 | .inl k=>hashInt k
 | .inr x=>hashStr w x
theorem jg:∀{k:qN} {v:Value},zu k v=true->(∃i t,k=Sum.inl i/\v=Value.int i t)\/(∃x t,k=Sum.inr x/\v=Value.str x t)
 | .inl i,v,h=>by
   obtain⟨t,e⟩:=Value.isInt_shape (k:=i) (v:=v) h
   exact .inl ⟨i,t,rfl,e⟩
 | .inr x,v,h=>by
   obtain⟨t,e⟩:=Value.isStrOf_shape (x:=x) (v:=v) h
   exact .inr ⟨x,t,rfl,e⟩
theorem V9 (i:Int) (t:Tok):zu (.inl i) (.int i t)=true:=by simp [zu,Value.isInt]
theorem V8 (x:Str) (t:Tok):zu (.inr x) (.str x t)=true:=by simp [zu,Value.isStrOf]
theorem wD (a b:Int):decide ((Sum.inl a:qN)=Sum.inl b)=(a==b):=by
 by_cases e:a=b
 . subst e;simp
 . have h:¬(Sum.inl a:qN)=Sum.inl b:=λq=>e (Sum.inl.inj q)
   rw[decide_eq_false h]
   exact(beq_eq_false_iff_ne.mpr e).symm
theorem wA (a b:Str):decide ((Sum.inr a:qN)=Sum.inr b)=decide (a=b):=by
 by_cases e:a=b
 . subst e;simp
 . have h:¬(Sum.inr a:qN)=Sum.inr b:=λq=>e (Sum.inr.inj q)
   rw[decide_eq_false h,decide_eq_false e]
theorem wC (a:Int) (b:Str):decide ((Sum.inl a:qN)=Sum.inr b)=false:=decide_eq_false (λq=>nomatch q)
theorem wB (a:Str) (b:Int):decide ((Sum.inr a:qN)=Sum.inl b)=false:=decide_eq_false (λq=>nomatch q)
def qY (prog:Program) (w:World):PySem.KeyKind prog w qN where
 is:=zu
 hash:=Gu w
 inj:=λv a b ha hb=>by
   rcases jg ha with ⟨i,t,rfl,rfl⟩ | ⟨x,t,rfl,rfl⟩
   . rcases jg hb with ⟨j,u,rfl,e⟩ | ⟨y,u,rfl,e⟩
     . injection e with e1 _;rw[e1]
     . exact nomatch e
   . rcases jg hb with ⟨j,u,rfl,e⟩ | ⟨y,u,rfl,e⟩
     . exact nomatch e
     . injection e with e1 _;rw[e1]
 byValue:=λk v h=>by
   rcases jg h with ⟨i,t,rfl,rfl⟩ | ⟨x,t,rfl,rfl⟩<;>rfl
 pyHash:=λhv h=>by
   rcases jg hv with ⟨i,t,rfl,rfl⟩ | ⟨x,t,rfl,rfl⟩
   . exact wpAny_pyHash_int h
   . exact wpAny_pyHash_str h
 eqBool:=λhu hv h=>by
   rcases jg hu with ⟨i,t,rfl,rfl⟩ | ⟨x,t,rfl,rfl⟩
   . rcases jg hv with ⟨j,u,rfl,rfl⟩ | ⟨y,u,rfl,rfl⟩
     . rw[wD]at h;exact wpAny_eqBool_int h
     . rw[wC]at h;exact SeqAt.EqAt.int_str i t y u _ _ _ _ h
   . rcases jg hv with ⟨j,u,rfl,rfl⟩ | ⟨y,u,rfl,rfl⟩
     . rw[wB]at h;exact SeqAt.EqAt.str_int x t j u _ _ _ _ h
     . rw[wA]at h;exact wpAny_eqBool_str h
 «strs»:=λk x t v h=>by
   rcases jg h with ⟨i,u,rfl,e⟩ | ⟨y,u,rfl,e⟩
   . exact nomatch e
   . injection e with e1 _
     subst e1
     cases v<;>rfl
theorem Xx (prog:Program) (w:World) (i:Int) (t:Tok):(qY prog w).is (.inl i) (.int i t)=true:=V9 i t
theorem Xw (prog:Program) (w:World) (x:Str) (t:Tok):(qY prog w).is (.inr x) (.str x t)=true:=V8 x t
end L2
namespace L2
open PySem PySem.Spec PyProof.Rows
inductive V where
 | non | bl (b:Bool) | int (i:Int) | str (x:Str) | byt (b:Array UInt8) | flt (b:UInt64) | ref (a:Addr) | ty (n:String)
 deriving DecidableEq
def qO:V->Value->Prop
 | .non,u=>u=Value.none
 | .bl b,u=>u=Value.bool b
 | .int i,u=>∃t,u=Value.int i t
 | .str x,u=>∃t,u=Value.str x t
 | .byt b,u=>∃t,u=Value.bytes b t
 | .flt b,u=>∃t,u=Value.float b t
 | .ref a,u=>u=Value.ref a
 | .ty n,u=>u=Value.type n
abbrev qD:List V->List Value->Prop:=Paired qO
theorem qD.length {xs:List V} {us:List Value} (r:qD xs us):xs.length=us.length:=Paired.length r
theorem qD.get:∀{xs:List V} {us:List Value} {i:Nat} {x:V},qD xs us->xs[i]?=some x->∃u,us[i]?=some u/\qO x u
 | _,_,_,_,.nil,e=>by simp at e
 | _,_,0,_,.cons r _,e=>by simp at e;subst e;exact⟨_,rfl,r⟩
 | _,_,i+1,x,.cons _ t,e=>by
   obtain⟨u,h1,h2⟩:=qD.get (i:=i) (x:=x) t (by simpa using e)
   exact⟨u,by simpa using h1,h2⟩
theorem qD.append:∀{xs ys:List V} {us ws:List Value},qD xs us->qD ys ws->qD (xs++ys) (us++ws)
 | _,_,_,_,.nil,s=>s
 | _,_,_,_,.cons r t,s=>.cons r (qD.append t s)
theorem qD.take:∀{xs:List V} {us:List Value} (n:Nat),qD xs us->qD (xs.take n) (us.take n)
 | _,_,0,_=>.nil
 | _,_,_+1,.nil=>.nil
 | _,_,n+1,.cons r t=>.cons r (qD.take n t)
theorem qD.drop:∀{xs:List V} {us:List Value} (n:Nat),qD xs us->qD (xs.drop n) (us.drop n)
 | _,_,0,r=>r
 | _,_,_+1,.nil=>.nil
 | _,_,n+1,.cons _ t=>qD.drop n t
theorem qD.none_of:∀{xs:List V} {us:List Value} {i:Nat},qD xs us->xs[i]?=none->us[i]?=none:=λ{xs us i} r e=>by
 have h1:=r.length
 have h2:xs.length<=i:=List.getElem?_eq_none_iff.mp e
 exact List.getElem?_eq_none_iff.mpr (by omega)
def Q4:Option V->Option Value->Prop
 | some v,some u=>qO v u
 | none,none=>True
 | _,_=>False
def KV {κ:Type}:List (κ×V)->List (κ×Value)->Prop:=Paired λ(p:κ×V) (q:κ×Value)=>p.1=q.1/\qO p.2 q.2
def kV:qN->V
 | .inl i=>.int i
 | .inr x=>.str x
inductive HO where
 | lst (xs:List V)
 | tup (xs:List V)
 | dK (kvs:List (qN×V)) | dT (kvs:List (List qN×V))
 | set (S:Int->Bool) (n:Nat)
 | ins (C dx:Addr) (fs:List (Str×V))
 | own (x:Addr)
 | xd (fs:List (Str×V))
 | met (f x:Addr)
 | rng (lo hi:Int)
 | frz (o:Obj) (u:HO)
 | tbl (ps:Array Value)
 | ext (φ:Heap->Prop)
abbrev Hp:=Addr->Option HO
def upd (H:Hp) (a:Addr) (o:HO):Hp:=λb=>if b=a then some o else H b
theorem qd {H:Hp} {a:Addr} {o:HO}:upd H a o a=some o:=by unfold upd;rw[if_pos rfl]
theorem qf {H:Hp} {a b:Addr} {o:HO} (h:b≠a):upd H a o b=H b:=by unfold upd;rw[if_neg h]
theorem jw {H:Hp} {a:Addr} {o u:HO}:upd (upd H a o) a u=upd H a u:=by
 funext b;unfold upd;split<;>rfl
theorem Kd {H:Hp} {a b:Addr} {o u:HO} (h:H a=some o) (h':H b=some u) (d:o≠u):a≠b:=by
 intro e;subst e;rw[h]at h';exact d (Option.some.inj h')
theorem ql {H:Hp} {a b:Addr} {o:HO} (h:H a=some o) (h':H b=none):a≠b:=by
 intro e;subst e;rw[h]at h';cases h'
section
variable (P:Program) (w:World)
def qC (H:Hp) (h:Heap) (a:Addr):HO->Prop
 | .lst xs=>xs.length<=sizeLine/\∃(its:List Value) (n:Nat),qD xs its/\h.get? a=some {cls:=.type "list",data:=.seq its.toArray n}
 | .tup xs=>xs.length<=sizeLine/\∃its:List Value,qD xs its/\IsTup h a its.toArray
 | .dK kvs=>kvs.length<=sizeLine/\(a==sysModules)=false/\∃vs,KV kvs vs/\h.DictOf (qY P w) a vs
 | .dT kvs=>kvs.length<=sizeLine/\(a==sysModules)=false/\∃xs:List (List qN×Addr×Value),
     Paired (λ(p:List qN×V) (q:List qN×Addr×Value)=>p.1=q.1/\H q.2.1=some (.tup (p.1.map kV))/\qO p.2 q.2.2) kvs xs/\
     ∃o es ep,h.get? a=some o/\o.ExactDict/\o.data=.dict es ep/\es.toList=xs.map (entryOfKey (tupleKind (qY P w)))/\(xs.map (·.1)).Nodup
 | .set S n=>h.SetOf (intKind P w) a S n
 | .ins C dx fs=>H dx=some (.own a)/\fs.length<=1000/\dx≠a/\h.get? a=some (PySem.W.instObj C dx)/\
     ∃mA,h.Ns1 dx mA/\(∀f,Q4 (fs.lookup f) (mA f))/\PySem.Within mA (fs.map (·.1))
 | .own _=>∃o,h.get? a=some o
 | .xd fs=>∃mA,h.Ns1 a mA/\∀f,Q4 (fs.lookup f) (mA f)
 | .rng lo hi=>∃t u v,h.get? a=some {cls:=.type "range",data:=.fields #[.int lo t,.int hi u,.int 1 v]}
 | .frz o u=>h.get? a=some o/\qC H h a u
 | .tbl ps=>h.get? a=some {cls:=.none,data:=.fields ps}
 | .met f x=>h.get? a=some (PySem.W.methodObj (.ref f) (.ref x))
 | .ext φ=>φ h/\(∃o,h.get? a=some o)/\∀h1 h2:Heap,φ h1->(∀o,h1.get? a=some o->h2.get? a=some o)->φ h2
def QZ (H:Hp) (h:Heap):Prop:=∀a o,H a=some o->qC P w H h a o
end
section
variable {P:Program} {w:World} {H H':Hp} {h h':Heap} {a:Addr} {o:HO}
theorem qC.lt (x:qC P w H h a o):a < h.objs.size:=by
 cases o with
 | lst xs=>obtain⟨_,_,_,_,e⟩:=x;exact Heap.lt_size e
 | tup xs=>obtain⟨_,_,_,p⟩:=x;exact p.lt
 | dK kvs=>obtain⟨_,_,_,_,o,_,_,e,_⟩:=x;exact Heap.lt_size e
 | dT kvs=>obtain⟨_,_,_,_,o,_,_,e,_⟩:=x;exact Heap.lt_size e
 | set S n=>obtain⟨o,_,_,_,e,_⟩:=x;exact Heap.lt_size e
 | ins C dx fs=>obtain⟨_,_,_,e,_⟩:=x;exact Heap.lt_size e
 | own y=>obtain⟨_,e⟩:=x;exact Heap.lt_size e
 | xd fs=>obtain⟨_,⟨_,_,_,e,_⟩,_⟩:=x;exact Heap.lt_size e
 | rng lo hi=>obtain⟨_,_,_,e⟩:=x;exact Heap.lt_size e
 | frz ob u=>obtain⟨e,_⟩:=x;exact Heap.lt_size e
 | tbl ps=>exact Heap.lt_size (show h.get? a=some _ from x)
 | met f y=>exact Heap.lt_size (show h.get? a=some _ from x)
 | ext φ=>obtain⟨_,⟨_,e⟩,_⟩:=x;exact Heap.lt_size e
theorem Paired.mapP {α β:Type} {F G:α->β->Prop}:∀{l₁:List α} {l₂:List β},Paired F l₁ l₂->(∀a b,F a b->G a b)->Paired G l₁ l₂
 | _,_,.nil,_=>.nil
 | _,_,.cons r t,f=>.cons (f _ _ r) (Paired.mapP t f)
theorem qC.stay (x:qC P w H h a o) (k:∀b u,(b=a\/H b=some (.own a))->h.get? b=some u->h'.get? b=some u)
   (ho:∀b,H b=some (.own a)->H' b=some (.own a)) (ht:∀b xs,H b=some (.tup xs)->H' b=some (.tup xs)):qC P w H' h' a o:=by
 induction o with
 | lst xs=>obtain⟨z,its,n,r,e⟩:=x;exact⟨z,its,n,r,k _ _ (.inl rfl) e⟩
 | tup xs=>obtain⟨z,its,r,ob,e,c⟩:=x;exact⟨z,its,r,ob,k _ _ (.inl rfl) e,c⟩
 | dK kvs=>obtain⟨z,y,vs,r,ob,es,ep,e,c⟩:=x;exact⟨z,y,vs,r,ob,es,ep,k _ _ (.inl rfl) e,c⟩
 | dT kvs=>
   obtain⟨z,y,xs,r,ob,es,ep,e,c⟩:=x
   exact⟨z,y,xs,Paired.mapP r λp q z=>⟨z.1,ht _ _ z.2.1,z.2.2⟩,ob,es,ep,k _ _ (.inl rfl) e,c⟩
 | set S n=>obtain⟨ob,es,ep,t,e,c⟩:=x;exact⟨ob,es,ep,t,k _ _ (.inl rfl) e,c⟩
 | ins C dx fs=>
   obtain⟨d,z,ne,e,mA,⟨od,es,ep,e2,c⟩,r⟩:=x
   exact⟨ho _ d,z,ne,k _ _ (.inl rfl) e,mA,⟨od,es,ep,k _ _ (.inr d) e2,c⟩,r⟩
 | own y=>obtain⟨ob,e⟩:=x;exact⟨ob,k _ _ (.inl rfl) e⟩
 | xd fs=>obtain⟨mA,⟨od,es,ep,e,c⟩,r⟩:=x;exact⟨mA,⟨od,es,ep,k _ _ (.inl rfl) e,c⟩,r⟩
 | rng lo hi=>obtain⟨t,u,v,e⟩:=x;exact⟨t,u,v,k _ _ (.inl rfl) e⟩
 | frz ob u ih=>obtain⟨e,q⟩:=x;exact⟨k _ _ (.inl rfl) e,ih q⟩
 | tbl ps=>
   have e:h.get? a=some {cls:=.none,data:=.fields ps}:=x
   show h'.get? a=some {cls:=.none,data:=.fields ps}
   exact k a _ (.inl rfl) e
 | met f y=>
   have e:h.get? a=some (PySem.W.methodObj (.ref f) (.ref y)):=x
   show h'.get? a=some (PySem.W.methodObj (.ref f) (.ref y))
   exact k a _ (.inl rfl) e
 | ext φ=>obtain⟨p,⟨o,e⟩,st⟩:=x;exact⟨st _ _ p λo q=>k _ _ (.inl rfl) q,⟨o,k _ _ (.inl rfl) e⟩,st⟩
theorem QZ.lt (x:QZ P w H h) (e:H a=some o):a < h.objs.size:=(x a o e).lt
theorem QZ.fresh (x:QZ P w H h) (e:h.objs.size<=a):H a=none:=by
 cases q:H a with
 | none=>rfl
 | some u=>exact absurd (Nat.lt_of_lt_of_le (x.lt q) e) (Nat.lt_irrefl _)
theorem QZ.kept (x:QZ P w H h) (k:∀b u,h.get? b=some u->h'.get? b=some u):QZ P w H h':=λa o e=>
 (x a o e).stay (λb u _ q=>k b u q) (λ_ q=>q) λ_ _ q=>q
theorem QZ.laid (x:QZ P w H h) (k:∀b u,h.get? b=some u->h'.get? b=some u) (hp:h.objs.size<=a) (new:qC P w (upd H a o) h' a o):QZ P w (upd H a o) h':=λb u e=>by
 have hn:=x.fresh hp
 by_cases hb:b=a
 . subst hb;rw[qd]at e;cases e;exact new
 . rw[qf hb]at e
   exact(x b u e).stay (λc v _ q=>k c v q) (λc q=>by rw[qf (ql q hn)];exact q) λc xs q=>by rw[qf (ql q hn)];exact q
end
def Rd (H:Hp) (a:Addr) (u:HO):Prop:=H a=some u\/∃o,H a=some (.frz o u)
theorem Rd.ok {P:Program} {w:World} {H:Hp} {h:Heap} {a:Addr} {u:HO} (r:Rd H a u) (x:QZ P w H h):qC P w H h a u:=by
 rcases r with r | ⟨o,r⟩
 . exact x a u r
 . obtain⟨_,q⟩:=x a _ r
   exact q
def wV:Option HO->Prop
 | some (.lst _)=>True
 | some (.dK _)=>True
 | some (.dT _)=>True
 | some (.set _ _)=>True
 | some (.ins _ _ _)=>True
 | some (.ext _)=>True
 | _=>False
section
variable {P:Program} {w:World} {H:Hp} {h h':Heap} {x e:Addr} {o':HO}
theorem QZ.write (ok:QZ P w H h) (mu:wV (H x)) (he:e=x\/H e=some (.own x)) (k:∀b u,b≠e->h.get? b=some u->h'.get? b=some u) (heo:∃u,h'.get? e=some u)
   (new:qC P w (upd H x o') h' x o'):QZ P w (upd H x o') h':=λb u q=>by
 have nown:∀c y,H c=some (.own y)->c≠x:=λc y r z=>by subst z;rw[r]at mu;exact mu
 have ntup:∀c xs,H c=some (.tup xs)->c≠x:=λc xs r z=>by subst z;rw[r]at mu;exact mu
 by_cases hb:b=x
 . subst hb;rw[qd]at q;cases q;exact new
 . rw[qf hb]at q
   by_cases hbe:b=e
   . have q':H b=some (.own x):=by
       rcases he with z | z
       . exact absurd (hbe.trans z) hb
       . rw[hbe];exact z
     rw[q]at q';cases q'
     obtain⟨v,hv⟩:=heo
     exact⟨v,by rw[hbe];exact hv⟩
   . refine(ok b u q).stay (λc v hc r=>k c v ?_ r) (λc r=>by rw[qf (nown c b r)];exact r) λc xs r=>by rw[qf (ntup c xs r)];exact r
     rcases hc with rfl | hc
     . exact hbe
     . rintro rfl
       rcases he with z | z
       . exact nown c b hc z
       . rw[hc]at z;cases z;exact hb rfl
end
structure Un (fs ex:List Addr) (H H':Hp) (h h':Heap):Prop where
 keep:∀b o,h.get? b=some o->H b=none->b∉fs->b∉ex->h'.get? b=some o
 slot:∀b o,h.get? b=some o->H b=none->b∈fs->b∉ex->∃sl,h'.get? b=some {o with slots:=sl}
 free:∀b o,h.get? b=some o->H b=none->b∉ex->H' b=none
 there:∀b o,h.get? b=some o->b∉ex->∃o',h'.get? b=some o'
 tups:∀b xs,H b=some (.tup xs)->H' b=some (.tup xs)
 frzs:∀b o u,H b=some (.frz o u)->H' b=some (.frz o u)
 tbls:∀b ps,H b=some (.tbl ps)->∃more,H' b=some (.tbl (ps++more))
section
variable {fs fs' ex ex':List Addr} {H H1 H2:Hp} {h h1 h2 h':Heap} {a x e:Addr} {o:HO}
theorem Un.any (u:Un fs ex H H1 h h1) {b:Addr} {ob:Obj} (q:h.get? b=some ob) (n:H b=none) (hx:b∉ex):∃sl,h1.get? b=some {ob with slots:=sl}:=by
 by_cases hb:b∈fs
 . exact u.slot b ob q n hb hx
 . exact⟨ob.slots,u.keep b ob q n hb hx⟩
theorem Un.kept (k:∀b u,h.get? b=some u->h'.get? b=some u):Un fs ex H H h h':=
 ⟨λb ob q _ _ _=>k b ob q,λb ob q _ _ _=>⟨ob.slots,k b ob q⟩,λ_ _ _ n _=>n,λb ob q _=>⟨ob,k b ob q⟩,λ_ _ q=>q,λ_ _ _ q=>q,λ_ ps q=>⟨#[],by rw[q];simp⟩⟩
theorem Un.refl:Un fs ex H H h h:=Un.kept λ_ _ q=>q
theorem Un.laid (k:∀b u,h.get? b=some u->h'.get? b=some u) (hp:h.objs.size<=a) (hn:H a=none):Un fs ex H (upd H a o) h h' where
 keep:=λb u q _ _ _=>k b u q
 slot:=λb u q _ _ _=>⟨u.slots,k b u q⟩
 free:=λb u q n _=>by rw[qf (Nat.ne_of_lt (Nat.lt_of_lt_of_le (Heap.lt_size q) hp))];exact n
 there:=λb u q _=>⟨u,k b u q⟩
 tups:=λb xs q=>by rw[qf (ql q hn)];exact q
 frzs:=λb u xs q=>by rw[qf (ql q hn)];exact q
 tbls:=λb ps q=>⟨#[],by rw[qf (ql q hn),q];simp⟩
theorem Un.write (mu:wV (H x)) (he:e=x\/H e=some (.own x)) (k:∀b u,b≠e->h.get? b=some u->h'.get? b=some u) (heo:∃u,h'.get? e=some u):Un fs ex H (upd H x o) h h':=by
 have hx:∀b,H b=none->b≠x:=λb n z=>by subst z;rw[n]at mu;exact mu
 have hb:∀b,H b=none->b≠e:=λb n z=>by
   subst z
   rcases he with r | r
   . exact hx b n r
   . rw[n]at r;cases r
 have hm:∀b u,H b=some u->¬wV (some u)->b≠x:=λb u q nm z=>by subst z;rw[q]at mu;exact nm mu
 refine⟨λb u q n _ _=>k b u (hb b n) q,λb u q n _ _=>⟨u.slots,k b u (hb b n) q⟩,λb u q n _=>by rw[qf (hx b n)];exact n,λb u q _=>?_,
   λb xs q=>by rw[qf (hm b _ q λz=>z)];exact q,λb u xs q=>by rw[qf (hm b _ q λz=>z)];exact q,λb ps q=>⟨#[],by rw[qf (hm b _ q λz=>z),q];simp⟩⟩
 by_cases hbe:b=e
 . subst hbe;exact heo
 . exact⟨u,k b u hbe q⟩
end
def KJ (h:Heap) (H:Hp):List Addr:=(List.range h.objs.size).filter λa=>(H a).isSome
def YU (h:Heap) (H:Hp):Heap:=PySem.W.hideAll h (KJ h H)
theorem Ug (h:Heap) (H:Hp):(YU h H).objs.size=h.objs.size:=PySem.W.hideAll_size _ _
theorem ke {h:Heap} {H:Hp} {b:Addr} {o:Obj} (e:h.get? b=some o) (n:H b=none):(YU h H).get? b=some o:=
 PySem.W.hideAll_get _ e λhm=>by
   have q:(H b).isSome=true:=(List.mem_filter.mp hm).2
   rw[n]at q;simp at q
theorem yz {h:Heap} {H:Hp} {b:Addr} {o:Obj} (e:(YU h H).get? b=some o):h.get? b=some o/\H b=none:=by
 have e':h.get? b=some o:=PySem.W.of_hideAll (KJ h H) e
 refine⟨e',?_⟩
 cases q:H b with
 | none=>rfl
 | some x=>
   have hm:b∈KJ h H:=List.mem_filter.mpr ⟨List.mem_range.mpr (Heap.lt_size e'),by simp [q]⟩
   have z:(YU h H).get? b=none:=PySem.W.hideAll_none (KJ h H) hm
   rw[z]at e;cases e
def y4 (g h:Heap) (L:Addr):List (Addr×Obj):=(List.range h.objs.size).filterMap λa=>if a=L\/(g.get? a).isSome=true then none else (h.get? a).map λo=>(a,o)
def rest (g h:Heap) (L d:Addr):List (Addr×Obj):=(y4 g h L).filter λp=>decide (p.1≠d)
end L2
namespace L2
open PySem PySem.Spec PyProof.Rows
structure Mod (K:PySem.W.Frag) (mg:Str->Option Value) (base:Heap):Prop where
 kin:K.In base
 glob:base.Ns mainGlobals mg
 blt:∃mb,base.Ns builtinsNs mb/\∀x:Str,x≠"__name__"->mb x=bootBuiltins x
 nolimit:base.NoLimit
structure Cx where
 prog:Program
 w:World
 K:PySem.W.Frag
 mg:Str->Option Value
 base:Heap
 A:Around
 N:List Str
 s₀:Shared
 H₀:Hp
 env:Env
 outer:List Env
 stack:List Env
 ex:List Addr
 fn:Str->Bool
 calm:Bool
 pn:List (Addr×Obj)
 xe:Value->Shared->Prop
def Zv (l:List Env):List Addr:=l.filterMap (·.frame)
abbrev Cx.fs (X:Cx):List Addr:=Zv X.outer
def ug (sc:Scope) (x:Str):Prop:=sc.names.lookup x=some .local\/sc.names.lookup x=some .cell\/sc.names.lookup x=some .free
def uj (sc:Scope) (x:Str):Prop:=sc.names.lookup x=some .local\/sc.names.lookup x=some .cell
def GG (env:Env) (h:Heap) (m:Str->Option Value) (x:Str) (u:Value):Prop:=
 (env.kindOf x=some .local/\m x=some u)\/((env.kindOf x=some .cell\/env.kindOf x=some .free)/\∃c,env.cells.lookup x=some c/\h.IsCell c (some u))
structure Cx.Ok (X:Cx):Prop where
 mod:Mod X.K X.mg X.base
 kind:X.env.scope.kind=.function
 glob:X.env.globals=mainGlobals
 blt:X.env.builtins=builtinsNs
 above:X.s₀.heap.objs.size<=X.env.locals
 inj:∀x y c,X.env.cells.lookup x=some c->X.env.cells.lookup y=some c->x=y
 has:∀x,(X.env.kindOf x=some .cell\/X.env.kindOf x=some .free)->∃c,X.env.cells.lookup x=some c
 cab:∀x c,X.fn x=true->X.env.cells.lookup x=some c->X.s₀.heap.objs.size<=c
 hd:X.calm=true->X.A.handled=none
 frames:X.A.frames=some X.stack
 stk:X.stack=X.outer\/(X.stack=X.env::X.outer/\X.env.frame=some X.env.locals)
 exf:∀b∈X.ex,b≠X.env.locals/\∀x c,X.env.cells.lookup x=some c->c≠b
 bs:∀b o,X.base.get? b=some o->X.s₀.heap.get? b=some o/\X.H₀ b=none
 bsz:X.base.objs.size<=X.s₀.heap.objs.size
 noex:∀b o,X.base.get? b=some o->b∉X.ex
 exfs:∀b∈X.ex,b∉X.fs
 funs:X.s₀.heap.FunFrames X.base X.outer
 frf:∀b∈X.fs,X.H₀ b=none
structure qw (X:Cx) (pins:List (Addr×Obj)) (σ:List (Option V)) (H:Hp) (s:Shared):Prop where
 ok:X.Ok
 os:s.os=X.s₀.os
 bare:AllBare s.gens
 base:Un X.fs X.ex X.H₀ H X.s₀.heap s.heap
 loc:∃m,s.heap.Ns X.env.locals m/\∀(i:Nat) (x:Str) (v:V),X.N[i]?=some x->σ[i]?=some (some v)->ug X.env.scope x->∃u,qO v u/\GG X.env s.heap m x u
 cell:∀x c,X.env.cells.lookup x=some c->∃v,s.heap.IsCell c v
 free:H X.env.locals=none
 freeC:∀x c,X.env.cells.lookup x=some c->H c=none
 pin:∀p∈X.pn++pins,s.heap.get? p.1=some p.2/\H p.1=none/\p.1≠X.env.locals/\p.1∉X.fs/\∀v,p.2.data≠.cell v
 hok:QZ X.prog X.w H s.heap
 len:σ.length=X.N.length
section
variable {X:Cx} {pins:List (Addr×Obj)} {σ:List (Option V)} {H H':Hp} {s:Shared} {h':Heap}
theorem Cx.Ok.nofr (ok:X.Ok) {b:Addr} {o:Obj} (e:X.base.get? b=some o):b∉X.fs:=λhb=>by
 have:=(ok.funs.mem hb).1
 rw[e]at this;cases this
theorem qw.bs (I:qw X pins σ H s):∀b o,X.base.get? b=some o->s.heap.get? b=some o/\H b=none:=λb o e=>
 ⟨I.base.keep b o (I.ok.bs b o e).1 (I.ok.bs b o e).2 (I.ok.nofr e) (I.ok.noex b o e),I.base.free b o (I.ok.bs b o e).1 (I.ok.bs b o e).2 (I.ok.noex b o e)⟩
theorem qw.bk (I:qw X pins σ H s):∀b o,X.base.get? b=some o->s.heap.get? b=some o:=λb o e=>(I.bs b o e).1
theorem qw.mod (I:qw X pins σ H s):Mod X.K X.mg X.base:=I.ok.mod
theorem qw.kIn (I:qw X pins σ H s):X.K.In s.heap:=I.ok.mod.kin.keeps I.bk
theorem qw.lt (I:qw X pins σ H s):X.env.locals < s.heap.objs.size:=let ⟨_,hn,_⟩:=I.loc;hn.lt
theorem qw.sz (I:qw X pins σ H s):X.s₀.heap.objs.size<=s.heap.objs.size:=Nat.le_trans I.ok.above (Nat.le_of_lt I.lt)
theorem qw.nofs (I:qw X pins σ H s) {a:Addr} (h:s.heap.objs.size<=a):a∉X.fs:=λhb=>by
 obtain⟨_,o,ho,_⟩:=I.ok.funs.mem hb
 exact absurd (Nat.lt_of_lt_of_le (Heap.lt_size ho) (Nat.le_trans I.sz h)) (Nat.lt_irrefl _)
theorem qw.cne (I:qw X pins σ H s):∀x c,X.env.cells.lookup x=some c->c≠X.env.locals:=λx c e z=>by
 obtain⟨v,o,ho,hd⟩:=I.cell x c e
 obtain⟨m,⟨o',es,ep,ho',hd',_⟩,_⟩:=I.loc
 rw[z,ho']at ho;cases ho;rw[hd']at hd;cases hd
theorem qw.funs (I:qw X pins σ H s):s.heap.FunFrames X.base X.outer:=by
 have all:∀(l:List Env),(∀b∈Zv l,b∈X.fs)->X.s₀.heap.FunFrames X.base l->s.heap.FunFrames X.base l:=by
   intro l
   induction l with
   | nil=>intro _ _;trivial
   | cons env r ih=>
     intro hs hl
     obtain⟨hk,⟨L,o,hf,hn,ho,hd⟩,hr⟩:=hl
     have hL:L∈X.fs:=hs L (by unfold Zv;rw[List.filterMap_cons,hf];exact List.mem_cons_self)
     obtain⟨sl,e⟩:=I.base.slot L o ho (I.ok.frf L hL) hL λz=>I.ok.exfs L z hL
     exact⟨hk,⟨L,_,hf,hn,e,hd⟩,ih (λb hb=>hs b (by unfold Zv;rw[List.filterMap_cons,hf];exact List.mem_cons_of_mem _ hb)) hr⟩
 exact all X.outer (λ_ hb=>hb) I.ok.funs
theorem qw.stack (I:qw X pins σ H s):s.heap.FunFrames X.base X.stack:=by
 rcases I.ok.stk with e | ⟨e,hf⟩
 . rw[e];exact I.funs
 . rw[e]
   obtain⟨m,hn,_⟩:=I.loc
   refine .cons (by rw[I.ok.kind];decide) hf hn ?_ I.funs
   exact Heap.get?_none_of_le (Nat.le_trans I.ok.bsz I.ok.above)
theorem qw.stkSub (I:qw X pins σ H s):∀b∈Zv X.stack,b∈X.env.locals::X.fs:=λb hb=>by
 rcases I.ok.stk with e | ⟨e,hf⟩
 . rw[e]at hb;exact List.mem_cons_of_mem _ hb
 . rw[e]at hb
   unfold Zv at hb
   rw[List.filterMap_cons,hf]at hb
   exact hb
theorem qw.stkFree (I:qw X pins σ H s):∀b∈Zv X.stack,H b=none:=λb hb=>by
 rcases List.mem_cons.mp (I.stkSub b hb) with e | hb
 . rw[e];exact I.free
 . obtain⟨_,o,ho,_⟩:=I.ok.funs.mem hb
   exact I.base.free b o ho (I.ok.frf b hb) λz=>I.ok.exfs b z hb
theorem qw.step {g':Array GenState} {t':Nat} {d':Drawn} {ch:List Addr} (I:qw X pins σ H s)
   (hch:∀b∈ch,(b∈X.ex\/X.s₀.heap.objs.size<=b)/\b≠X.env.locals/\(∀x c,X.env.cells.lookup x=some c->c≠b)/\∀p∈X.pn++pins,p.1≠b)
   (keep:∀b o,b≠X.env.locals->b∉X.fs->b∉ch->s.heap.get? b=some o->H b=none->h'.get? b=some o)
   (slot:∀b o,b≠X.env.locals->b∈X.fs->b∉ch->s.heap.get? b=some o->H b=none->∃sl,h'.get? b=some {o with slots:=sl}) (free:∀b o,b∉ch->s.heap.get? b=some o->H b=none->H' b=none)
   (there:∀b o,b∉ch->s.heap.get? b=some o->∃o',h'.get? b=some o')
   (tups:∀b xs,H b=some (.tup xs)->H' b=some (.tup xs)) (frzs:∀b o u,H b=some (.frz o u)->H' b=some (.frz o u)) (tbls:∀b ps,H b=some (.tbl ps)->∃more,H' b=some (.tbl (ps++more)))
   (ns:∀m,s.heap.Ns X.env.locals m->h'.Ns X.env.locals m) (hok:QZ X.prog X.w H' h') (hg:AllBare g'):
   qw X pins σ H' {s with heap:=h',gens:=g',drawn:=d',toks:=t'}:=by
 have neL:∀b o,X.s₀.heap.get? b=some o->b≠X.env.locals:=λb o e=>Nat.ne_of_lt (Nat.lt_of_lt_of_le (Heap.lt_size e) I.ok.above)
 have neC:∀b o,X.s₀.heap.get? b=some o->b∉X.ex->b∉ch:=λb o e hx hb=>by
   rcases(hch b hb).1 with z | z
   . exact hx z
   . exact absurd (Nat.lt_of_lt_of_le (Heap.lt_size e) z) (Nat.lt_irrefl _)
 have cellK:∀x c,X.env.cells.lookup x=some c->∀v,s.heap.IsCell c v->h'.IsCell c v:=λx c e v ⟨o,ho,hd⟩=>by
   have nch:c∉ch:=λz=>(hch c z).2.2.1 x c e rfl
   by_cases hc:c∈X.fs
   . obtain⟨sl,q⟩:=slot c o (I.cne x c e) hc nch ho (I.freeC x c e)
     exact⟨_,q,hd⟩
   . exact⟨o,keep c o (I.cne x c e) hc nch ho (I.freeC x c e),hd⟩
 refine⟨I.ok,I.os,hg,⟨λb o e n hb hx=>?_,λb o e n hb hx=>?_,λb o e n hx=>?_,λb o e hx=>?_,λb xs e=>tups b xs (I.base.tups b xs e),λb o xs e=>frzs b o xs (I.base.frzs b o xs e),λb ps e=>?_⟩,?_,λx c e=>?_,?_,λx c e=>?_,λp hp=>?_,hok,I.len⟩
 . exact keep b o (neL b o e) hb (neC b o e hx) (I.base.keep b o e n hb hx) (I.base.free b o e n hx)
 . obtain⟨sl,e1⟩:=I.base.slot b o e n hb hx
   obtain⟨sl',e2⟩:=slot b _ (neL b o e) hb (neC b o e hx) e1 (I.base.free b o e n hx)
   exact⟨sl',e2⟩
 . obtain⟨o',e1⟩:=I.base.there b o e hx
   exact free b o' (neC b o e hx) e1 (I.base.free b o e n hx)
 . obtain⟨o',e1⟩:=I.base.there b o e hx
   exact there b o' (neC b o e hx) e1
 . obtain⟨m1,e1⟩:=I.base.tbls b ps e
   obtain⟨m2,e2⟩:=tbls b _ e1
   exact⟨m1++m2,by rw[e2,Array.append_assoc]⟩
 . obtain⟨m,hn,hl⟩:=I.loc
   refine⟨m,ns m hn,λi x v e1 e2 e3=>?_⟩
   obtain⟨u,r,l⟩:=hl i x v e1 e2 e3
   refine⟨u,r,?_⟩
   rcases l with l | ⟨k,c,e,z⟩
   . exact .inl l
   . exact .inr ⟨k,c,e,cellK x c e _ z⟩
 . obtain⟨v,z⟩:=I.cell x c e
   exact⟨v,cellK x c e v z⟩
 . obtain⟨m,⟨o,_,_,ho,_⟩,_⟩:=I.loc
   exact free _ o (λz=>(hch _ z).2.1 rfl) ho I.free
 . obtain⟨v,o,ho,hd⟩:=I.cell x c e
   exact free c o (λz=>(hch c z).2.2.1 x c e rfl) ho (I.freeC x c e)
 . obtain⟨e,n,ne,nf,d⟩:=I.pin p hp
   have nch:p.1∉ch:=λz=>(hch p.1 z).2.2.2 p hp rfl
   exact⟨keep p.1 p.2 ne nf nch e n,free p.1 p.2 nch e n,ne,nf,d⟩
theorem qw.un {t':Nat} (I:qw X pins σ H s) (u:Un X.fs [] H H' s.heap h') (hok:QZ X.prog X.w H' h'):qw X pins σ H' {s with heap:=h',toks:=t'}:=by
 obtain⟨m,⟨o,es,ep,ho,r⟩,_⟩:=id I.loc
 obtain⟨sl,hL⟩:=u.any ho I.free (by simp)
 exact I.step (g':=s.gens) (d':=s.drawn) (ch:=[]) (λ_ z=>nomatch z) (λb o _ hb _ e n=>u.keep b o e n hb (by simp)) (λb o _ hb _ e n=>u.slot b o e n hb (by simp)) (λb o _ e n=>u.free b o e n (by simp)) (λb o _ e=>u.there b o e (by simp)) u.tups u.frzs u.tbls (λm' hm=>by
   obtain⟨o',es',ep',ho',r'⟩:=hm
   rw[ho]at ho';cases ho'
   exact⟨_,es',ep',hL,r'⟩) hok I.bare
theorem qw.call {g':Array GenState} {t':Nat} {d':Drawn} {ch:List Addr} (I:qw X pins σ H s) (u:Un (Zv X.stack) ch H H' s.heap h') (hok:QZ X.prog X.w H' h') (hg:AllBare g')
   (hch:∀b∈ch,(b∈X.ex\/X.s₀.heap.objs.size<=b)/\b≠X.env.locals/\(∀x c,X.env.cells.lookup x=some c->c≠b)/\∀p∈X.pn++pins,p.1≠b):
   qw X pins σ H' {s with heap:=h',gens:=g',drawn:=d',toks:=t'}:=by
 obtain⟨m,⟨o,es,ep,ho,r⟩,_⟩:=id I.loc
 obtain⟨sl,hL⟩:=u.any ho I.free λz=>(hch _ z).2.1 rfl
 exact I.step (ch:=ch) hch (λb o hL hb hc e n=>u.keep b o e n (λz=>(List.mem_cons.mp (I.stkSub b z)).elim hL hb) hc) (λb o _ _ hc e n=>u.any e n hc) (λb o hc e n=>u.free b o e n hc) (λb o hc e=>u.there b o e hc) u.tups u.frzs u.tbls (λm' hm=>by
   obtain⟨o',es',ep',ho',r'⟩:=hm
   rw[ho]at ho';cases ho'
   exact⟨_,es',ep',hL,r'⟩) hok hg
theorem qw.turned {t':Nat} {it:Addr} (I:qw X pins σ H s) (k:∀b o,b≠it->s.heap.get? b=some o->h'.get? b=some o) (hn:H it=none) (hL:it≠X.env.locals)
   (h1:it∈X.ex\/X.s₀.heap.objs.size<=it) (h2:∀x c,X.env.cells.lookup x=some c->c≠it) (h3:∀p∈X.pn++pins,p.1≠it):qw X pins σ H {s with heap:=h',toks:=t'}:=by
 have nit:∀b u,H b=some u->b≠it:=λb u e z=>by rw[z,hn]at e;cases e
 refine I.step (g':=s.gens) (d':=s.drawn) (ch:=[it]) (λb hb=>?_) (λb o _ _ hc e _=>k b o (λz=>hc (by simp [z])) e) (λb o _ _ hc e _=>⟨o.slots,k b o (λz=>hc (by simp [z])) e⟩) (λ_ _ _ _ n=>n)
   (λb o hc e=>⟨o,k b o (λz=>hc (by simp [z])) e⟩) (λ_ _ e=>e) (λ_ _ _ e=>e) (λb ps e=>⟨#[],by rw[e];simp⟩) (λm hm=>?_) (λb u e=>?_) I.bare
 . have e:b=it:=by simpa using hb
   subst e
   exact⟨h1,hL,h2,h3⟩
 . obtain⟨o,es,ep,ho,r⟩:=hm
   exact⟨o,es,ep,k _ o (Ne.symm hL) ho,r⟩
 . refine(I.hok b u e).stay (λc v hc q=>k c v ?_ q) (λ_ q=>q) λ_ _ q=>q
   rcases hc with z | z
   . rw[z];exact nit b u e
   . exact nit c _ z
theorem qw.tok (I:qw X pins σ H s) (t:Nat):qw X pins σ H {s with toks:=t}:=I.un (h':=s.heap) (t':=t) Un.refl I.hok
theorem qw.kept {t':Nat} (I:qw X pins σ H s) (k:∀b u,s.heap.get? b=some u->h'.get? b=some u):qw X pins σ H {s with heap:=h',toks:=t'}:=I.un (Un.kept k) (I.hok.kept k)
theorem qw.laid {a:Addr} {o:HO} {t':Nat} (I:qw X pins σ H s) (k:∀b u,s.heap.get? b=some u->h'.get? b=some u) (hp:s.heap.objs.size<=a) (new:qC X.prog X.w (upd H a o) h' a o):
   qw X pins σ (upd H a o) {s with heap:=h',toks:=t'}:=I.un (Un.laid k hp (I.hok.fresh hp)) (I.hok.laid k hp new)
theorem qw.write {x e:Addr} {o:HO} {t':Nat} (I:qw X pins σ H s) (mu:wV (H x)) (he:e=x\/H e=some (.own x)) (k:∀b u,b≠e->s.heap.get? b=some u->h'.get? b=some u) (heo:∃u,h'.get? e=some u)
   (new:qC X.prog X.w (upd H x o) h' x o):qw X pins σ (upd H x o) {s with heap:=h',toks:=t'}:=I.un (Un.write mu he k heo) (I.hok.write mu he k heo new)
theorem qw.pins_of {pins':List (Addr×Obj)} (I:qw X pins σ H s) (h:∀p∈pins',s.heap.get? p.1=some p.2/\H p.1=none/\p.1≠X.env.locals/\p.1∉X.fs/\∀v,p.2.data≠.cell v):qw X pins' σ H s:=
 ⟨I.ok,I.os,I.bare,I.base,I.loc,I.cell,I.free,I.freeC,λp hp=>(List.mem_append.mp hp).elim (λz=>I.pin p (List.mem_append_left _ z)) (h p),I.hok,I.len⟩
theorem zk {N:List Str} (hN:N.Nodup) {i j:Nat} {x:Str} (a:N[i]?=some x) (b:N[j]?=some x):i=j:=by
 obtain⟨h1,e1⟩:=List.getElem?_eq_some_iff.mp a
 obtain⟨h2,e2⟩:=List.getElem?_eq_some_iff.mp b
 exact(List.getElem_inj hN).mp (e1.trans e2.symm)
theorem z5 {M:Model} {A:Around} {E:Value->Shared->Prop} {i:Nat} {x:Str} {v:V} {u:Value} {Q:Unit->Shared->Prop} (I:qw X pins σ H s) (hN:X.N.Nodup) (hi:X.N[i]?=some x) (hx:uj X.env.scope x) (r:qO v u)
   (h:∀s',qw X pins (σ.set i (some v)) H s'->(∃a,Heap.SameBut a s.heap s'.heap/\(a=X.env.locals\/X.env.cells.lookup x=some a))->Q () s') (hf:X.fn x=true\/X.env.scope.names.lookup x=some .local:=by first | exact .inl rfl | exact .inr rfl | assumption):wpAny M A (storeName X.env x u) Q E s:=by
 obtain⟨m,hn,hl⟩:=id I.loc
 have hcls:(X.env.scope.kind==.class || (X.env.scope.kind==.module&&X.env.locals != X.env.globals))=false:=by rw[I.ok.kind];rfl
 have hiσ:i < σ.length:=by rw[I.len];exact(List.getElem?_eq_some_iff.mp hi).1
 have cne:=I.cne
 have tracked:∀{a:Addr} {h':Heap},(∃o,s.heap.get? a=some o/\H a=none)->Heap.SameBut a s.heap h'->QZ X.prog X.w H h':=λ{a h'} ha hs b ob e=>by
   obtain⟨_,_,hfree⟩:=ha
   refine(I.hok b ob e).stay (λc w' hc q=>(hs.2 c ?_).trans q) (λ_ q=>q) λ_ _ q=>q
   rintro rfl
   rcases hc with rfl | hc
   . rw[hfree]at e;cases e
   . rw[hfree]at hc;cases hc
 rcases hx with hk | hk
 . refine wpAny_storeName_local hk hn (λh' hn' hs=>?_) hcls
   obtain⟨oL,_,_,hoL,_⟩:=id hn
   refine h _ ⟨I.ok,I.os,I.bare,⟨λb o e n hb hx=>?_,λb o e n hb hx=>?_,I.base.free,λb o e hx=>?_,I.base.tups,I.base.frzs,I.base.tbls⟩,⟨_,hn',λj y v' e1 e2 e3=>?_⟩,λy c e=>?_,I.free,I.freeC,λp hp=>?_,tracked ⟨oL,hoL,I.free⟩ hs,by simpa using I.len⟩ ⟨_,hs,.inl rfl⟩
   . exact(hs.2 b (Nat.ne_of_lt (Nat.lt_of_lt_of_le (Heap.lt_size e) I.ok.above))).trans (I.base.keep b o e n hb hx)
   . obtain⟨sl,e1⟩:=I.base.slot b o e n hb hx
     exact⟨sl,(hs.2 b (Nat.ne_of_lt (Nat.lt_of_lt_of_le (Heap.lt_size e) I.ok.above))).trans e1⟩
   . obtain⟨o',e1⟩:=I.base.there b o e hx
     exact⟨o',(hs.2 b (Nat.ne_of_lt (Nat.lt_of_lt_of_le (Heap.lt_size e) I.ok.above))).trans e1⟩
   . by_cases hj:j=i
     . subst hj
       rw[hi]at e1;cases e1
       rw[List.getElem?_set_self hiσ]at e2
       cases e2
       exact⟨u,r,.inl ⟨hk,by simp⟩⟩
     . rw[List.getElem?_set_ne (Ne.symm hj)]at e2
       obtain⟨u',r',q⟩:=hl j y v' e1 e2 e3
       refine⟨u',r',?_⟩
       rcases q with ⟨k,e⟩ | ⟨k,c,e,z⟩
       . refine .inl ⟨k,?_⟩
         have:y≠x:=λe=>hj (zk hN e1 (e▸hi))
         simp [this,e]
       . exact .inr ⟨k,c,e,z.sameBut hs (cne y c e)⟩
   . obtain⟨w',z⟩:=I.cell y c e
     exact⟨w',z.sameBut hs (cne y c e)⟩
   . obtain⟨e,n,ne,nf,d⟩:=I.pin p hp
     exact⟨(hs.2 p.1 ne).trans e,n,ne,nf,d⟩
 . have hfn:X.fn x=true:=by
     rcases hf with z | z
     . exact z
     . rw[z]at hk;cases hk
   obtain⟨c,hc⟩:=I.ok.has x (.inl hk)
   obtain⟨w',z⟩:=I.cell x c hc
   refine wpAny_storeName_cell I.ok.kind hk hc z (λh' hc' hs=>?_)
   obtain⟨oc,hoc,hocd⟩:=id z
   refine h {s with heap:=h'} ⟨I.ok,I.os,I.bare,⟨λb o e n hb hx=>?_,λb o e n hb hx=>?_,I.base.free,λb o e hx=>?_,I.base.tups,I.base.frzs,I.base.tbls⟩,⟨m,hn.sameBut hs (Ne.symm (cne x c hc)),λj y v' e1 e2 e3=>?_⟩,λy c' e=>?_,I.free,I.freeC,λp hp=>?_,tracked ⟨oc,hoc,I.freeC x c hc⟩ hs,by simpa using I.len⟩ ⟨c,hs,.inr hc⟩
   . exact(hs.2 b (Nat.ne_of_lt (Nat.lt_of_lt_of_le (Heap.lt_size e) (I.ok.cab x c hfn hc)))).trans (I.base.keep b o e n hb hx)
   . obtain⟨sl,e1⟩:=I.base.slot b o e n hb hx
     exact⟨sl,(hs.2 b (Nat.ne_of_lt (Nat.lt_of_lt_of_le (Heap.lt_size e) (I.ok.cab x c hfn hc)))).trans e1⟩
   . obtain⟨o',e1⟩:=I.base.there b o e hx
     exact⟨o',(hs.2 b (Nat.ne_of_lt (Nat.lt_of_lt_of_le (Heap.lt_size e) (I.ok.cab x c hfn hc)))).trans e1⟩
   . by_cases hj:j=i
     . subst hj
       rw[hi]at e1;cases e1
       rw[List.getElem?_set_self hiσ]at e2
       cases e2
       exact⟨u,r,.inr ⟨.inl hk,c,hc,hc'⟩⟩
     . rw[List.getElem?_set_ne (Ne.symm hj)]at e2
       obtain⟨u',r',q⟩:=hl j y v' e1 e2 e3
       refine⟨u',r',?_⟩
       rcases q with q | ⟨k,c',e,z'⟩
       . exact .inl q
       . refine .inr ⟨k,c',e,z'.sameBut hs ?_⟩
         rintro rfl
         exact hj (zk hN e1 (I.ok.inj _ _ _ e hc▸hi))
   . by_cases hcc:c'=c
     . subst hcc;exact⟨_,hc'⟩
     . obtain⟨w2,z2⟩:=I.cell y c' e
       exact⟨w2,z2.sameBut hs hcc⟩
   . obtain⟨e,n,ne,nf,d⟩:=I.pin p hp
     refine⟨(hs.2 p.1 ?_).trans e,n,ne,nf,d⟩
     intro q
     rw[q,hoc]at e
     have q':oc=p.2:=Option.some.inj e
     exact d w' (by rw[<-q'];exact hocd)
theorem ZX {M:Model} {A:Around} {E:Value->Shared->Prop} {i:Nat} {x:Str} {v:V} {u:Value} {Q:Unit->Shared->Prop} (I:qw X pins σ H s) (hN:X.N.Nodup) (hi:X.N[i]?=some x) (hx:uj X.env.scope x) (r:qO v u)
   (h:∀s',qw X pins (σ.set i (some v)) H s'->Q () s') (hf:X.fn x=true\/X.env.scope.names.lookup x=some .local:=by first | exact .inl rfl | exact .inr rfl | assumption):wpAny M A (storeName X.env x u) Q E s:=
 z5 I hN hi hx r (λs' I' _=>h s' I') hf
theorem qw.call' {s':Shared} {ch:List Addr} (I:qw X pins σ H s) (ho:s'.os=s.os) (u:Un (Zv X.stack) ch H H' s.heap s'.heap) (hok:QZ X.prog X.w H' s'.heap) (hg:AllBare s'.gens)
   (hch:∀b∈ch,(b∈X.ex\/X.s₀.heap.objs.size<=b)/\b≠X.env.locals/\(∀x c,X.env.cells.lookup x=some c->c≠b)/\∀p∈X.pn++pins,p.1≠b):qw X pins σ H' s':=by
 obtain⟨h',g',d',t',o'⟩:=s'
 have e:o'=s.os:=ho
 subst e
 exact I.call (g':=g') (t':=t') (d':=d') u hok hg hch
end
abbrev XK:=Value->Option Addr->Hp->Prop
abbrev St:=List (Option V)
abbrev VK:=V->Hp->Prop
abbrev TE:=St->Hp->VK->Prop
abbrev TT:=St->Hp->(Bool->Hp->Prop)->Prop
abbrev TA:=St->Hp->(List V->Hp->Prop)->Prop
structure QF where
 nx:St->Hp->Prop
 rt:VK
 bk:St->Hp->Prop:=λ_ _=>False
 ct:St->Hp->Prop:=λ_ _=>False
abbrev TS:=QF->St->Hp->Prop
def EP (X:Cx) (pins:List (Addr×Obj)) (σ:St) (Q:VK) (u:Value) (s':Shared):Prop:=∃v H',qw X pins σ H' s'/\qO v u/\Q v H'
def TP (X:Cx) (pins:List (Addr×Obj)) (σ:St) (Q:Bool->Hp->Prop) (b:Bool) (s':Shared):Prop:=∃H',qw X pins σ H' s'/\Q b H'
def AP (X:Cx) (pins:List (Addr×Obj)) (σ:St) (Q:List V->Hp->Prop) (us:List Value) (s':Shared):Prop:=∃vs H',qw X pins σ H' s'/\qD vs us/\Q vs H'
def SP (X:Cx) (pins:List (Addr×Obj)) (D:QF) (f:Flow) (s':Shared):Prop:=
 match f with
 | .next=>∃σ' H',qw X pins σ' H' s'/\D.nx σ' H'
 | .brk=>∃σ' H',qw X pins σ' H' s'/\D.bk σ' H'
 | .cont=>∃σ' H',qw X pins σ' H' s'/\D.ct σ' H'
 | .ret u=>∃v σ' H',qw X pins σ' H' s'/\qO v u/\D.rt v H'
def PE (X:Cx) (e:Expr) (t:TE):Prop:=
 ∀(pins:List (Addr×Obj)) (s:Shared) (σ:St) (H:Hp) (Q:VK),qw X pins σ H s->t σ H Q->wpAny (model X.prog X.w) X.A (eval e X.env) (EP X pins σ Q) X.xe s
@[irreducible] def JE (X:Cx) (e:Expr) (t:TE):Prop:=PE X e t
theorem JE.of {X:Cx} {e:Expr} {t:TE} (h:PE X e t):JE X e t:=by unfold JE;exact h
theorem JE.to {X:Cx} {e:Expr} {t:TE} (h:JE X e t):PE X e t:=by unfold JE at h;exact h
def PT (X:Cx) (e:Expr) (t:TT):Prop:=
 ∀(pins:List (Addr×Obj)) (s:Shared) (σ:St) (H:Hp) (Q:Bool->Hp->Prop),qw X pins σ H s->t σ H Q->wpAny (model X.prog X.w) X.A (isTrue e X.env (eval e X.env)) (TP X pins σ Q) X.xe s
@[irreducible] def JT (X:Cx) (e:Expr) (t:TT):Prop:=PT X e t
theorem JT.of {X:Cx} {e:Expr} {t:TT} (h:PT X e t):JT X e t:=by unfold JT;exact h
theorem JT.to {X:Cx} {e:Expr} {t:TT} (h:JT X e t):PT X e t:=by unfold JT at h;exact h
def PW (X:Cx) (e:Expr) (t:TT):Prop:=
 ∀(whole:Sem Value) (pins:List (Addr×Obj)) (s:Shared) (σ:St) (H:Hp) (Q:Bool->Hp->Prop),qw X pins σ H s->t σ H Q->wpAny (model X.prog X.w) X.A (isTrue e X.env whole) (TP X pins σ Q) X.xe s
theorem PW.pt {X:Cx} {e:Expr} {t:TT} (h:PW X e t):PT X e t:=h _
@[irreducible] def JW (X:Cx) (e:Expr) (t:TT):Prop:=PW X e t
theorem JW.of {X:Cx} {e:Expr} {t:TT} (h:PW X e t):JW X e t:=by unfold JW;exact h
theorem JW.to {X:Cx} {e:Expr} {t:TT} (h:JW X e t):PW X e t:=by unfold JW at h;exact h
theorem JW.pt {X:Cx} {e:Expr} {t:TT} (h:JW X e t):JT X e t:=.of h.to.pt
def PA (X:Cx) (es:List Expr) (t:TA):Prop:=
 ∀(pos:Pos) (pins:List (Addr×Obj)) (s:Shared) (σ:St) (H:Hp) (Q:List V->Hp->Prop),qw X pins σ H s->t σ H Q->wpAny (model X.prog X.w) X.A (spliced (backTo pos (starEach es X.env))) (AP X pins σ Q) X.xe s
@[irreducible] def JA (X:Cx) (es:List Expr) (t:TA):Prop:=PA X es t
theorem JA.of {X:Cx} {es:List Expr} {t:TA} (h:PA X es t):JA X es t:=by unfold JA;exact h
theorem JA.to {X:Cx} {es:List Expr} {t:TA} (h:JA X es t):PA X es t:=by unfold JA at h;exact h
def PS (X:Cx) (st:Stmt) (t:TS):Prop:=
 ∀(pins:List (Addr×Obj)) (s:Shared) (σ:St) (H:Hp) (D:QF),qw X pins σ H s->t D σ H->wpAny (model X.prog X.w) X.A (exec st X.env) (SP X pins D) X.xe s
@[irreducible] def JS (X:Cx) (st:Stmt) (t:TS):Prop:=PS X st t
theorem JS.of {X:Cx} {st:Stmt} {t:TS} (h:PS X st t):JS X st t:=by unfold JS;exact h
theorem JS.to {X:Cx} {st:Stmt} {t:TS} (h:JS X st t):PS X st t:=by unfold JS at h;exact h
def kG (X:Cx) (st:List Stmt) (t:TS):Prop:=
 ∀(pins:List (Addr×Obj)) (s:Shared) (σ:St) (H:Hp) (D:QF),qw X pins σ H s->t D σ H->wpAny (model X.prog X.w) X.A (execs st X.env) (SP X pins D) X.xe s
@[irreducible] def zU (X:Cx) (st:List Stmt) (t:TS):Prop:=kG X st t
theorem zU.of {X:Cx} {st:List Stmt} {t:TS} (h:kG X st t):zU X st t:=by unfold zU;exact h
theorem zU.to {X:Cx} {st:List Stmt} {t:TS} (h:zU X st t):kG X st t:=by unfold zU at h;exact h
theorem jk {α:Type} {t:Sem α} {Q Q':α->Shared->Prop} {M:Model} {A:Around} {E:Value->Shared->Prop} {s:Shared} (h:wpAny M A t Q E s) (hQ:∀a s,Q a s->Q' a s):wpAny M A t Q' E s:=wpAny_mono h hQ λ_ _ x=>x
end L2
namespace L2
open PySem PySem.Spec PyProof.Rows
section
variable {X:Cx}
def qL (i:Nat):TE:=λσ H Q=>∃v,σ[i]?=some (some v)/\Q v H
def tC (v:V):TE:=λ_ H Q=>Q v H
theorem vd {i:Nat} {x:Str} {pos:Pos} (hN:X.N[i]?=some x) (hv:ug X.env.scope x) (hd:(x==("__debug__":Str))=false:=by decide) (hcd:(x==("__classdict__":Str))=false:=by decide):PE X (.Name x pos) (qL i):=by
 intro pins s σ H Q I h
 obtain⟨v,e,h⟩:=h
 obtain⟨m,hn,hl⟩:=I.loc
 obtain⟨u,r,l⟩:=hl i x v hN e hv
 have fin:EP X pins σ Q u s:=⟨v,H,I,r,h⟩
 rcases l with ⟨hk,hm⟩ | ⟨hk,c,hc,hcell⟩
 . exact wpAny_Name (wpAny_loadName_local I.ok.kind hk hn hm fin) hd
 . rcases hk with hk | hk
   . exact wpAny_Name (wpAny_loadName_cell I.ok.kind hk hc hcell fin) hd
   . exact wpAny_Name (wpAny_loadName_free I.ok.kind hk hc hcell fin hcd) hd
theorem qi {i j pos}:JE X (.Constant (.int i) j pos) (tC (.int i)):=.of (by
 exact λ_ _ _ H _ I h=>wpAny_Constant_int ⟨.int i,H,I.tok _,⟨_,rfl⟩,h⟩)
theorem jI {b j pos}:JE X (.Constant (.bool b) j pos) (tC (.bl b)):=.of (by
 exact λ_ _ _ H _ I h=>Constant_bool ⟨.bl b,H,I,rfl,h⟩)
theorem wH {j pos}:JE X (.Constant .none j pos) (tC .non):=.of (by
 exact λ_ _ _ H _ I h=>Constant_none ⟨.non,H,I,rfl,h⟩)
theorem jy {x j pos}:JE X (.Constant (.str x) j pos) (tC (.str x)):=.of (by
 exact λ_ _ _ H _ I h=>Calls.Constant_str ⟨.str x,H,I.tok _,⟨_,rfl⟩,h⟩)
def Gl (X:Cx) (x:Str):Prop:=X.env.kindOf x=some .globalImplicit
theorem J2 {E:Value->Shared->Prop} {pins:List (Addr×Obj)} {s:Shared} {σ:St} {H:Hp} {x:Str} {u:Value} {pos:Pos} {Q:Value->Shared->Prop} (I:qw X pins σ H s) (hg:Gl X x) (hm:X.mg x=some u) (h:Q u s)
   (hd:(x==("__debug__":Str))=false:=by decide):wpAny (model X.prog X.w) X.A (eval (.Name x pos) X.env) Q E s:=
 Calls.Name_function_global I.ok.kind hg (Calls.loadGlobal_global (by rw[I.ok.glob];exact I.mod.glob.keeps I.bk) hm h) hd
theorem QC {E:Value->Shared->Prop} {pins:List (Addr×Obj)} {s:Shared} {σ:St} {H:Hp} {x:Str} {u:Value} {pos:Pos} {Q:Value->Shared->Prop} (I:qw X pins σ H s) (hg:Gl X x) (hm:X.mg x=none) (hv:bootBuiltins x=some u) (h:Q u s)
   (hn:x≠"__name__":=by decide) (hd:(x==("__debug__":Str))=false:=by decide):wpAny (model X.prog X.w) X.A (eval (.Name x pos) X.env) Q E s:=by
 obtain⟨mb,h1,h2⟩:=I.mod.blt
 exact Calls.Name_function_global I.ok.kind hg (Calls.loadGlobal_builtin (by rw[I.ok.glob];exact I.mod.glob.keeps I.bk) hm (by rw[I.ok.blt];exact h1.keeps I.bk) ((h2 x hn).trans hv) h) hd
theorem Vb {x:Str} {v:V} {u:Value} {pos:Pos} (hg:Gl X x) (hm:X.mg x=some u) (r:qO v u) (hd:(x==("__debug__":Str))=false:=by decide):PE X (.Name x pos) (tC v):=
 λ_ _ _ H _ I h=>J2 I hg hm ⟨v,H,I,r,h⟩ hd
theorem jz {x:Str} {v:V} {u:Value} {pos:Pos} (hg:Gl X x) (hm:X.mg x=some u) (r:qO v u) (hd:(x==("__debug__":Str))=false:=by decide):JE X (.Name x pos) (tC v):=.of (Vb hg hm r hd)
theorem QT {x:Str} {v:V} {u:Value} {pos:Pos} (hg:Gl X x) (hm:X.mg x=none) (hv:bootBuiltins x=some u) (r:qO v u) (hn:x≠"__name__":=by decide) (hd:(x==("__debug__":Str))=false:=by decide):JE X (.Name x pos) (tC v):=.of (by
 exact λ_ _ _ H _ I h=>QC I hg hm hv ⟨v,H,I,r,h⟩ hn hd)
variable {a b:Expr} {ta tb:TE} {pos:Pos}
def PC (X:Cx) (op:CmpOp) (a b:Expr) (t:TE):Prop:=
 ∀(pins:List (Addr×Obj)) (s:Shared) (σ:St) (H:Hp) (Q:VK),qw X pins σ H s->t σ H Q->
   wpAny (model X.prog X.w) X.A (eval a X.env) (λv s₁=>wpAny (model X.prog X.w) X.A (eval b X.env) (λu s₂=>wpAny (model X.prog X.w) X.A (compareOp op v u) (EP X pins σ Q) X.xe s₂) X.xe s₁) X.xe s
@[irreducible] def JC (X:Cx) (op:CmpOp) (a b:Expr) (t:TE):Prop:=PC X op a b t
theorem JC.of {X:Cx} {op:CmpOp} {a b:Expr} {t:TE} (h:PC X op a b t):JC X op a b t:=by unfold JC;exact h
theorem JC.to {X:Cx} {op:CmpOp} {a b:Expr} {t:TE} (h:JC X op a b t):PC X op a b t:=by unfold JC at h;exact h
def tB (t:TE):TT:=λσ H Q=>t σ H λx H1=>∃c,x=.bl c/\Q c H1
theorem YO {op:CmpOp} {t:TE} (h:JC X op a b t) (h1:behindInMarks op b=false:=by first | exact nobehind _ (by decide) (by decide) | rfl):JT X (.Compare a [op] [b] pos) (tB t):=.of (by
 have h:=h.to
 intro pins s σ H Q I hw
 refine wpAny_isTrue_Compare1 (jk (h pins s σ H _ I hw) λv s1 h1=>jk h1 λu s2 h2=>jk h2 λc s3 ⟨x,H1,I1,r1,q1⟩=>?_) h1
 obtain⟨d,rfl,q⟩:=q1
 cases r1
 exact wpAny_truthy_bool ⟨H1,I1,q⟩)
theorem jY {e:Expr} {t:TE} (h:JE X e t) (he:∀whole,isTrue e X.env whole=(do let v <-whole;standAt e.pos;holding [v] (truthy v)):=by intro _;rfl):JT X e (tB t):=.of (by
 have h:=h.to
 intro pins s σ H Q I hw
 refine isTrue_plain (jk (h pins s σ H _ I hw) λv s1 ⟨x,H1,I1,r1,q1⟩=>?_) (he _)
 obtain⟨d,rfl,q⟩:=q1
 cases r1
 exact wpAny_truthy_bool ⟨H1,I1,q⟩)
variable {tA tB':TT} {rest:List Expr}
def uy (t u:TT):TT:=λσ H Q=>t σ H λc H1=>if c=true then u σ H1 Q else Q false H1
def tOr (t u:TT):TT:=λσ H Q=>t σ H λc H1=>if c=true then Q true H1 else u σ H1 Q
def KU (t:TT):TT:=λσ H Q=>t σ H λc H1=>Q (!c) H1
theorem Qc (ha:JT X a tA):JW X (.BoolOp .And [a] pos) tA:=.of (by
 have ha:=ha.to
 intro wh pins s σ H Q I h
 refine isTrue_and (jk (ha pins s σ H Q I h) λc s1 e=>?_)
 cases c with
 | true=>exact isTrue_and_nil e
 | false=>exact e)
theorem j5 (ha:JT X a tA):JW X (.BoolOp .Or [a] pos) tA:=.of (by
 have ha:=ha.to
 intro wh pins s σ H Q I h
 refine isTrue_or (jk (ha pins s σ H Q I h) λc s1 e=>?_)
 cases c with
 | false=>exact isTrue_or_nil e
 | true=>exact e)
theorem Qt (ha:JT X a tA) (hb:JW X (.BoolOp .And (b::rest) pos) tB'):JW X (.BoolOp .And (a::b::rest) pos) (uy tA tB'):=.of (by
 have ha:=ha.to
 have hb:=hb.to
 intro wh pins s σ H Q I h
 refine isTrue_and (jk (ha pins s σ H _ I h) λc s1 ⟨H1,I1,q1⟩=>?_)
 cases c with
 | true=>exact hb wh pins s1 σ H1 Q I1 q1
 | false=>exact⟨H1,I1,q1⟩)
theorem Qi (ha:JT X a tA) (hb:JW X (.BoolOp .Or (b::rest) pos) tB'):JW X (.BoolOp .Or (a::b::rest) pos) (tOr tA tB'):=.of (by
 have ha:=ha.to
 have hb:=hb.to
 intro wh pins s σ H Q I h
 refine isTrue_or (jk (ha pins s σ H _ I h) λc s1 ⟨H1,I1,q1⟩=>?_)
 cases c with
 | true=>exact⟨H1,I1,q1⟩
 | false=>exact hb wh pins s1 σ H1 Q I1 q1)
theorem Qb (ha:JT X a tA):JT X (.UnaryOp .Not a pos) (KU tA):=.of (by
 have ha:=ha.to
 intro pins s σ H Q I h
 exact isTrue_not (ha pins s σ H (λc H1=>Q (!c) H1) I h))
def ux (ta tb:TE):TE:=λσ H Q=>ta σ H λx H1=>∃c,x=.bl c/\if c=true then tb σ H1 Q else Q (.bl false) H1
theorem Wu {op} {t:TE} (h:JE X a t):JE X (.BoolOp op [a] pos) t:=.of (by
 have h:=h.to
 exact λpins s σ H Q I hw=>BoolOp_one (h pins s σ H Q I hw))
theorem Wv (ha:JE X a ta) (hb:JE X (.BoolOp .And (b::rest) pos) tb):JE X (.BoolOp .And (a::b::rest) pos) (ux ta tb):=.of (by
 have ha:=ha.to
 have hb:=hb.to
 intro pins s σ H Q I h
 refine BoolOp_and (jk (ha pins s σ H _ I h) λv s1 ⟨x,H1,I1,r1,q1⟩=>?_)
 obtain⟨c,rfl,q1⟩:=q1
 cases r1
 refine wpAny_truthy_bool ?_
 cases c with
 | true=>exact hb pins s1 σ H1 Q I1 q1
 | false=>exact⟨.bl false,H1,I1,rfl,q1⟩)
end
end L2
namespace L2
open PySem PySem.Spec PyProof.Rows
def SqL (K:PySem.W.Frag) (H:Hp) (a:Addr) (xs:List V):Prop:=
 Rd H a (.lst xs)\/
   ∃(o:Obj) (its:Array Value) (n:Nat),K.lookup a=some o/\o.cls=.type "list"/\o.dict=none/\o.data=.seq its n/\its.size<=sizeLine/\qD xs its.toList
def Zc (K:PySem.W.Frag) (H:Hp) (a:Addr) (xs:List V):Prop:=
 Rd H a (.tup xs)\/
   ∃(o:Obj) (its:Array Value) (n:Nat),K.lookup a=some o/\o.cls=.type "tuple"/\o.data=.seq its n/\its.size<=sizeLine/\qD xs its.toList
def Gy:Value->Option V
 | .none=>some .non
 | .bool b=>some (.bl b)
 | .int i _=>some (.int i)
 | .str x _=>some (.str x)
 | .bytes b _=>some (.byt b)
 | .float b _=>some (.flt b)
 | .ref a=>some (.ref a)
 | .type n=>some (.ty n)
 | _=>none
theorem qO.abs {x:V} {u:Value} (r:qO x u):Gy u=some x:=by
 cases x with
 | non=>cases r;rfl
 | bl _=>cases r;rfl
 | int _=>obtain⟨t,rfl⟩:=r;rfl
 | str _=>obtain⟨t,rfl⟩:=r;rfl
 | byt _=>obtain⟨t,rfl⟩:=r;rfl
 | flt _=>obtain⟨t,rfl⟩:=r;rfl
 | ref _=>cases r;rfl
 | ty _=>cases r;rfl
theorem qO.inj {x y:V} {u:Value} (r:qO x u) (q:qO y u):x=y:=Option.some.inj (r.abs.symm.trans q.abs)
theorem qD.inj:∀{xs ys:List V} {us:List Value},qD xs us->qD ys us->xs=ys
 | _,_,_,.nil,.nil=>rfl
 | _,_,_,.cons r t,.cons r' t'=>by rw[r.inj r',qD.inj t t']
section
variable {X:Cx} {pins:List (Addr×Obj)} {σ:St} {H:Hp} {s:Shared} {a:Addr} {xs ys:List V}
theorem SqL.of {K:PySem.W.Frag} (h:H a=some (.lst xs)):SqL K H a xs:=.inl (.inl h)
theorem Zc.of {K:PySem.W.Frag} (h:H a=some (.tup xs)):Zc K H a xs:=.inl (.inl h)
theorem qw.list (I:qw X pins σ H s) (h:SqL X.K H a xs):∃its:List Value,qD xs its/\PlainL s.heap a its.toArray/\xs.length<=sizeLine:=by
 rcases h with h | ⟨o,its,n,hk,hc,hd,hs,hz,r⟩
 . obtain⟨z,its,n,r,e⟩:=h.ok I.hok
   exact⟨its,r,⟨_,n,e,rfl,rfl,rfl⟩,z⟩
 . refine⟨its.toList,r,⟨o,n,I.kIn a o hk,hc,hd,by simpa using hs⟩,?_⟩
   have e:=r.length
   simp only[Array.length_toList]at e
   omega
theorem qw.tuple (I:qw X pins σ H s) (h:Zc X.K H a xs):∃its:List Value,qD xs its/\IsTup s.heap a its.toArray/\xs.length<=sizeLine:=by
 rcases h with h | ⟨o,its,n,hk,hc,hs,hz,r⟩
 . obtain⟨z,its,r,p⟩:=h.ok I.hok
   exact⟨its,r,p,z⟩
 . refine⟨its.toList,r,⟨o,I.kIn a o hk,hc,n,by simpa using hs⟩,?_⟩
   have e:=r.length
   simp only[Array.length_toList]at e
   omega
theorem qw.list_inj (I:qw X pins σ H s) (h:SqL X.K H a xs) (h':SqL X.K H a ys):xs=ys:=by
 obtain⟨its,r,⟨o,n,e,_,_,d⟩,_⟩:=I.list h
 obtain⟨its',r',⟨o',n',e',_,_,d'⟩,_⟩:=I.list h'
 rw[e]at e';cases e'
 rw[d]at d'
 injection d' with d1 _
 have:its=its':=by simpa using congrArg Array.toList d1
 subst this
 exact r.inj r'
theorem qw.tuple_inj (I:qw X pins σ H s) (h:Zc X.K H a xs) (h':Zc X.K H a ys):xs=ys:=by
 obtain⟨its,r,⟨o,e,_,n,d⟩,_⟩:=I.tuple h
 obtain⟨its',r',⟨o',e',_,n',d'⟩,_⟩:=I.tuple h'
 rw[e]at e';cases e'
 rw[d]at d'
 injection d' with d1 _
 have:its=its':=by simpa using congrArg Array.toList d1
 subst this
 exact r.inj r'
end
abbrev Cx.wish (X:Cx) (E:Value->Shared->Prop):Cx:={X with xe:=E}
abbrev Cx.nox (X:Cx):Cx:=X.wish λ_ _=>False
theorem Cx.Ok.wish {X:Cx} (ok:X.Ok) (E:Value->Shared->Prop):(X.wish E).Ok:=
 ⟨ok.mod,ok.kind,ok.glob,ok.blt,ok.above,ok.inj,ok.has,ok.cab,ok.hd,ok.frames,ok.stk,ok.exf,ok.bs,ok.bsz,ok.noex,ok.exfs,ok.funs,ok.frf⟩
theorem Cx.Ok.unwish {X:Cx} {E:Value->Shared->Prop} (ok:(X.wish E).Ok):X.Ok:=
 ⟨ok.mod,ok.kind,ok.glob,ok.blt,ok.above,ok.inj,ok.has,ok.cab,ok.hd,ok.frames,ok.stk,ok.exf,ok.bs,ok.bsz,ok.noex,ok.exfs,ok.funs,ok.frf⟩
section
variable {X:Cx} {pins:List (Addr×Obj)} {σ:St} {H:Hp} {s:Shared} {E:Value->Shared->Prop}
theorem qw.wish (I:qw X pins σ H s) (E:Value->Shared->Prop):qw (X.wish E) pins σ H s:=⟨I.ok.wish E,I.os,I.bare,I.base,I.loc,I.cell,I.free,I.freeC,I.pin,I.hok,I.len⟩
theorem qw.unwish (I:qw (X.wish E) pins σ H s):qw X pins σ H s:=⟨I.ok.unwish,I.os,I.bare,I.base,I.loc,I.cell,I.free,I.freeC,I.pin,I.hok,I.len⟩
theorem SP.unwish {D:QF} {f:Flow} {s':Shared} (h:SP (X.wish E) pins D f s'):SP X pins D f s':=by
 cases f with
 | next=>obtain⟨σ',H',I,q⟩:=h;exact⟨σ',H',I.unwish,q⟩
 | brk=>obtain⟨σ',H',I,q⟩:=h;exact⟨σ',H',I.unwish,q⟩
 | cont=>obtain⟨σ',H',I,q⟩:=h;exact⟨σ',H',I.unwish,q⟩
 | ret u=>obtain⟨v,σ',H',I,r,q⟩:=h;exact⟨v,σ',H',I.unwish,r,q⟩
theorem kG.nox {st:List Stmt} {t:TS} (h:kG X.nox st t):kG X st t:=λpins s σ H D I hw=>
 wpAny_mono (h pins s σ H D (I.wish _) hw) (λ_ _ q=>q.unwish) λ_ _ z=>False.elim z
end
section
variable {X:Cx} {st:Stmt} {rest:List Stmt} {t u:TS} {e:Expr} {te:TE} {pos:Pos}
def Xi:TS:=λD σ H=>D.nx σ H
def xF (t u:TS):TS:=λD σ H=>t {D with nx:=u D} σ H
theorem qz:zU X [] Xi:=.of (by
 exact λ_ _ σ H _ I h=>wpAny_execs_nil ⟨σ,H,I,h⟩)
theorem qg (h1:JS X st t) (h2:zU X rest u):zU X (st::rest) (xF t u):=.of (by
 have h1:=h1.to
 have h2:=h2.to
 intro pins s σ H D I h
 refine wpAny_execs_cons (jk (h1 pins s σ H {D with nx:=u D} I h) λf s1 q=>?_)
 cases f with
 | next=>
   obtain⟨σ',H',I',q⟩:=q
   exact h2 pins s1 σ' H' D I' q
 | ret v=>exact q
 | brk=>exact q
 | cont=>exact q)
theorem qj (h1:JS X st t):zU X [st] t:=.of (by
 have h1:=h1.to
 intro pins s σ H D I h
 refine wpAny_execs_cons (jk (h1 pins s σ H D I h) λf s1 q=>?_)
 cases f with
 | next=>exact wpAny_execs_nil q
 | ret v=>exact q
 | brk=>exact q
 | cont=>exact q)
theorem qw.quiet {pins:List (Addr×Obj)} {σ:St} {H:Hp} {s:Shared} (I:qw X pins σ H s):interactive X.env=false:=by simp [interactive,I.ok.kind]
def UE (te:TE):TS:=λD σ H=>te σ H λ_ H1=>D.nx σ H1
theorem jf (he:JE X e te) (hs:swapsWith e none pos.line X.env=pure false:=by rfl):JS X (.Expr e pos) (UE te):=.of (by
 have he:=he.to
 intro pins s σ H D I h
 exact wpAny_Expr_any (jk (he pins s σ H _ I h) λv s1 ⟨x,H1,I1,r1,q1⟩=>⟨σ,H1,I1,q1⟩) I.quiet hs)
def KR (te:TE):TS:=λD σ H=>te σ H D.rt
theorem qP (he:JE X e te):JS X (.Return (some e) pos) (KR te):=.of (by
 have he:=he.to
 intro pins s σ H D I h
 exact wpAny_Return_some (jk (he pins s σ H _ I h) λv s1 ⟨x,H1,I1,r1,q1⟩=>⟨x,σ,H1,I1,r1,q1⟩))
def UC (c:TT) (t u:TS):TS:=λD σ H=>c σ H λb H1=>if b=true then t D σ H1 else u D σ H1
theorem qU {c:Expr} {a b:List Stmt} {tc:TT} (hc:JT X c tc) (ha:zU X a t) (hb:zU X b u):JS X (.If c a b pos) (UC tc t u):=.of (by
 have hc:=hc.to
 have ha:=ha.to
 have hb:=hb.to
 intro pins s σ H D I h
 refine wpAny_If (jk (hc pins s σ H _ I h) λd s1 ⟨H1,I1,q1⟩=>?_)
 cases d with
 | true=>exact ha pins s1 σ H1 D I1 q1
 | false=>exact hb pins s1 σ H1 D I1 q1)
def xG:TS:=λ_ _ _=>False
theorem qM {sts:List Stmt}:zU X sts xG:=.of (by
 exact λ_ _ _ _ _ _ h=>h.elim)
end
abbrev TG:=V->St->Hp->(St->Hp->Prop)->Prop
abbrev kF:=List V->St->Hp->(St->Hp->Prop)->Prop
def PG (X:Cx) (target:Expr) (t:TG):Prop:=
 ∀(pins:List (Addr×Obj)) (s:Shared) (σ:St) (H:Hp) (v:V) (u:Value) (Q:St->Hp->Prop),qw X pins σ H s->qO v u->t v σ H Q->
   wpAny (model X.prog X.w) X.A (assign target X.env u) (λ_ s'=>∃σ' H',qw X pins σ' H' s'/\Q σ' H') X.xe s
@[irreducible] def JG (X:Cx) (target:Expr) (t:TG):Prop:=PG X target t
theorem JG.of {X:Cx} {target:Expr} {t:TG} (h:PG X target t):JG X target t:=by unfold JG;exact h
theorem JG.to {X:Cx} {target:Expr} {t:TG} (h:JG X target t):PG X target t:=by unfold JG at h;exact h
def GB (X:Cx) (ts:List Expr) (t:kF):Prop:=
 ∀(pins:List (Addr×Obj)) (s:Shared) (σ:St) (H:Hp) (vs:List V) (us:List Value) (Q:St->Hp->Prop),qw X pins σ H s->qD vs us->t vs σ H Q->
   wpAny (model X.prog X.w) X.A (assignInOrder ((assignEach ts X.env).map (·.2)) us) (λ_ s'=>∃σ' H',qw X pins σ' H' s'/\Q σ' H') X.xe s
@[irreducible] def kK (X:Cx) (ts:List Expr) (t:kF):Prop:=GB X ts t
theorem kK.of {X:Cx} {ts:List Expr} {t:kF} (h:GB X ts t):kK X ts t:=by unfold kK;exact h
theorem kK.to {X:Cx} {ts:List Expr} {t:kF} (h:kK X ts t):GB X ts t:=by unfold kK at h;exact h
section
variable {X:Cx} {pos:Pos}
def js (i:Nat):TG:=λv σ H Q=>Q (σ.set i (some v)) H
theorem qp {i:Nat} {x:Str} (hN:X.N.Nodup) (hi:X.N[i]?=some x) (hx:uj X.env.scope x) (hf:X.fn x=true\/X.env.scope.names.lookup x=some .local:=by first | exact .inl rfl | exact .inr rfl | assumption):JG X (.Name x pos) (js i):=.of (by
 intro pins s σ H v u Q I r h
 exact wpAny_assign_Name (ZX I hN hi hx r (λs' I'=>⟨_,H,I',h⟩) hf))
def zT:kF:=λvs σ H Q=>vs=[]/\Q σ H
def j8 (t:TG) (u:kF):kF:=λvs σ H Q=>∃v r,vs=v::r/\t v σ H λσ' H'=>u r σ' H' Q
theorem jE:kK X [] zT:=.of (by
 intro pins s σ H vs us Q I r h
 obtain⟨e,h⟩:=h
 subst e
 cases r
 exact assignInOrder_nil ⟨σ,H,I,h⟩)
theorem qE {e:Expr} {es:List Expr} {t:TG} {u:kF} (h1:JG X e t) (h2:kK X es u) (hs:(assignEach (e::es) X.env).map (·.2)=assign e X.env::(assignEach es X.env).map (·.2):=by rfl):kK X (e::es) (j8 t u):=.of (by
 have h1:=h1.to
 have h2:=h2.to
 intro pins s σ H vs us Q I r h
 obtain⟨v,vr,e1,h⟩:=h
 subst e1
 cases r with
 | cons r rr=>
   rw[hs]
   refine assignInOrder_cons (jk (h1 pins s σ H _ _ _ I r h) λ_ s1 ⟨σ1,H1,I1,q1⟩=>?_)
   exact h2 pins s1 σ1 H1 _ _ Q I1 rr q1)
def zS (K:PySem.W.Frag) (n:Nat) (t:kF):TG:=λv σ H Q=>∃a xs,v=.ref a/\Zc K H a xs/\xs.length=n/\t xs σ H Q
theorem j6 {es:List Expr} {k:Nat} {t:kF} {n:Nat} (hc:X.calm=true) (h:kK X es t) (hn:(assignEach es X.env).length=n:=by rfl) (hst:(assignEach es X.env).findIdx? (·.1)=none:=by rfl):JG X (.Tuple es k pos) (zS X.K n t):=.of (by
 have h:=h.to
 intro pins s σ H v u Q I r hw
 obtain⟨a,xs,e1,hq,hl,hw⟩:=hw
 subst e1
 cases r
 obtain⟨its,rv,ht,hz⟩:=I.tuple hq
 refine assign_Tuple_tuple (I.ok.hd hc) ht (by simp [hn,<-hl,rv.length]) hst λh' hx=>?_
 have I1:qw X pins σ H {s with heap:=h'}:=I.kept (t':=s.toks) λb o e=>hx b o (Nat.ne_of_lt (Heap.lt_size e)) e
 exact h pins _ σ H xs _ Q I1 (by simpa using rv) hw)
def kU (te:TE) (g:TG):TS:=λD σ H=>te σ H λx H1=>g x σ H1 D.nx
theorem qA {i:Nat} {x:Str} {e:Expr} {te:TE} {pos':Pos} (hN:X.N.Nodup) (hi:X.N[i]?=some x) (hx:uj X.env.scope x) (he:JE X e te) (hs:swapsWith e (some (.Name x pos')) pos.line X.env=pure false:=by rfl) (hf:X.fn x=true\/X.env.scope.names.lookup x=some .local:=by first | exact .inl rfl | exact .inr rfl | assumption):JS X (.Assign [.Name x pos'] e pos) (kU te (js i)):=.of (by
 have he:=he.to
 intro pins s σ H D I h
 refine wpAny_Assign_Name (jk (he pins s σ H _ I h) λv s1 ⟨y,H1,I1,r1,q1⟩=>?_) hs
 exact ZX I1 hN hi hx r1 (λs2 I2=>⟨_,H1,I2,q1⟩) hf)
end
section
variable {X:Cx} {pos:Pos}
end
structure It where
 go:Nat->Hp->Prop
 yld:Nat->Hp->V->Hp->Prop
 stop:Nat->Hp->Prop
def JL (X:Cx) (pins:List (Addr×Obj)) (H:Hp) (b:Addr):Prop:=
 H b=none/\b≠X.env.locals/\b∉X.fs/\(b∈X.ex\/X.s₀.heap.objs.size<=b)/\(∀x c,X.env.cells.lookup x=some c->c≠b)/\∀p∈X.pn++pins,p.1≠b
theorem qw.fpOk {X:Cx} {pins:List (Addr×Obj)} {σ:St} {H H':Hp} {s:Shared} {b:Addr} (I:qw X pins σ H s) (hb:s.heap.objs.size<=b) (hn:H' b=none):JL X pins H' b:=by
 refine⟨hn,Nat.ne_of_gt (Nat.lt_of_lt_of_le I.lt hb),I.nofs hb,.inr (Nat.le_trans I.sz hb),λx c e z=>?_,λp hp z=>?_⟩
 . obtain⟨v,q⟩:=I.cell x c e
   exact absurd (Nat.lt_of_lt_of_le q.lt (by rw[z];exact hb)) (Nat.lt_irrefl _)
 . exact absurd (Nat.lt_of_lt_of_le (Heap.lt_size (I.pin p hp).1) (by rw[z];exact hb)) (Nat.lt_irrefl _)
structure XR (P:Program) (w:World) (K:PySem.W.Frag) (tg:Expr) (J:It) (fp:List Addr) (it:Addr) (tn:Nat->Heap->Prop):Prop where
 mem:it∈fp
 obj:∀i h,tn i h->∀b∈fp,∃o,h.get? b=some o/\∀v,o.data≠.cell v
 keep:∀i h h',tn i h->(∀b∈fp,∀o,h.get? b=some o->h'.get? b=some o)->tn i h'
 item:∀(X:Cx),X.prog=P->X.w=w->X.K=K->X.calm=true->∀(i:Nat) (pins:List (Addr×Obj)) (s:Shared) (σ:St) (H:Hp) (E:Value->Shared->Prop),qw X pins σ H s->(∀b∈fp,JL X pins H b)->tn i s.heap->J.go i H->
   wpAny (model P w) X.A (pyNext (.ref it)) (λr s1=>∃u,r=some u/\
     wpAny (model P w) X.A (letOwnedTupleGo tg (.ref it) u) (λ_ s2=>∃x H',qw X pins σ H' s2/\qO x u/\J.yld i H x H'/\tn (i+1) s2.heap/\∀b∈fp,H' b=none) E s1) E s
 done:∀(X:Cx),X.prog=P->X.w=w->X.K=K->X.calm=true->∀(i:Nat) (pins:List (Addr×Obj)) (s:Shared) (σ:St) (H:Hp) (E:Value->Shared->Prop),qw X pins σ H s->(∀b∈fp,JL X pins H b)->tn i s.heap->J.stop i H->
   wpAny (model P w) X.A (pyNext (.ref it)) (λr s1=>r=none/\qw X pins σ H s1) E s
 self:∀(A:Around) (i:Nat) (s:Shared) (Q:Value->Shared->Prop) (E:Value->Shared->Prop),tn i s.heap->Q (.ref it) s->wpAny (model P w) A (pyIter (.ref it)) Q E s
abbrev TI:=St->Hp->(It->Hp->Prop)->Prop
def PIE (X:Cx) (pins:List (Addr×Obj)) (σ:St) (tg:Expr) (R:It->Hp->Prop) (itv:Value) (s2:Shared):Prop:=
 ∃(it:Addr) (fp:List Addr) (tn:Nat->Heap->Prop) (J:It) (H':Hp),itv=.ref it/\qw X pins σ H' s2/\XR X.prog X.w X.K tg J fp it tn/\tn 0 s2.heap/\(∀b∈fp,JL X pins H' b)/\R J H'
def PI (X:Cx) (tg iter:Expr) (wi:TI):Prop:=
 ∀(pins:List (Addr×Obj)) (s:Shared) (σ:St) (H:Hp) (R:It->Hp->Prop),qw X pins σ H s->wi σ H R->
   wpAny (model X.prog X.w) X.A (eval iter X.env) (λv s1=>wpAny (model X.prog X.w) X.A (pyIter v) (PIE X pins σ tg R) X.xe s1) X.xe s
@[irreducible] def JI (X:Cx) (tg iter:Expr) (wi:TI):Prop:=PI X tg iter wi
theorem JI.of {X:Cx} {tg iter:Expr} {wi:TI} (h:PI X tg iter wi):JI X tg iter wi:=by unfold JI;exact h
theorem JI.to {X:Cx} {tg iter:Expr} {wi:TI} (h:JI X tg iter wi):PI X tg iter wi:=by unfold JI at h;exact h
theorem Vl {M:Model} {A:Around} {E:Value->Shared->Prop} {s:Shared} {tg:Expr} {it:Addr} {u:Value} {o:Obj} {n:String} {vs:Array Value} {Q:Unit->Shared->Prop} (ho:s.heap.get? it=some o) (hc:o.cls=.type n) (hd:o.data=.fields vs)
   (hn:["enumerate","zip","dict_itemiterator","dict_reverseitemiterator","odict_iterator","itertools.zip_longest","itertools.pairwise"].contains n=false) (hQ:Q () s):wpAny M A (letOwnedTupleGo tg (.ref it) u) Q E s:=by
 unfold letOwnedTupleGo
 cases tg<;>first
   | exact wpAny_pure hQ
   | (cases u<;>first
       | exact wpAny_pure hQ
       | (refine wpAny_bind (wpAny_load ho ?_)
          rw[hc,hd]
          show wpAny M A (if (["enumerate","zip","dict_itemiterator","dict_reverseitemiterator","odict_iterator","itertools.zip_longest","itertools.pairwise"].contains n&&vs[0]?==some (rawInt _))=true then _ else _) Q E s
          rw[if_neg (by intro h;rw[hn,Bool.false_and]at h;cases h)]
          exact wpAny_pure hQ))
def wZ (K:PySem.W.Frag) (a:Addr):It:=
 ⟨λi H=>∃xs x,SqL K H a xs/\xs[i]?=some x,λi H x H'=>H'=H/\∀xs,SqL K H a xs->xs[i]?=some x,λi H=>∃xs,SqL K H a xs/\xs.length<=i⟩
def uk (K:PySem.W.Frag) (a:Addr):It:=
 ⟨λi H=>∃xs x,Zc K H a xs/\xs[i]?=some x,λi H x H'=>H'=H/\∀xs,Zc K H a xs->xs[i]?=some x,λi H=>∃xs,Zc K H a xs/\xs.length<=i⟩
def wY (lo:Int) (n:Nat):It:=⟨λi _=>i < n,λi H x H'=>H'=H/\x=.int (lo+i),λi _=>n<=i⟩
theorem VC {P:Program} {w:World} {K:PySem.W.Frag} {tg:Expr} (a it:Addr):XR P w K tg (wZ K a) [it] it (λi h=>h.IsListIter it a i) where
 mem:=by simp
 obj:=λi h st b hb=>by
   have e:b=it:=by simpa using hb
   subst e
   obtain⟨o,e,c,d⟩:=st
   exact⟨o,e,λv z=>by rw[d]at z;cases z⟩
 keep:=λi h h' st k=>st.at λo e=>k it (by simp) o e
 item:=by
   intro X hP hw hK hc i pins s σ H E I hf st hg
   subst hP hw hK
   obtain⟨xs,x,hq,hx⟩:=hg
   obtain⟨its,rv,p,hz⟩:=I.list hq
   obtain⟨u,hu,ru⟩:=rv.get hx
   obtain⟨f0,f1,f2,f3,f4,f5⟩:=hf it (by simp)
   refine wpAny_pyNext_list_item st p.isList (x:=u) (by simpa using hu) λh' st' sb=>?_
   have I1:qw X pins σ H {s with heap:=h'}:=I.turned (t':=s.toks) (λb o hb e=>(sb.2 b hb).trans e) f0 f1 f3 f4 f5
   obtain⟨o,e,c,d⟩:=id st'
   exact⟨u,rfl,Vl (s:={s with heap:=h'}) e c d (by decide) ⟨x,H,I1,ru,⟨rfl,λys hy=>by rw[I.list_inj hy hq];exact hx⟩,st',λb hb=>(hf b hb).1⟩⟩
 done:=by
   intro X hP hw hK hc i pins s σ H E I hf st hg
   subst hP hw hK
   obtain⟨xs,hq,hx⟩:=hg
   obtain⟨its,rv,p,hz⟩:=I.list hq
   obtain⟨f0,f1,f2,f3,f4,f5⟩:=hf it (by simp)
   have hl:=rv.length
   exact wpAny_pyNext_list_end (I.ok.hd hc) st p.isList (by simp;omega) λh' eb=>⟨rfl,I.turned (t':=s.toks) (λb o hb e=>eb b o hb e) f0 f1 f3 f4 f5⟩
 self:=λ_ _ _ _ _ st h=>wpAny_pyIter_listiter st h
theorem XW {P:Program} {w:World} {K:PySem.W.Frag} {tg:Expr} (a it:Addr):XR P w K tg (uk K a) [it] it (λi h=>h.IsTupleIter it a i) where
 mem:=by simp
 obj:=λi h st b hb=>by
   have e:b=it:=by simpa using hb
   subst e
   obtain⟨o,e,c,d⟩:=st
   exact⟨o,e,λv z=>by rw[d]at z;cases z⟩
 keep:=λi h h' st k=>st.at λo e=>k it (by simp) o e
 item:=by
   intro X hP hw hK hc i pins s σ H E I hf st hg
   subst hP hw hK
   obtain⟨xs,x,hq,hx⟩:=hg
   obtain⟨its,rv,p,hz⟩:=I.tuple hq
   obtain⟨u,hu,ru⟩:=rv.get hx
   obtain⟨f0,f1,f2,f3,f4,f5⟩:=hf it (by simp)
   refine wpAny_pyNext_tuple_item st (show s.heap.IsTuple a its.toArray from p) (x:=u) (by simpa using hu) λh' st' sb=>?_
   have I1:qw X pins σ H {s with heap:=h'}:=I.turned (t':=s.toks) (λb o hb e=>(sb.2 b hb).trans e) f0 f1 f3 f4 f5
   obtain⟨o,e,c,d⟩:=id st'
   exact⟨u,rfl,Vl (s:={s with heap:=h'}) e c d (by decide) ⟨x,H,I1,ru,⟨rfl,λys hy=>by rw[I.tuple_inj hy hq];exact hx⟩,st',λb hb=>(hf b hb).1⟩⟩
 done:=by
   intro X hP hw hK hc i pins s σ H E I hf st hg
   subst hP hw hK
   obtain⟨xs,hq,hx⟩:=hg
   obtain⟨its,rv,p,hz⟩:=I.tuple hq
   obtain⟨f0,f1,f2,f3,f4,f5⟩:=hf it (by simp)
   have hl:=rv.length
   exact wpAny_pyNext_tuple_end (I.ok.hd hc) st (show s.heap.IsTuple a its.toArray from p) (by simp;omega) λh' eb=>⟨rfl,I.turned (t':=s.toks) (λb o hb e=>eb b o hb e) f0 f1 f3 f4 f5⟩
 self:=λ_ _ _ _ _ st h=>wpAny_pyIter_tupleiter st h
theorem XX {P:Program} {w:World} {K:PySem.W.Frag} {tg:Expr} (it:Addr) (lo:Int) (n:Nat):XR P w K tg (wY lo n) [it] it (λi h=>IsRangeIter h it (lo+(i:Nat)*1) ((n:Int) - (i:Nat)) 1) where
 mem:=by simp
 obj:=λi h st b hb=>by
   have e:b=it:=by simpa using hb
   subst e
   exact⟨_,st,λv z=>by
     have z':Data.fields _=Data.cell v:=z
     cases z'⟩
 keep:=λi h h' st k=>k it (by simp) _ st
 item:=by
   intro X hP hw hK hc i pins s σ H E I hf st hg
   subst hP hw hK
   obtain⟨f0,f1,f2,f3,f4,f5⟩:=hf it (by simp)
   have W:=Walks.range (prog:=X.prog) (w:=X.w) (I.ok.hd hc) it lo 1 n
   refine W.item i s _ _ hg st λv h' tk hv st' kk=>?_
   obtain⟨t,rfl⟩:=hv
   have I1:qw X pins σ H {s with heap:=h',toks:=tk}:=I.turned (λb o hb e=>kk b o (by simpa using hb) e) f0 f1 f3 f4 f5
   refine⟨_,rfl,Vl (s:={s with heap:=h',toks:=tk}) (n:="range_iterator") st' rfl rfl (by decide) ⟨.int (lo+i),H,I1,⟨t,?_⟩,⟨rfl,rfl⟩,st',λb hb=>(hf b hb).1⟩⟩
   rw[Int.mul_one]
 done:=by
   intro X hP hw hK hc i pins s σ H E I hf st hg
   subst hP hw hK
   obtain⟨f0,f1,f2,f3,f4,f5⟩:=hf it (by simp)
   exact wpAny_pyNext_range_end (I.ok.hd hc) st (by have:n<=i:=hg;omega) λh' eb=>⟨rfl,I.turned (t':=s.toks) (λb o hb e=>eb b o hb e) f0 f1 f3 f4 f5⟩
 self:=λ_ _ _ _ _ st h=>wpAny_pyIter_rangeiter st h
end L2
namespace L2
open PySem PySem.Spec PyProof.Rows
section
variable {X:Cx} {tg:Expr}
def XB (K:PySem.W.Frag) (tl:TE):TI:=λσ H R=>tl σ H λx H1=>∃a,x=.ref a/\(∃xs,SqL K H1 a xs)/\R (wZ K a) H1
def Gv (K:PySem.W.Frag) (tl:TE):TI:=λσ H R=>tl σ H λx H1=>∃a,x=.ref a/\(∃xs,Zc K H1 a xs)/\R (uk K a) H1
theorem qJ {l:Expr} {tl:TE} (hl:JE X l tl):JI X tg l (XB X.K tl):=.of (by
 have hl:=hl.to
 intro pins s σ H R I h
 refine jk (hl pins s σ H _ I h) λv s1 ⟨x,H1,I1,r1,q1⟩=>?_
 obtain⟨a,e,⟨xs,hq⟩,q⟩:=q1
 subst e
 cases r1
 obtain⟨its,rv,p,hz⟩:=I1.list hq
 refine wpAny_pyIter_list p.isList ?_
 refine⟨s1.heap.objs.size,[s1.heap.objs.size],_,_,H1,rfl,I1.kept (t':=s1.toks) λb o e=>Heap.get?_push_of_some _ e,VC a _,⟨_,Heap.get?_push_size _ rfl,rfl,rfl⟩,λb hb=>?_,q⟩
 have e:b=s1.heap.objs.size:=by simpa using hb
 subst e
 exact I1.fpOk (Nat.le_refl _) (I1.hok.fresh (Nat.le_refl _)))
theorem YQ {l:Expr} {tl:TE} (hl:JE X l tl):JI X tg l (Gv X.K tl):=.of (by
 have hl:=hl.to
 intro pins s σ H R I h
 refine jk (hl pins s σ H _ I h) λv s1 ⟨x,H1,I1,r1,q1⟩=>?_
 obtain⟨a,e,⟨xs,hq⟩,q⟩:=q1
 subst e
 cases r1
 obtain⟨its,rv,p,hz⟩:=I1.tuple hq
 refine wpAny_pyIter_tuple (show s1.heap.IsTuple a its.toArray from p) ?_
 refine⟨s1.heap.objs.size,[s1.heap.objs.size],_,_,H1,rfl,I1.kept (t':=s1.toks) λb o e=>Heap.get?_push_of_some _ e,XW a _,⟨_,Heap.get?_push_size _ rfl,rfl,rfl⟩,λb hb=>?_,q⟩
 have e:b=s1.heap.objs.size:=by simpa using hb
 subst e
 exact I1.fpOk (Nat.le_refl _) (I1.hok.fresh (Nat.le_refl _)))
theorem U7 {pins:List (Addr×Obj)} {σ:St} {H:Hp} {s:Shared} {R:It->Hp->Prop} {E:Value->Shared->Prop} {lo hi:Int} {t u v:Tok} {tk:Nat} (I:qw X pins σ H s) (h1:-(2^62)<=lo) (h2:lo < 2^62) (h3:-(2^62)<=hi) (h4:hi < 2^62)
   (q:R (wY lo (hi - lo).toNat) H):wpAny (model X.prog X.w) X.A (pyIter (.ref s.heap.objs.size)) (PIE X pins σ tg R) E {s with heap:=s.heap.push {cls:=.type "range",data:=.fields #[.int lo t,.int hi u,.int 1 v]},toks:=tk}:=by
 refine wpAny_pyIter_range (IsRange.new ..) (small_one h1 h2 h3 h4) ?_
 have I1:qw X pins σ H {s with heap:=s.heap.push {cls:=.type "range",data:=.fields #[.int lo t,.int hi u,.int 1 v]},toks:=tk}:=I.kept λb o e=>Heap.get?_push_of_some _ e
 refine⟨(s.heap.push {cls:=.type "range",data:=.fields #[.int lo t,.int hi u,.int 1 v]}).objs.size,[(s.heap.push {cls:=.type "range",data:=.fields #[.int lo t,.int hi u,.int 1 v]}).objs.size],_,_,H,rfl,
   I1.kept (t':=tk) λb o e=>Heap.get?_push_of_some _ e,XX _ lo (hi - lo).toNat,?_,λb hb=>?_,q⟩
 . have e1:lo+((0:Nat):Int)*1=lo:=by simp
   have e2:(((hi - lo).toNat:Nat):Int) - ((0:Nat):Int)=Builtin.Range.rangeSize lo hi 1:=by rw[rangeSize_one];split<;>omega
   show IsRangeIter _ _ (lo+((0:Nat):Int)*1) ((((hi - lo).toNat:Nat):Int) - ((0:Nat):Int)) 1
   rw[e1,e2]
   exact Heap.get?_push_size _ rfl
 . have e:b=(s.heap.push {cls:=.type "range",data:=.fields #[.int lo t,.int hi u,.int 1 v]}).objs.size:=by simpa using hb
   subst e
   exact I1.fpOk (Nat.le_refl _) (I1.hok.fresh (Nat.le_refl _))
def Kr (ta:TA):TI:=λσ H R=>ta σ H λvs H1=>∃j:Int,vs=[.int j]/\-(2^62)<=j/\j < 2^62/\R (wY 0 j.toNat) H1
theorem Qo {a:Expr} {ta:TA} {p pos:Pos} (hg:Gl X "range") (hm:X.mg "range"=none) (ha:JA X [a] ta) (hs:starEach [a] X.env=[(false,eval a X.env)]:=by rfl):JI X tg (.Call (.Name "range" p) [a] [] pos) (Kr ta):=.of (by
 have ha:=ha.to
 intro pins s σ H R I h
 refine Call_ (QC I hg hm boot_range (PyProof.Rows.callWith_type1 (jk (ha pos pins s σ H _ I h) λus s1 ⟨vs,H1,I1,r1,q1⟩=>?_) hs rfl))
 obtain⟨j,e,q1,q2,q⟩:=q1
 subst e
 cases r1 with
 | cons r rr=>
   cases rr
   obtain⟨t,rfl⟩:=r
   exact call_range_1 (U7 I1 (by omega) (by omega) q1 q2 (by simpa using q)))
def UD (wi:TI) (g:TG) (tb:TS):TS:=λD σ H=>wi σ H λJ H1=>∃W:Nat->Nat->St->Hp->Prop,(∃m,W 0 m σ H1)/\∀i m σ H,W i m σ H->
 (J.stop i H/\D.nx σ H)\/(J.go i H/\∃N:St->Hp->Prop,(∀σ' H',N σ' H'->∃m',m' < m/\W (i+1) m' σ' H')/\∀x H',J.yld i H x H'->g x σ H' λσ2 H2=>tb {D with nx:=N,ct:=N,bk:=D.nx} σ2 H2)
def ze (fp:List Addr) (h:Heap):List (Addr×Obj):=fp.filterMap λb=>(h.get? b).map λo=>(b,o)
theorem QR {fp:List Addr} {h:Heap} {b:Addr} {o:Obj} (hb:b∈fp) (e:h.get? b=some o):(b,o)∈ze fp h:=List.mem_filterMap.mpr ⟨b,hb,by rw[e];rfl⟩
theorem V2 {fp:List Addr} {h:Heap} {p:Addr×Obj} (hp:p∈ze fp h):p.1∈fp/\h.get? p.1=some p.2:=by
 obtain⟨b,hb,e⟩:=List.mem_filterMap.mp hp
 cases q:h.get? b with
 | none=>rw[q]at e;cases e
 | some o=>
   rw[q]at e
   have e':(b,o)=p:=Option.some.inj e
   subst e'
   exact⟨hb,q⟩
theorem qw.pinned {pins:List (Addr×Obj)} {σ:St} {H:Hp} {s:Shared} {fp:List Addr} (I:qw X pins σ H s) (hf:∀b∈fp,JL X pins H b) (ho:∀b∈fp,∃o,s.heap.get? b=some o/\∀v,o.data≠.cell v):qw X (pins++ze fp s.heap) σ H s:=
 I.pins_of λp hp=>(List.mem_append.mp hp).elim (λz=>I.pin p (List.mem_append_right _ z)) λz=>by
   obtain⟨hb,e⟩:=V2 z
   obtain⟨f0,f1,f2,_⟩:=hf p.1 hb
   obtain⟨o,e',d⟩:=ho p.1 hb
   rw[e]at e';cases e'
   exact⟨e,f0,f1,f2,d⟩
theorem qw.unpinned {pins pl:List (Addr×Obj)} {σ:St} {H:Hp} {s:Shared} (I:qw X (pins++pl) σ H s):qw X pins σ H s:=I.pins_of λp hp=>I.pin p (List.mem_append_right _ (List.mem_append_left _ hp))
theorem jx {iter:Expr} {body:List Stmt} {wi:TI} {g:TG} {tb:TS} {pos:Pos} (hp:PassesOwn (model X.prog X.w) X.A X.env X.xe) (hc:X.calm=true) (hi:JI X tg iter wi) (hg:JG X tg g) (hb:zU X body tb) (hs:∀x,foldedSetIterable iter X.env x=pure x:=by intro _;rfl):JS X (.For tg iter body [] pos) (UD wi g tb):=.of (by
 have hi:=hi.to
 have hg:=hg.to
 have hb:=hb.to
 intro pins s σ H D I h
 refine wpAny_For (jk (hi pins s σ H _ I h) λv s1 h1=>jk h1 λitv s2 h2=>?_) hs
 obtain⟨it,fp,tn,J,H2,e,I2,T,st2,f2,W,⟨m0,w0⟩,turn⟩:=h2
 subst e
 have stat:∀{H':Hp},(∀b∈fp,H' b=none)->∀b∈fp,JL X pins H' b:=λhn b hb=>⟨hn b hb,(f2 b hb).2⟩
 refine codeAny_forLoop_any (λn s'=>∃i σ' H',qw X pins σ' H' s'/\tn i s'.heap/\(∀b∈fp,H' b=none)/\W i n σ' H') ?_ m0 ⟨0,σ,H2,I2,st2,λb hb=>(f2 b hb).1,w0⟩
 rintro n s3 ⟨i,σ3,H3,I3,st3,fr3,w3⟩
 rcases turn i n σ3 H3 w3 with ⟨stop,qn⟩ | ⟨go,N,hN,step⟩
 . refine wpAny_passesOwn hp (jk (T.done X rfl rfl rfl hc i pins s3 σ3 H3 X.xe I3 (stat fr3) st3 stop) λr s4 ⟨hr,I4⟩=>?_)
   subst hr
   exact wpAny_execs_nil ⟨σ3,H3,I4,qn⟩
 . refine wpAny_passesOwn hp (jk (T.item X rfl rfl rfl hc i pins s3 σ3 H3 X.xe I3 (stat fr3) st3 go) λr s4 ⟨u,hr,h4⟩=>?_)
   subst hr
   refine wpAny_passesOwn hp (jk h4 λ_ s5 ⟨x,H5,I5,r5,y5,st5,fr5⟩=>?_)
   have I5':=I5.pinned (stat fr5) (T.obj _ _ st5)
   refine wpAny_passesOwn hp (jk (hg _ s5 σ3 H5 x u _ I5' r5 (step x H5 y5)) λ_ s6 ⟨σ6,H6,I6,q6⟩=>?_)
   refine wpAny_passesOwn hp (jk (hb _ s6 σ6 H6 _ I6 q6) λf s7 q7=>?_)
   have again:∀{σ7:St} {H7:Hp},qw X (pins++ze fp s5.heap) σ7 H7 s7->N σ7 H7->∃m,m < n/\∃i σ' H',qw X pins σ' H' s7/\tn i s7.heap/\(∀b∈fp,H' b=none)/\W i m σ' H':=λ{σ7 H7} I7 n7=>by
     obtain⟨m',hm,w7⟩:=hN σ7 H7 n7
     refine⟨m',hm,i+1,σ7,H7,I7.unpinned,T.keep _ _ _ st5 λb hb o e=>(I7.pin (b,o) (List.mem_append_right _ (List.mem_append_right _ (QR hb e)))).1,λb hb=>?_,w7⟩
     obtain⟨o,e,d⟩:=T.obj _ _ st5 b hb
     exact(I7.pin (b,o) (List.mem_append_right _ (List.mem_append_right _ (QR hb e)))).2.1
   cases f with
   | next=>obtain⟨σ7,H7,I7,n7⟩:=q7;exact again I7 n7
   | cont=>obtain⟨σ7,H7,I7,n7⟩:=q7;exact again I7 n7
   | brk=>obtain⟨σ7,H7,I7,q7⟩:=q7;exact⟨σ7,H7,I7.unpinned,q7⟩
   | ret v=>obtain⟨x7,σ7,H7,I7,r7,q7⟩:=q7;exact⟨x7,σ7,H7,I7.unpinned,r7,q7⟩)
end
theorem jA {K:PySem.W.Frag} {a:Addr} {xs:List V} {g:TG} {tb:TS} {D:QF} {σ:St} {H:Hp} (Pv:Nat->St->Hp->Prop) (h0:Pv 0 σ H) (hl:∀i σ H,i<=xs.length->Pv i σ H->SqL K H a xs)
   (hs:∀i x σ H,xs[i]?=some x->Pv i σ H->g x σ H λσ2 H2=>tb {D with nx:=Pv (i+1),ct:=Pv (i+1),bk:=D.nx} σ2 H2) (hd:∀σ H,Pv xs.length σ H->D.nx σ H):
   ∃W:Nat->Nat->St->Hp->Prop,(∃m,W 0 m σ H)/\∀i m σ H,W i m σ H->
    ((wZ K a).stop i H/\D.nx σ H)\/((wZ K a).go i H/\∃N:St->Hp->Prop,(∀σ' H',N σ' H'->∃m',m' < m/\W (i+1) m' σ' H')/\∀x H',(wZ K a).yld i H x H'->g x σ H' λσ2 H2=>tb {D with nx:=N,ct:=N,bk:=D.nx} σ2 H2):=by
 refine⟨λi m σ H=>m=xs.length - i/\i<=xs.length/\Pv i σ H,⟨xs.length,by simp,Nat.zero_le _,h0⟩,?_⟩
 rintro i m σ H ⟨rfl,hi,p⟩
 have q:=hl i σ H hi p
 by_cases hlt:i < xs.length
 . refine .inr ⟨⟨xs,xs[i],q,by simp [hlt]⟩,Pv (i+1),λσ' H' p'=>⟨xs.length - (i+1),by omega,rfl,hlt,p'⟩,λx H' y=>?_⟩
   obtain⟨e,y⟩:=y
   subst e
   exact hs i x σ _ (y xs q) p
 . have e:i=xs.length:=by omega
   subst e
   exact .inl ⟨⟨xs,q,Nat.le_refl _⟩,hd σ H p⟩
theorem yU {K:PySem.W.Frag} {a:Addr} {xs:List V} {g:TG} {tb:TS} {D:QF} {σ:St} {H:Hp} (Pv:Nat->St->Hp->Prop) (h0:Pv 0 σ H) (hl:∀i σ H,i<=xs.length->Pv i σ H->Zc K H a xs)
   (hs:∀i x σ H,xs[i]?=some x->Pv i σ H->g x σ H λσ2 H2=>tb {D with nx:=Pv (i+1),ct:=Pv (i+1),bk:=D.nx} σ2 H2) (hd:∀σ H,Pv xs.length σ H->D.nx σ H):
   ∃W:Nat->Nat->St->Hp->Prop,(∃m,W 0 m σ H)/\∀i m σ H,W i m σ H->
    ((uk K a).stop i H/\D.nx σ H)\/((uk K a).go i H/\∃N:St->Hp->Prop,(∀σ' H',N σ' H'->∃m',m' < m/\W (i+1) m' σ' H')/\∀x H',(uk K a).yld i H x H'->g x σ H' λσ2 H2=>tb {D with nx:=N,ct:=N,bk:=D.nx} σ2 H2):=by
 refine⟨λi m σ H=>m=xs.length - i/\i<=xs.length/\Pv i σ H,⟨xs.length,by simp,Nat.zero_le _,h0⟩,?_⟩
 rintro i m σ H ⟨rfl,hi,p⟩
 have q:=hl i σ H hi p
 by_cases hlt:i < xs.length
 . refine .inr ⟨⟨xs,xs[i],q,by simp [hlt]⟩,Pv (i+1),λσ' H' p'=>⟨xs.length - (i+1),by omega,rfl,hlt,p'⟩,λx H' y=>?_⟩
   obtain⟨e,y⟩:=y
   subst e
   exact hs i x σ _ (y xs q) p
 . have e:i=xs.length:=by omega
   subst e
   exact .inl ⟨⟨xs,q,Nat.le_refl _⟩,hd σ H p⟩
theorem Jj {lo:Int} {n:Nat} {g:TG} {tb:TS} {D:QF} {σ:St} {H:Hp} (Pv:Nat->St->Hp->Prop) (h0:Pv 0 σ H)
   (hs:∀i σ H,i < n->Pv i σ H->g (.int (lo+i)) σ H λσ2 H2=>tb {D with nx:=Pv (i+1),ct:=Pv (i+1),bk:=D.nx} σ2 H2) (hd:∀σ H,Pv n σ H->D.nx σ H):
   ∃W:Nat->Nat->St->Hp->Prop,(∃m,W 0 m σ H)/\∀i m σ H,W i m σ H->
    ((wY lo n).stop i H/\D.nx σ H)\/((wY lo n).go i H/\∃N:St->Hp->Prop,(∀σ' H',N σ' H'->∃m',m' < m/\W (i+1) m' σ' H')/\∀x H',(wY lo n).yld i H x H'->g x σ H' λσ2 H2=>tb {D with nx:=N,ct:=N,bk:=D.nx} σ2 H2):=by
 refine⟨λi m σ H=>m=n - i/\i<=n/\Pv i σ H,⟨n,by simp,Nat.zero_le _,h0⟩,?_⟩
 rintro i m σ H ⟨rfl,hi,p⟩
 by_cases hlt:i < n
 . refine .inr ⟨hlt,Pv (i+1),λσ' H' p'=>⟨n - (i+1),by omega,rfl,hlt,p'⟩,λx H' y=>?_⟩
   obtain⟨e,y⟩:=y
   subst e y
   exact hs i σ _ hlt p
 . have e:i=n:=by omega
   subst e
   exact .inl ⟨Nat.le_refl _,hd σ H p⟩
end L2
namespace L2
open PySem PySem.Spec PyProof.Rows
abbrev R2:=V->V->Hp->VK->Prop
def Zd (X:Cx) (f:Value->Value->Sem Value) (r:R2):Prop:=
 ∀(pins:List (Addr×Obj)) (s:Shared) (σ:St) (H:Hp) (x y:V) (v u:Value) (Q:VK),qw X pins σ H s->qO x v->qO y u->r x y H Q->
   wpAny (model X.prog X.w) X.A (f v u) (EP X pins σ Q) X.xe s
def jU (X:Cx) (f:Value) (r:List V->Hp->VK->Prop):Prop:=
 ∀(pins:List (Addr×Obj)) (s:Shared) (σ:St) (H:Hp) (xs:List V) (us:List Value) (Q:VK),qw X pins σ H s->qD xs us->r xs H Q->
   wpAny (model X.prog X.w) X.A (call f us) (EP X pins σ Q) X.xe s
def zN (r:R2) (ta tb:TE):TE:=λσ H Q=>ta σ H λx H1=>tb σ H1 λy H2=>r x y H2 Q
def rI (C:Int->Int->Prop) (g:Int->Int->V):R2:=λx y H Q=>∃i j,x=.int i/\y=.int j/\C i j/\Q (g i j) H
def x9 (g:Int->Int->V):R2:=λx y H Q=>∃i j,x=.int i/\y=.int j/\Q (g i j) H
section
variable {X:Cx} {a b c:Expr} {ta tb tc:TE} {pos:Pos}
theorem wQ (ha:PE X a ta) (hb:PE X b tb) {pins:List (Addr×Obj)} {s:Shared} {σ:St} {H:Hp} {R:V->V->Hp->Prop} (I:qw X pins σ H s)
   (h:ta σ H λx H1=>tb σ H1 λy H2=>R x y H2) {Q:Value->Shared->Prop} {f:Value->Value->Sem Value}
   (hf:∀v u s2 x y H2,qw X pins σ H2 s2->qO x v->qO y u->R x y H2->wpAny (model X.prog X.w) X.A (f v u) Q X.xe s2):
   wpAny (model X.prog X.w) X.A (eval a X.env) (λv s₁=>wpAny (model X.prog X.w) X.A (eval b X.env) (λu s₂=>wpAny (model X.prog X.w) X.A (f v u) Q X.xe s₂) X.xe s₁) X.xe s:=by
 refine jk (ha pins s σ H _ I h) λv s1 ⟨x,H1,I1,r1,q1⟩=>?_
 refine jk (hb pins s1 σ H1 _ I1 q1) λu s2 ⟨y,H2,I2,r2,q2⟩=>?_
 exact hf v u s2 x y H2 I2 r1 r2 q2
theorem qV {op:Operator} {r:R2} (ho:Zd X (binaryOp op) r) (ha:JE X a ta) (hb:JE X b tb):JE X (.BinOp a op b pos) (zN r ta tb):=.of (by
 have ha:=ha.to
 have hb:=hb.to
 intro pins s σ H Q I h
 exact wpAny_BinOp (wQ ha hb I h λv u s2 x y H2 I2 rx ry q=>ho pins s2 σ H2 x y v u Q I2 rx ry q))
theorem uZ {f:Value->Value->Sem Value} {C:Int->Int->Prop} {g:Int->Int->Int}
   (rule:∀(i j:Int) (t u:Tok) (s:Shared) (Q:Value->Shared->Prop) (E:Value->Shared->Prop),C i j->Q (.int (g i j) s.toks) {s with toks:=s.toks+1}->wpAny (model X.prog X.w) X.A (f (.int i t) (.int j u)) Q E s):
   Zd X f (rI C λi j=>.int (g i j)):=by
 intro pins s σ H x y v u Q I rx ry h
 obtain⟨i,j,rfl,rfl,hc,q⟩:=h
 obtain⟨t,rfl⟩:=rx
 obtain⟨t',rfl⟩:=ry
 exact rule i j t t' s _ _ hc ⟨.int (g i j),H,I.tok _,⟨_,rfl⟩,q⟩
theorem uY {f:Value->Value->Sem Value} {g:Int->Int->Int}
   (rule:∀(i j:Int) (t u:Tok) (s:Shared) (Q:Value->Shared->Prop) (E:Value->Shared->Prop),Q (.int (g i j) s.toks) {s with toks:=s.toks+1}->wpAny (model X.prog X.w) X.A (f (.int i t) (.int j u)) Q E s):
   Zd X f (x9 λi j=>.int (g i j)):=by
 intro pins s σ H x y v u Q I rx ry h
 obtain⟨i,j,rfl,rfl,q⟩:=h
 obtain⟨t,rfl⟩:=rx
 obtain⟨t',rfl⟩:=ry
 exact rule i j t t' s _ _ ⟨.int (g i j),H,I.tok _,⟨_,rfl⟩,q⟩
theorem wj {f:Value->Value->Sem Value} {g:Int->Int->Bool}
   (rule:∀(i j:Int) (t u:Tok) (s:Shared) (Q:Value->Shared->Prop) (E:Value->Shared->Prop),Q (.bool (g i j)) s->wpAny (model X.prog X.w) X.A (f (.int i t) (.int j u)) Q E s):
   Zd X f (x9 λi j=>.bl (g i j)):=by
 intro pins s σ H x y v u Q I rx ry h
 obtain⟨i,j,rfl,rfl,q⟩:=h
 obtain⟨t,rfl⟩:=rx
 obtain⟨t',rfl⟩:=ry
 exact rule i j t t' s _ _ ⟨.bl (g i j),H,I,rfl,q⟩
def GZ (i j:Int):Prop:=0 < j/\j < 1073741824
def GY (i j:Int):Prop:=0<=j/\j<=1000000/\i.natAbs < 2^64
def y9 (i j:Int):Prop:=(-(2^64) < i/\i < 2^64)\/(-(2^64) < j/\j < 2^64)
theorem y9.ok {i j:Int} (h:y9 i j):IntMulOk i j:=by
 rcases h with ⟨h1,h2⟩ | ⟨h1,h2⟩
 . exact .of_left (intBits_le_64 h1 h2)
 . exact .of_right (intBits_le_64 h1 h2)
theorem QP:Zd X (binaryOp .Add) (x9 λi j=>.int (i+j)):=uY λ_ _ _ _ _ _ _ q=>add_int q
theorem we:Zd X (binaryOp .Sub) (x9 λi j=>.int (i - j)):=uY λ_ _ _ _ _ _ _ q=>sub_int q
theorem Qq:Zd X (binaryOp .Mult) (rI y9 λi j=>.int (i*j)):=uZ λ_ _ _ _ _ _ _ hc q=>mul_int q hc.ok
theorem yp:Zd X (binaryOp .FloorDiv) (rI GZ λi j=>.int (i / j)):=uZ λi j _ _ _ _ _ hc q=>by
 have h1:(0:Int) < j:=hc.1
 have h2:j < 1073741824:=hc.2
 exact floordiv_int (by omega) (by rw[Int.fdiv_eq_ediv_of_nonneg i (by omega)];exact q) (.inl (PyProof.noPylong_small (by omega)))
theorem QO:Zd X (binaryOp .Mod) (rI (λ_ j=>0 < j) λi j=>.int (i % j)):=uZ λi j _ _ _ _ _ hc q=>by
 have h1:(0:Int) < j:=hc
 exact mod_int' (by omega) (by rw[Int.fmod_eq_emod_of_nonneg i (by omega)];exact q)
theorem wf:Zd X (binaryOp .Pow) (rI GY λi j=>.int (i^j.toNat)):=uZ λ_ _ _ _ _ _ _ hc q=>pow_int_small hc.1 hc.2.1 hc.2.2 q
end
def xQ:V->V->Bool
 | .non,.non=>true | .non,.int _=>true | .int _,.non=>true | .non,.bl _=>true | .bl _,.non=>true | .non,.str _=>true | .str _,.non=>true
 | .int _,.int _=>true | .bl _,.bl _=>true | .str _,.str _=>true | .byt _,.byt _=>true
 | .int _,.str _=>true | .str _,.int _=>true | .bl _,.str _=>true | .str _,.bl _=>true
 | _,_=>false
def rEq:R2:=λx y H Q=>xQ x y=true/\Q (.bl (decide (x=y))) H
def rNe:R2:=λx y H Q=>xQ x y=true/\Q (.bl (!decide (x=y))) H
theorem Vq {i j:Int}:decide (V.int i=V.int j)=(i==j):=by
 rw[Bool.eq_iff_iff]
 simp
theorem kn {i j:Bool}:decide (V.bl i=V.bl j)=(i==j):=by
 rw[Bool.eq_iff_iff]
 simp
theorem Vp {i j:Str}:decide (V.str i=V.str j)=(i==j):=by
 rw[Bool.eq_iff_iff]
 simp
theorem Vr {i j:Array UInt8}:decide (V.byt i=V.byt j)=(i.toList==j.toList):=by
 rw[Bool.eq_iff_iff]
 cases i
 cases j
 simp
section
variable {X:Cx} {a b c:Expr} {ta tb tc:TE} {pos:Pos}
theorem qT {pins:List (Addr×Obj)} {σ:St} {H:Hp} {s:Shared} {Q:VK} {k k':Bool} (I:qw X pins σ H s) (q:Q (.bl k) H) (e:k=k'):EP X pins σ Q (.bool k') s:=by
 subst e
 exact⟨.bl k,H,I,rfl,q⟩
theorem Qs:Zd X (compareOp .Eq) rEq:=by
 intro pins s σ H x y v u Q I rx ry h
 obtain⟨hs,q⟩:=h
 cases x with
 | non=>
   cases rx
   cases y with
   | non=>cases ry;exact PySem.EqNone.eq_none_none (qT I q (by simp))
   | bl j=>cases ry;exact PySem.EqNone.eq_none_bool (qT I q (by simp))
   | int j=>obtain⟨t',rfl⟩:=ry;exact PySem.EqNone.eq_none_int (qT I q (by simp))
   | str j=>obtain⟨t',rfl⟩:=ry;exact PySem.EqNone.eq_none_str (qT I q (by simp))
   | _=>exact absurd (show false=true from hs) Bool.false_ne_true
 | bl i=>
   cases rx
   cases y with
   | non=>cases ry;exact PySem.EqNone.eq_bool_none (qT I q (by simp))
   | bl j=>cases ry;exact eq_bool (qT I q kn)
   | str j=>obtain⟨t',rfl⟩:=ry;exact PySem.EqMixed.eq_bool_str (qT I q (by simp))
   | _=>exact absurd (show false=true from hs) Bool.false_ne_true
 | int i=>
   obtain⟨t,rfl⟩:=rx
   cases y with
   | non=>cases ry;exact PySem.EqNone.eq_int_none (qT I q (by simp))
   | int j=>obtain⟨t',rfl⟩:=ry;exact eq_int (qT I q Vq)
   | str j=>obtain⟨t',rfl⟩:=ry;exact PySem.EqMixed.eq_int_str (qT I q (by simp))
   | _=>exact absurd (show false=true from hs) Bool.false_ne_true
 | str i=>
   obtain⟨t,rfl⟩:=rx
   cases y with
   | non=>cases ry;exact PySem.EqNone.eq_str_none (qT I q (by simp))
   | bl j=>cases ry;exact PySem.EqMixed.eq_str_bool (qT I q (by simp))
   | int j=>obtain⟨t',rfl⟩:=ry;exact PySem.EqMixed.eq_str_int (qT I q (by simp))
   | str j=>obtain⟨t',rfl⟩:=ry;exact eq_str (qT I q Vp)
   | _=>exact absurd (show false=true from hs) Bool.false_ne_true
 | byt i=>
   obtain⟨t,rfl⟩:=rx
   cases y with
   | byt j=>obtain⟨t',rfl⟩:=ry;exact PySem.W.eq_bytes (qT I q Vr)
   | _=>exact absurd (show false=true from hs) Bool.false_ne_true
 | _=>cases y<;>exact absurd (show false=true from hs) Bool.false_ne_true
theorem vm:Zd X (compareOp .NotEq) rNe:=by
 intro pins s σ H x y v u Q I rx ry h
 obtain⟨hs,q⟩:=h
 cases x with
 | non=>
   cases rx
   cases y with
   | non=>cases ry;exact PySem.EqNone.ne_none_none (qT I q (by simp))
   | bl j=>cases ry;exact PySem.EqNone.ne_none_bool (qT I q (by simp))
   | int j=>obtain⟨t',rfl⟩:=ry;exact PySem.EqNone.ne_none_int (qT I q (by simp))
   | str j=>obtain⟨t',rfl⟩:=ry;exact PySem.EqNone.ne_none_str (qT I q (by simp))
   | _=>exact absurd (show false=true from hs) Bool.false_ne_true
 | bl i=>
   cases rx
   cases y with
   | non=>cases ry;exact PySem.EqNone.ne_bool_none (qT I q (by simp))
   | bl j=>cases ry;exact ne_bool (qT I q (congrArg not kn))
   | str j=>obtain⟨t',rfl⟩:=ry;exact PySem.EqMixed.ne_bool_str (qT I q (by simp))
   | _=>exact absurd (show false=true from hs) Bool.false_ne_true
 | int i=>
   obtain⟨t,rfl⟩:=rx
   cases y with
   | non=>cases ry;exact PySem.EqNone.ne_int_none (qT I q (by simp))
   | int j=>obtain⟨t',rfl⟩:=ry;exact ne_int (qT I q (congrArg not Vq))
   | str j=>obtain⟨t',rfl⟩:=ry;exact PySem.EqMixed.ne_int_str (qT I q (by simp))
   | _=>exact absurd (show false=true from hs) Bool.false_ne_true
 | str i=>
   obtain⟨t,rfl⟩:=rx
   cases y with
   | non=>cases ry;exact PySem.EqNone.ne_str_none (qT I q (by simp))
   | bl j=>cases ry;exact PySem.EqMixed.ne_str_bool (qT I q (by simp))
   | int j=>obtain⟨t',rfl⟩:=ry;exact PySem.EqMixed.ne_str_int (qT I q (by simp))
   | str j=>obtain⟨t',rfl⟩:=ry;exact ne_str (qT I q (congrArg not Vp))
   | _=>exact absurd (show false=true from hs) Bool.false_ne_true
 | byt i=>
   obtain⟨t,rfl⟩:=rx
   cases y with
   | byt j=>obtain⟨t',rfl⟩:=ry;exact PySem.W.ne_bytes (qT I q (congrArg not Vr))
   | _=>exact absurd (show false=true from hs) Bool.false_ne_true
 | _=>cases y<;>exact absurd (show false=true from hs) Bool.false_ne_true
theorem Qr:Zd X (compareOp .Lt) (x9 λi j=>.bl (decide (i < j))):=wj λ_ _ _ _ _ _ _ q=>lt_int q
theorem Q7:Zd X (compareOp .Gt) (x9 λi j=>.bl (decide (j < i))):=wj λ_ _ _ _ _ _ _ q=>gt_int q
theorem vn:Zd X (compareOp .GtE) (x9 λi j=>.bl (decide (j<=i))):=wj λ_ _ _ _ _ _ _ q=>ge_int q
theorem V0:Zd X (compareOp .In) (λx y H Q=>∃i j,x=.str i/\y=.str j/\Q (.bl (!(Builtin.Str.occurrences j i 0 j.length 1).isEmpty)) H):=by
 intro pins s σ H x y v u Q I rx ry h
 obtain⟨i,j,rfl,rfl,q⟩:=h
 obtain⟨t,rfl⟩:=rx
 obtain⟨t',rfl⟩:=ry
 exact in_str (qT I q rfl)
theorem qx (b:Expr) {op:CmpOp} (h:op≠.In:=by decide) (h2:op≠.NotIn:=by decide):behindInMarks op b=false:=by
 have e1:(op==CmpOp.In)=false:=by cases op<;>first | rfl | exact absurd rfl h
 have e2:(op==CmpOp.NotIn)=false:=by cases op<;>first | rfl | exact absurd rfl h2
 cases b<;>simp [behindInMarks,e1,e2]
theorem QS {op:CmpOp} {r:R2} (ho:Zd X (compareOp op) r) (ha:JE X a ta) (hb:JE X b tb) (hm:behindInMarks op b=false):JE X (.Compare a [op] [b] pos) (zN r ta tb):=.of (by
 have ha:=ha.to
 have hb:=hb.to
 intro pins s σ H Q I h
 exact wpAny_Compare1 (wQ ha hb I h λv u s2 x y H2 I2 rx ry q=>ho pins s2 σ H2 x y v u Q I2 rx ry q) hm)
def Xh (t:TE):TT:=λσ H Q=>t σ H λx H'=>∃k,x=.bl k/\Q k H'
theorem qt {op:CmpOp} {r:R2} (ho:Zd X (compareOp op) r) (ha:JE X a ta) (hb:JE X b tb) (hm:behindInMarks op b=false):JT X (.Compare a [op] [b] pos) (Xh (zN r ta tb)):=.of (by
 have ha:=ha.to
 have hb:=hb.to
 intro pins s σ H Q I h
 refine wpAny_isTrue_Compare1 (jk (ha pins s σ H _ I h) λv s1 ⟨x,H1,I1,r1,q1⟩=>jk (hb pins s1 σ H1 _ I1 q1) λu s2 ⟨y,H2,I2,r2,q2⟩=>
   jk (ho pins s2 σ H2 x y v u _ I2 r1 r2 q2) λc s3 ⟨z,H3,I3,r3,k,e,q3⟩=>?_) hm
 subst e
 cases r3
 exact wpAny_truthy_bool ⟨H3,I3,q3⟩)
theorem zp:(sizeLine:Nat) < 2^63:=by rw[sizeLine_eq];decide
theorem zi:Zd X (binaryOp .Add) (λx y H Q=>∃i j,x=.str i/\y=.str j/\i.length+j.length<=sizeLine/\Q (.str (i++j)) H):=by
 intro pins s σ H x y v u Q I rx ry h
 obtain⟨i,j,rfl,rfl,hz,q⟩:=h
 obtain⟨t,rfl⟩:=rx
 obtain⟨t',rfl⟩:=ry
 exact add_str (λt' tk=>⟨.str (i++j),H,I.tok _,⟨_,rfl⟩,q⟩) hz
theorem Qh {x:V} {us:List Value} (r:qD [x] us):∃u,us=[u]/\qO x u:=by
 cases r with
 | cons r1 r2=>cases r2;exact⟨_,rfl,r1⟩
theorem Xd {x y:V} {us:List Value} (r:qD [x,y] us):∃u w',us=[u,w']/\qO x u/\qO y w':=by
 cases r with
 | cons r1 r2=>
   cases r2 with
   | cons r3 r4=>cases r4;exact⟨_,_,rfl,r1,r3⟩
theorem Yl (hc:X.calm=true):jU X (.builtin "max") (λxs H Q=>∃i j,xs=[.int i,.int j]/\Q (.int (if j > i then j else i)) H):=by
 intro pins s σ H xs us Q I r h
 obtain⟨i,j,rfl,q⟩:=h
 obtain⟨u,w',rfl,⟨t,rfl⟩,⟨t',rfl⟩⟩:=Xd r
 refine max_two_ints (I.ok.hd hc) λh' tk k=>⟨_,H,I.kept k,?_,q⟩
 by_cases hj:j > i
 . rw[if_pos hj,if_pos hj];exact⟨_,rfl⟩
 . rw[if_neg hj,if_neg hj];exact⟨_,rfl⟩
theorem Us (hc:X.calm=true):jU X (.builtin "min") (λxs H Q=>∃i j,xs=[.int i,.int j]/\Q (.int (if j < i then j else i)) H):=by
 intro pins s σ H xs us Q I r h
 obtain⟨i,j,rfl,q⟩:=h
 obtain⟨u,w',rfl,⟨t,rfl⟩,⟨t',rfl⟩⟩:=Xd r
 refine min_two_ints (I.ok.hd hc) λh' tk k=>⟨_,H,I.kept k,?_,q⟩
 by_cases hj:j < i
 . rw[if_pos hj,if_pos hj];exact⟨_,rfl⟩
 . rw[if_neg hj,if_neg hj];exact⟨_,rfl⟩
theorem Ut:jU X (.type "int") (λxs H Q=>(∃i,xs=[.int i]/\Q (.int i) H)\/∃k,xs=[.bl k]/\Q (.int (if k then 1 else 0)) H):=by
 intro pins s σ H xs us Q I r h
 rcases h with ⟨i,rfl,q⟩ | ⟨k,rfl,q⟩
 . obtain⟨u,rfl,t,rfl⟩:=Qh r
   exact call_int_int ⟨.int i,H,I,⟨_,rfl⟩,q⟩
 . obtain⟨u,rfl,r1⟩:=Qh r
   cases r1
   exact call_int_bool ⟨.int (if k then 1 else 0),H,I.tok _,⟨_,rfl⟩,q⟩
end
end L2
namespace L2
open PySem PySem.Spec PyProof.Rows
structure WL (h:Heap) (x dx C:Addr) (mA:Str->Option Value):Prop where
 obj:h.get? x=some (PySem.W.instObj C dx)
 ns:h.Ns1 dx mA
 ne:dx≠x
theorem Jg {h:Heap} {dx:Addr} {mA:Str->Option Value} (n:h.Ns1 dx mA):∃od,h.get? dx=some od/\∀name,PySem.W.lookIn name od=some (mA name):=by
 obtain⟨o,es,ep,ho,hd,hk,_,hm⟩:=n
 refine⟨o,ho,λname=>?_⟩
 have e:=hm name
 unfold nsFind findBy at e
 rw[<-Array.find?_toList]at e
 unfold PySem.W.lookIn
 rw[hd]
 dsimp only
 split
 . rename_i y q
   rw[q]at e
   exact congrArg some e
 . rename_i q
   rw[q]at e
   have a:es.toList.any (·.refKey)=false:=by
     rw[List.any_eq_false]
     intro y hy
     obtain⟨z,t,hkey⟩:=hk y (Array.mem_toList_iff.mp hy)
     simp [DictEntry.refKey,hkey]
   have a':¬es.toList.any (·.refKey)=true:=by rw[a];exact Bool.false_ne_true
   rw[if_neg a']
   exact congrArg some e
theorem WL.look {h:Heap} {x dx C:Addr} {mA:Str->Option Value} (I:WL h x dx C mA):∃od,PySem.W.InstAt h x (PySem.W.instObj C dx) C (some od)/\∀name,PySem.W.lookIn name od=some (mA name):=
 let ⟨od,ho,hl⟩:=Jg I.ns
 ⟨od,⟨I.obj,rfl,rfl,ho⟩,hl⟩
section
variable {prog:Program} {w:World} {A:Around} {E:Value->Shared->Prop} {s:Shared} {K:PySem.W.Frag} {x dx C f:Addr} {mA:Str->Option Value} {name:Str} {v:Value}
theorem yS {expr:Bool} {Q:Value->Shared->Prop} (X:K.In s.heap) (I:WL s.heap x dx C mA) (hg:PySem.W.plainGet K C name=true) (hh:PySem.W.hasDictIn K C=true)
   (ha:PySem.W.findIn K (.ref C) name=some none) (hv:mA name=some v) (hv':PySem.W.handedIn v=true) (h:Q v {s with toks:=s.toks+1}):
   wpAny (model prog w) A (getAttr (.ref x) name expr) Q E s:=by
 obtain⟨od,J,hl⟩:=I.look
 exact PySem.W.get_value X J (PySem.W.plainGet_of hg).1 (PySem.W.findObj_own hh ha rfl (by rw[hl,hv])) hv' h
theorem ki {pl:Sem Bool} {Q:Value×List Value->Shared->Prop} (X:K.In s.heap) (I:WL s.heap x dx C mA) (hg:PySem.W.plainGet K C name=true)
   (hf:PySem.W.findIn K (.ref C) name=some (some (.ref f))) (ht:PySem.W.isFn K (.ref f)=true) (hv:mA name=none) (h:Q (.ref f,[.ref x]) s):
   wpAny (model prog w) A (getMethod (.ref x) name pl) Q E s:=by
 obtain⟨od,J,hl⟩:=I.look
 exact PySem.W.method_fn X J (PySem.W.plainGet_of hg).1 (PySem.W.plainGet_of hg).2 hf (beq_iff_eq.mp ht) (by show (PySem.W.lookIn name od).map (·.isSome)=some false;rw[hl,hv];rfl) h
theorem yb {ns:List Str} {Q:Unit->Shared->Prop} (X:K.In s.heap) (I:WL s.heap x dx C mA)
   (hs:PySem.W.findIn K (.ref C) "__setattr__"=some (some (.builtin "object.__setattr__"))) (hp:PySem.W.plainOver K C=true) (ht:PySem.W.takerIn K C name=some none) (hh:PySem.W.hasDictIn K C=true)
   (hw:PySem.Within mA ns) (hsz:ns.length<=sizeLine)
   (h:∀h',WL h' x dx C (λy=>if y=name then some v else mA y)->Heap.SameBut dx s.heap h'->Q () {s with heap:=h',toks:=s.toks+2}):
   wpAny (model prog w) A (setAttr (.ref x) name v) Q E s:=by
 obtain⟨od,J,hl⟩:=I.look
 refine PySem.W.set_plain X J hs (PySem.W.osa_open (s:={s with toks:=s.toks+1}) (r:=none) X J hp ht λb=>?_)
 obtain⟨cd,hc,hd'⟩:=PySem.W.any_some hh
 have hx:s.heap.get? x=some ⟨.ref C,some dx,.plain,#[]⟩:=I.obj
 refine wpAny_bind (wpAny_pure (wpAny_bind (wpAny_bind (wpAny_loadPart hx (wpAny_bind (PySem.W.Looks.here (s:={s with toks:=s.toks+1}) (PySem.W.looks_clsIn X hc) ?_))))))
 rw[hd']
 refine wpAny_pure (a:=some dx) (wpAny_bind (wpAny_pure (wpAny_bind ?_)))
 refine wpAny_nsSet1 (s:={s with toks:=s.toks+1}) I.ns λh' hn2 hs2=>?_
 obtain⟨oD,esD,epD,hoD,hdD,hcD⟩:=hn2.count (PySem.Within.cons name v hw)
 refine wpAny_bind (wpAny_lookBehind hoD (by rw[hdD];exact pastItsLine_dict (Nat.le_trans hcD (by rw[List.length_cons];omega))) ?_)
 exact wpAny_pure (h _ ⟨(hs2.2 _ (Ne.symm I.ne)).trans I.obj,hn2,I.ne⟩ hs2)
theorem vD {R:Result->Shared->Prop} {vs:List Value} {kw:List (Str×Value)} (X:K.In s.heap) (hm:PySem.W.makesIn K C=true)
   (hi:PySem.W.findIn K (.ref C) "__init__"=some (some (.ref f))) (hf:PySem.W.typeIn K (.ref f)=some (.type "function"))
   (h:codeAny (model prog w) (A.under (.builtin "type.__call__" ⟨.ref C::vs,kw⟩)) (.call (.ref f) ⟨.ref (s.heap.objs.size+1)::vs,kw⟩) (PySem.W.InitBack (s.heap.objs.size+1) R)
     {s with heap:=(s.heap.push PySem.W.emptyDict).push (PySem.W.instObj C s.heap.objs.size)}):
   codeAny (model prog w) A (.call (.ref C) ⟨vs,kw⟩) R s:=by
 obtain⟨hh,g,d,t,os⟩:=s
 exact PySem.W.make_core (PySem.W.makes_of X hm) (PySem.W.looks_findIn X hi) (λself=>PySem.W.bind_fn X self hf) (.inl rfl) h
end
def QN (f:Str) (v:V):List (Str×V)->List (Str×V)
 | []=>[(f,v)]
 | (g,x)::r=>if g=f then (g,v)::r else (g,x)::QN f v r
theorem Zt (f g:Str) (v:V):∀fs:List (Str×V),(QN f v fs).lookup g=if g=f then some v else fs.lookup g
 | []=>by
   show List.lookup g [(f,v)]=_
   by_cases h:g=f
   . have hb:(g==f)=true:=beq_iff_eq.mpr h
     simp only[List.lookup,hb,if_pos h]
   . have hb:(g==f)=false:=beq_eq_false_iff_ne.mpr h
     simp only[List.lookup,hb,if_neg h]
 | (k,x)::r=>by
   have ih:=Zt f g v r
   rw[show QN f v ((k,x)::r)=(if k=f then (k,v)::r else (k,x)::QN f v r) from rfl]
   by_cases hk:k=f
   . rw[if_pos hk]
     by_cases h:g=k
     . have hb:(g==k)=true:=beq_iff_eq.mpr h
       simp only[List.lookup,hb,if_pos (h.trans hk)]
     . have hb:(g==k)=false:=beq_eq_false_iff_ne.mpr h
       simp only[List.lookup,hb,if_neg (λe:g=f=>h (e.trans hk.symm))]
   . rw[if_neg hk]
     by_cases h:g=k
     . have hb:(g==k)=true:=beq_iff_eq.mpr h
       simp only[List.lookup,hb,if_neg (λe:g=f=>hk (h.symm.trans e))]
     . have hb:(g==k)=false:=beq_eq_false_iff_ne.mpr h
       simp only[List.lookup,hb]
       exact ih
theorem Zm (f:Str) (v:V):∀fs:List (Str×V),f∈(QN f v fs).map (·.1)/\∀g,g∈fs.map (·.1)->g∈(QN f v fs).map (·.1)
 | []=>⟨by simp [QN],λg h=>by simp at h⟩
 | (k,x)::r=>by
   obtain⟨i1,i2⟩:=Zm f v r
   rw[show QN f v ((k,x)::r)=(if k=f then (k,v)::r else (k,x)::QN f v r) from rfl]
   by_cases hk:k=f
   . rw[if_pos hk]
     subst hk
     exact⟨by simp,λg h=>by simpa using h⟩
   . rw[if_neg hk]
     refine⟨?_,λg h=>?_⟩
     . rw[List.map_cons]
       exact List.mem_cons_of_mem _ i1
     . rw[List.map_cons]at h ⊢
       rcases List.mem_cons.mp h with e | e
       . exact List.mem_cons.mpr (.inl e)
       . exact List.mem_cons_of_mem _ (i2 g e)
theorem Zu (f:Str) (v:V):∀fs:List (Str×V),(QN f v fs).length<=fs.length+1
 | []=>by simp [QN]
 | (k,x)::r=>by
   have ih:=Zu f v r
   rw[show QN f v ((k,x)::r)=(if k=f then (k,v)::r else (k,x)::QN f v r) from rfl]
   by_cases hk:k=f
   . rw[if_pos hk,List.length_cons,List.length_cons];omega
   . rw[if_neg hk,List.length_cons,List.length_cons];omega
theorem Q4.some_of {v:V} {o:Option Value} (r:Q4 (some v) o):∃u,o=some u/\qO v u:=by
 cases o with
 | none=>exact(show False from r).elim
 | some u=>exact⟨u,rfl,r⟩
theorem Q4.none_of {o:Option Value} (r:Q4 none o):o=none:=by
 cases o with
 | none=>rfl
 | some u=>exact(show False from r).elim
theorem Yk {v:V} {u:Value} (r:qO v u):PySem.W.handedIn u=true:=by
 cases v with
 | non=>cases (show u=Value.none from r);rfl
 | bl b=>cases (show u=Value.bool b from r);rfl
 | int i=>obtain⟨t,e⟩:=(show ∃t,u=Value.int i t from r);cases e;rfl
 | str x=>obtain⟨t,e⟩:=(show ∃t,u=Value.str x t from r);cases e;rfl
 | byt b=>obtain⟨t,e⟩:=(show ∃t,u=Value.bytes b t from r);cases e;rfl
 | flt b=>obtain⟨t,e⟩:=(show ∃t,u=Value.float b t from r);cases e;rfl
 | ref a=>cases (show u=Value.ref a from r);rfl
 | ty n=>cases (show u=Value.type n from r);rfl
section
variable {P:Program} {w:World} {H H':Hp} {h h':Heap} {a C dx:Addr} {fs fs':List (Str×V)}
theorem ZO (hok:QZ P w H h) (e:H a=some (.ins C dx fs)):∃mA,WL h a dx C mA/\(∀f,Q4 (fs.lookup f) (mA f))/\PySem.Within mA (fs.map (·.1))/\fs.length<=1000/\H dx=some (.own a):=by
 obtain⟨d,z,ne,ob,mA,n,r,q⟩:=(show qC P w H h a (.ins C dx fs) from hok a _ e)
 exact⟨mA,⟨ob,n,ne⟩,r,q,z,d⟩
end
structure WN (K:PySem.W.Frag) (C:Addr):Prop where
 pg:PySem.W.plainGet K C Str.empty=true
 hd:PySem.W.hasDictIn K C=true
 po:PySem.W.plainOver K C=true
 sa:PySem.W.findIn K (.ref C) "__setattr__"=some (some (.builtin "object.__setattr__"))
theorem WN.get {K:PySem.W.Frag} {C:Addr} (c:WN K C) (f:Str):PySem.W.plainGet K C f=true:=c.pg
def j9 (K:PySem.W.Frag) (C:Addr) (f:Str):Prop:=PySem.W.findIn K (.ref C) f=some none
theorem j9.taker {K:PySem.W.Frag} {C:Addr} {f:Str} (n:j9 K C f):PySem.W.takerIn K C f=some none:=by
 unfold PySem.W.takerIn
 rw[show PySem.W.findIn K (.ref C) f=some none from n]
 rfl
structure Con (K:PySem.W.Frag) (C:Addr) (f:Str) (v:V) (u:Value):Prop where
 at_:PySem.W.findIn K (.ref C) f=some (some u)
 rel:qO v u
 get:PySem.W.specialIn K u "__get__"=some none
 cp:PySem.W.copiedNames.contains f=false
structure Uv (K:PySem.W.Frag) (C:Addr) (m:Str) (f:Addr):Prop where
 at_:PySem.W.findIn K (.ref C) m=some (some (.ref f))
 fn:PySem.W.isFn K (.ref f)=true
 kp:PySem.W.keepIn K (.ref f)=true
section
variable {X:Cx} {pins:List (Addr×Obj)} {σ:St} {H:Hp} {s:Shared} {a C dx:Addr} {fs:List (Str×V)} {f:Str} {v:V} {A:Around} {E:Value->Shared->Prop}
theorem Wz {b:Bool} {Q:Value->Shared->Prop} (I:qw X pins σ H s) (e:H a=some (.ins C dx fs)) (c:WN X.K C) (n:j9 X.K C f) (l:fs.lookup f=some v)
   (h:∀u s',qw X pins σ H s'->qO v u->Q u s'):wpAny (model X.prog X.w) A (getAttr (.ref a) f b) Q E s:=by
 obtain⟨mA,O,r,_,_,_⟩:=ZO I.hok e
 obtain⟨u,hu,ru⟩:=Q4.some_of (v:=v) (o:=mA f) (by rw[<-l];exact r f)
 exact yS I.kIn O (c.get f) c.hd n hu (Yk ru) (h u _ (I.tok _) ru)
theorem zC {m:Str} {g:Addr} {pl:Sem Bool} {Q:Value×List Value->Shared->Prop} (I:qw X pins σ H s) (e:H a=some (.ins C dx fs)) (c:WN X.K C) (k:Uv X.K C m g) (l:fs.lookup m=none)
   (h:Q (.ref g,[.ref a]) s):wpAny (model X.prog X.w) A (getMethod (.ref a) m pl) Q E s:=by
 obtain⟨mA,O,r,_,_,_⟩:=ZO I.hok e
 have hn:mA m=none:=Q4.none_of (by rw[<-l];exact r m)
 exact ki I.kIn O (c.get m) k.at_ k.fn hn h
theorem Wc {y:V} {u:Value} {Q:Unit->Shared->Prop} (I:qw X pins σ H s) (e:H a=some (.ins C dx fs)) (c:WN X.K C) (n:j9 X.K C f) (hl:fs.length < 1000) (ry:qO y u)
   (h:∀s',qw X pins σ (upd H a (.ins C dx (QN f y fs))) s'->Q () s'):wpAny (model X.prog X.w) A (setAttr (.ref a) f u) Q E s:=by
 obtain⟨mA,O,r,wi,_,ho⟩:=ZO I.hok e
 have hz:(fs.map (·.1)).length<=sizeLine:=by rw[List.length_map,sizeLine_eq];omega
 refine yb I.kIn O c.sa c.po n.taker c.hd wi hz λh' O' sb=>h _ ?_
 have hd:∃o,h'.get? dx=some o:=let ⟨o,_,_,e',_⟩:=O'.ns;⟨o,e'⟩
 refine I.write (x:=a) (e:=dx) (by rw[e];exact True.intro) (.inr ho) (λb q hb z=>(sb.2 b hb).trans z) hd ?_
 refine⟨by rw[qf O.ne];exact ho,?_,O.ne,O'.obj,_,O'.ns,λg=>?_,λg hg=>?_⟩
 . have:=Zu f y fs;omega
 . show Q4 ((QN f y fs).lookup g) (if g=f then some u else mA g)
   rw[Zt]
   by_cases q:g=f
   . rw[if_pos q,if_pos q];exact ry
   . rw[if_neg q,if_neg q];exact r g
 . by_cases q:g=f
   . rw[q];exact(Zm f y fs).1
   . refine(Zm f y fs).2 g (wi g λz=>hg ?_)
     show (if g=f then some u else mA g)=none
     rw[if_neg q];exact z
theorem qw.made (I:qw X pins σ H s):qw X pins σ (upd (upd H s.heap.objs.size (.own (s.heap.objs.size+1))) (s.heap.objs.size+1) (.ins C s.heap.objs.size []))
   {s with heap:=(s.heap.push PySem.W.emptyDict).push (PySem.W.instObj C s.heap.objs.size)}:=by
 have e1:(s.heap.push PySem.W.emptyDict).get? s.heap.objs.size=some PySem.W.emptyDict:=Heap.get?_push_size s.heap rfl
 have e2:((s.heap.push PySem.W.emptyDict).push (PySem.W.instObj C s.heap.objs.size)).get? (s.heap.objs.size+1)=some (PySem.W.instObj C s.heap.objs.size):=by
   have:=Heap.get?_push_size (s.heap.push PySem.W.emptyDict) (o:=PySem.W.instObj C s.heap.objs.size) rfl
   rwa [Heap.size_push]at this
 have e3:(s.heap.push PySem.W.emptyDict).Ns s.heap.objs.size (λ_=>none):=⟨PySem.W.emptyDict,#[],_,e1,rfl,(λe he=>absurd he (by simp)),λ_=>rfl⟩
 have I1:=I.laid (a:=s.heap.objs.size) (o:=.own (s.heap.objs.size+1)) (h':=s.heap.push PySem.W.emptyDict) (t':=s.toks) (λb u q=>Heap.get?_push_of_some _ q) (Nat.le_refl _) ⟨_,e1⟩
 refine I1.laid (a:=s.heap.objs.size+1) (o:=.ins C s.heap.objs.size []) (t':=s.toks) (λb u q=>Heap.get?_push_of_some _ q) (Nat.le_of_eq (Heap.size_push _ _)) ?_
 have ne:s.heap.objs.size≠s.heap.objs.size+1:=Nat.ne_of_lt (Nat.lt_succ_self _)
 refine⟨by rw[qf ne,qd],Nat.zero_le _,ne,e2,λ_=>none,(Heap.Ns1.of_empty e3).at λo q=>Heap.get?_push_of_some _ q,λ_=>True.intro,λy hy=>absurd rfl hy⟩
theorem Vu {prog:Program} {w:World} {env:Env} {e:Expr} {f:Str} {pos:Pos} {s:Shared} {Q:Value->Shared->Prop} (hb:attributeBase e f env (eval e env)=eval e env)
   (h:wpAny (model prog w) A (eval e env) (λo s₁=>wpAny (model prog w) A (getAttr o f true) Q E s₁) E s):wpAny (model prog w) A (eval (.Attribute e f pos) env) Q E s:=
 Attribute_any_ h (by rw[arm_eval_Attribute,hb])
end
def ut (K:PySem.W.Frag) (ta:TE) (f:Str):TE:=λσ H Q=>ta σ H λx H1=>∃a C dx fs v,x=.ref a/\H1 a=some (.ins C dx fs)/\WN K C/\j9 K C f/\fs.lookup f=some v/\Q v H1
def K9 (K:PySem.W.Frag) (ta tv:TE) (f:Str):TS:=λD σ H=>tv σ H λy H1=>ta σ H1 λx H2=>∃a C dx fs,x=.ref a/\H2 a=some (.ins C dx fs)/\WN K C/\j9 K C f/\fs.length < 1000/\
 D.nx σ (upd H2 a (.ins C dx (QN f y fs)))
section
variable {X:Cx} {o e value:Expr} {f:Str} {pos pos' tpos:Pos} {ta tv:TE}
theorem Jz (he:JE X e ta) (hb:attributeBase e f X.env (eval e X.env)=eval e X.env):JE X (.Attribute e f pos) (ut X.K ta f):=.of (by
 have he:=he.to
 intro pins s σ H Q I h
 refine Vu hb (jk (he pins s σ H _ I h) λu s1 ⟨x,H1,I1,rx,a,C,dx,fs,v,ex,ea,c,n,l,q⟩=>?_)
 subst ex
 obtain rfl:u=Value.ref a:=rx
 exact Wz I1 ea c n l λu' s2 I2 ru=>⟨v,H1,I2,ru,q⟩)
theorem vN (ha:JE X o ta) (hv:JE X value tv) (hs:swapsWith value (some (.Attribute o f pos')) pos.line X.env=pure false):JS X (.Assign [.Attribute o f pos'] value pos) (K9 X.K ta tv f):=.of (by
 have ha:=ha.to
 have hv:=hv.to
 intro pins s σ H D I h
 refine plainObj_wpAny_Assign_Attribute (jk (hv pins s σ H _ I h) λu s1 ⟨y,H1,I1,ry,q⟩=>jk (ha pins s1 σ H1 _ I1 q) λov s2 ⟨x,H2,I2,rx,a,C,dx,fs,ex,ea,c,n,l,q2⟩=>?_) hs
 subst ex
 obtain rfl:ov=Value.ref a:=rx
 exact Wc I2 ea c n l ry λs3 I3=>⟨σ,_,I3,q2⟩)
end
section
variable {X:Cx} {pins:List (Addr×Obj)} {σ:St} {H:Hp} {s:Shared} {A:Around} {E:Value->Shared->Prop} {Q:Value->Shared->Prop} {c:Value} {b:Bool}
inductive Zo (K:PySem.W.Frag) (H:Hp):V->Value->Prop where
 | non:Zo K H .non (.type "NoneType")
 | bl (x:Bool):Zo K H (.bl x) (.type "bool")
 | int (i:Int):Zo K H (.int i) (.type "int")
 | str (x:Str):Zo K H (.str x) (.type "str")
 | flt (x:UInt64):Zo K H (.flt x) (.type "float")
 | lst {a:Addr} {xs:List V} (e:H a=some (.lst xs)):Zo K H (.ref a) (.type "list")
 | frz {a:Addr} {o:Obj} {xs:List V} (e:H a=some (.frz o (.lst xs))):Zo K H (.ref a) (.type "list")
 | tup {a:Addr} {xs:List V} (e:H a=some (.tup xs)):Zo K H (.ref a) (.type "tuple")
 | dK {a:Addr} {kvs:List (qN×V)} (e:H a=some (.dK kvs)):Zo K H (.ref a) (.type "dict")
 | dT {a:Addr} {kvs:List (List qN×V)} (e:H a=some (.dT kvs)):Zo K H (.ref a) (.type "dict")
 | ins {a C dx:Addr} {fs:List (Str×V)} (e:H a=some (.ins C dx fs)) (cl:WN K C) (ha:PySem.W.findIn K (.ref C) "__class__"=some (some (.builtin "object.__class__")))
     (hn:PySem.W.specialIn K (.builtin "object.__class__") "__get__"=some (some (.builtin "getset_descriptor.__get__"))) (htk:PySem.W.takesIn K (.builtin "object.__class__")=some true)
     (hm:PySem.W.mroIn K C (.type "object")=some true):Zo K H (.ref a) (.ref C)
theorem Ub {x:V} {u t:Value} (I:qw X pins σ H s) (rx:qO x u) (ty:Zo X.K H x t) (e:PySem.W.kitOne X.K t c=some b) (h:∀tk,Q (.bool b) {s with toks:=tk}):
   wpAny (model X.prog X.w) A (call (.builtin "isinstance") [u,c]) Q E s:=by
 cases ty with
 | non=>cases (show u=Value.none from rx);exact PySem.W.kia_one PySem.W.kitx_none I.kIn True.intro e (λz=>nomatch z) h
 | bl y=>cases (show u=Value.bool y from rx);exact PySem.W.kia_one PySem.W.kitx_bool I.kIn True.intro e (λz=>nomatch z) h
 | int i=>obtain⟨t,q⟩:=(show ∃t,u=Value.int i t from rx);cases q;exact PySem.W.kia_one PySem.W.kitx_int I.kIn True.intro e (λz=>nomatch z) h
 | str y=>obtain⟨t,q⟩:=(show ∃t,u=Value.str y t from rx);cases q;exact PySem.W.kia_one PySem.W.kitx_str I.kIn True.intro e (λz=>nomatch z) h
 | flt y=>obtain⟨t,q⟩:=(show ∃t,u=Value.float y t from rx);cases q;exact PySem.W.kia_one PySem.W.kitx_float I.kIn True.intro e (λz=>nomatch z) h
 | @lst a xs ea=>
   cases (show u=Value.ref a from rx)
   obtain⟨_,_,n,_,h1⟩:=(show qC X.prog X.w H s.heap a (.lst xs) from I.hok a _ ea)
   exact PySem.W.kia_one PySem.W.kitx_list I.kIn ⟨_,h1,rfl⟩ e (λz=>nomatch z) h
 | @frz a ob xs ea=>
   cases (show u=Value.ref a from rx)
   obtain⟨_,_,_,n,_,h1⟩:=(show qC X.prog X.w H s.heap a (.frz ob (.lst xs)) from I.hok a _ ea)
   exact PySem.W.kia_one PySem.W.kitx_list I.kIn ⟨_,h1,rfl⟩ e (λz=>nomatch z) h
 | @tup a xs ea=>
   cases (show u=Value.ref a from rx)
   obtain⟨_,_,_,p⟩:=(show qC X.prog X.w H s.heap a (.tup xs) from I.hok a _ ea)
   obtain⟨o,h1,h2,_⟩:=p
   exact PySem.W.kia_one PySem.W.kitx_tuple I.kIn ⟨o,h1,h2⟩ e (λz=>nomatch z) h
 | @dK a kvs ea=>
   cases (show u=Value.ref a from rx)
   obtain⟨_,_,vs,_,p⟩:=(show qC X.prog X.w H s.heap a (.dK kvs) from I.hok a _ ea)
   obtain⟨o,es,ep,h1,h2,_⟩:=p
   exact PySem.W.kia_one PySem.W.kitx_dict I.kIn ⟨o,h1,h2.1⟩ e (λz=>nomatch z) h
 | @dT a kvs ea=>
   cases (show u=Value.ref a from rx)
   obtain⟨_,_,xs,_,o,es,ep,h1,h2,_⟩:=(show qC X.prog X.w H s.heap a (.dT kvs) from I.hok a _ ea)
   exact PySem.W.kia_one PySem.W.kitx_dict I.kIn ⟨o,h1,h2.1⟩ e (λz=>nomatch z) h
 | @ins a C dx fs ea cl ha hn htk hm=>
   cases (show u=Value.ref a from rx)
   obtain⟨mA,O,_⟩:=ZO I.hok ea
   obtain⟨od,J,_⟩:=O.look
   exact PySem.W.kia_one (PySem.W.kitx_own (cl.get _) cl.hd ha hn htk hm) I.kIn J e (λz=>nomatch z) h
end
end L2
namespace L2
open PySem PySem.Spec PyProof.Rows
structure qW (k:Nat) (A:Around):Prop where
 hd:A.handled=none
 dp:A.depth+3*k+5 < recursionLimit
 un:A.units+16*k+200 < cLine
 gd:A.guards=some []
theorem qW.mono {j k:Nat} {A:Around} (r:qW k A) (h:j<=k):qW j A:=⟨r.hd,by have:=r.dp;omega,by have:=r.un;omega,r.gd⟩
theorem qW.deeper {k:Nat} {A:Around} (r:qW (k+1) A) (env:Env):qW k (A.deeper env):=
 ⟨r.hd,by have:=r.dp;show A.depth+1+3*k+5 < _;omega,by have:=r.un;show A.units+3+16*k+200 < _;omega,r.gd⟩
theorem Wt {A:Around} {C:Addr} {us:List Value} {kw:List (Str×Value)}:(A.under (.builtin "type.__call__" ⟨.ref C::us,kw⟩)).depth=A.depth+1:=by
 first | rfl | simp [Around.under,Code.weight,Code.isCreation,Code.isGuard,Code.isCaller,Code.frames,Code.isFrame,guardIds]
theorem Ws {A:Around} {C:Addr} {us:List Value} {kw:List (Str×Value)}:(A.under (.builtin "type.__call__" ⟨.ref C::us,kw⟩)).units=A.units+1:=by
 first | rfl | simp [Around.under,Code.cUnits,Code.frames,Code.isFrame]
theorem qW.make {k:Nat} {A:Around} (r:qW (k+1) A) (C:Addr) (us:List Value) (kw:List (Str×Value)):qW k (A.under (.builtin "type.__call__" ⟨.ref C::us,kw⟩)):=
 ⟨r.hd,by have:=r.dp;rw[Wt];omega,by have:=r.un;rw[Ws];omega,(by have:=r.gd;first | exact this | simpa [Around.under,Code.isGuard,guardIds] using this)⟩
theorem qW.depth {k:Nat} {A:Around} (r:qW k A):A.depth < recursionLimit:=by have:=r.dp;omega
theorem qW.units {k:Nat} {A:Around} (r:qW k A):A.units+64 < cLine:=by have:=r.un;omega
def jH:TA:=λ_ H Q=>Q [] H
def qI (ta:TE) (tr:TA):TA:=λσ H Q=>ta σ H λx H1=>tr σ H1 λxs H2=>Q (x::xs) H2
section
variable {X:Cx} {e:Expr} {es:List Expr} {te:TE} {t:TA} {pos:Pos}
theorem qe:JA X [] jH:=.of (by
 exact λ_ _ _ _ H Q I h=>Calls.spliced_nil ⟨[],H,I,.nil,h⟩)
theorem qb (ha:JE X e te) (hr:JA X es t) (hs:starEach (e::es) X.env=(false,eval e X.env)::starEach es X.env:=by rfl):JA X (e::es) (qI te t):=.of (by
 have ha:=ha.to
 have hr:=hr.to
 intro pos pins s σ H Q I h
 rw[hs]
 show wpAny _ _ (spliced ((false,eval e X.env)::backTo pos (starEach es X.env))) _ _ s
 refine Calls.spliced_cons (jk (ha pins s σ H _ I h) λu s1 ⟨x,H1,I1,r1,q1⟩=>?_)
 exact jk (hr pos pins s1 σ H1 _ I1 q1) λus s2 ⟨xs,H2,I2,r2,q2⟩=>⟨x::xs,H2,I2,.cons r1 r2,q2⟩)
def Ju (t:TA):TE:=λσ H Q=>t σ H λxs H1=>xs.length<=sizeLine/\∀p,H1 p=none->Q (.ref p) (upd H1 p (.tup xs))
def KZ (t:TA):TE:=λσ H Q=>t σ H λxs H1=>xs.length<=sizeLine/\∀p,H1 p=none->Q (.ref p) (upd H1 p (.lst xs))
theorem jd {x1} (h:JA X es t):JE X (.Tuple es x1 pos) (Ju t):=.of (by
 have h:=h.to
 intro pins s σ H Q I hq
 refine wpAny_Tuple_spliced (jk (h pos pins s σ H _ I hq) λus s1 ⟨xs,H1,I1,r,z,q⟩=>⟨by rw[<-r.length];exact z,?_⟩)
 have hf:H1 s1.heap.objs.size=none:=I1.hok.fresh (Nat.le_refl _)
 refine⟨.ref s1.heap.objs.size,upd H1 s1.heap.objs.size (.tup xs),I1.laid (t':=s1.toks) (λb u e=>Heap.get?_push_of_some _ e) (Nat.le_refl _) ?_,rfl,q _ hf⟩
 exact⟨z,us,r,⟨_,Heap.get?_push_size _ rfl,rfl,_,rfl⟩⟩)
theorem jZ (h:JA X es t):JE X (.List es pos) (KZ t):=.of (by
 have h:=h.to
 intro pins s σ H Q I hq
 refine wpAny_List_spliced (jk (h pos pins s σ H _ I hq) λus s1 ⟨xs,H1,I1,r,z,q⟩=>⟨by rw[<-r.length];exact z,?_⟩)
 have hf:H1 s1.heap.objs.size=none:=I1.hok.fresh (Nat.le_refl _)
 refine⟨.ref s1.heap.objs.size,upd H1 s1.heap.objs.size (.lst xs),I1.laid (t':=s1.toks) (λb u e=>Heap.get?_push_of_some _ e) (Nat.le_refl _) ?_,rfl,q _ hf⟩
 exact⟨z,us,0,r,Heap.get?_push_size _ rfl⟩)
end
abbrev Sp:=List V->Hp->VK->XK->Prop
abbrev Yv:=List Env->Hp->Shared->XK->Value->Shared->Prop
structure Y8 (P:Program) (w:World) (K:PySem.W.Frag) (mg:Str->Option Value) (base:Heap) (A:Around) (outer:List Env) (s:Shared) (H:Hp):Prop where
 frames:A.frames=some outer
 mod:Mod K mg base
 bs:∀b o,base.get? b=some o->s.heap.get? b=some o/\H b=none
 bsz:base.objs.size<=s.heap.objs.size
 funs:s.heap.FunFrames base outer
 frf:∀b∈Zv outer,H b=none
 hok:QZ P w H s.heap
 bare:AllBare s.gens
def CE (outer:List Env) (P:Program) (w:World) (H:Hp) (s:Shared) (Q:VK) (u:Value) (s':Shared):Prop:=
 ∃v H',s'.os=s.os/\AllBare s'.gens/\Un (Zv outer) [] H H' s.heap s'.heap/\QZ P w H' s'.heap/\qO v u/\Q v H'
def CR (CX:Yv) (outer:List Env) (P:Program) (w:World) (H:Hp) (s:Shared) (Q:VK) (E:XK) (r:Result) (s':Shared):Prop:=
 match r with
 | .ok (.ret u)=>CE outer P w H s Q u s'
 | .ok _=>False
 | .error e=>CX outer H s E e s'
structure qu (P:Program) (w:World) (K:PySem.W.Frag) (mg:Str->Option Value) (base:Heap) (CX:Yv) (k:Nat) (f:Addr) (fd:FuncData) (ps:List Str) (sp:Sp):Prop where
 len:∀vs H Q E,sp vs H Q E->vs.length=ps.length
 run:∀(A:Around) (outer:List Env) (s:Shared) (H:Hp) (args:Args) (us:List Value) (vs:List V) (Q:VK) (E:XK),qW k A->Y8 P w K mg base A outer s H->BindsTo s fd args (ps.zip us)->qD vs us->sp vs H Q E->
   codeAny (model P w) A (.call (.ref f) args) (CR CX outer P w H s Q E) s
theorem qu.mono {P:Program} {w:World} {K:PySem.W.Frag} {mg:Str->Option Value} {base:Heap} {CX:Yv} {j k:Nat} {f:Addr} {fd:FuncData} {ps:List Str} {sp:Sp} (F:qu P w K mg base CX j f fd ps sp) (h:j<=k):
   qu P w K mg base CX k f fd ps sp:=⟨F.len,λA outer s H args us vs Q E hr=>F.run A outer s H args us vs Q E (hr.mono h)⟩
theorem Y8.make {P:Program} {w:World} {K:PySem.W.Frag} {mg:Str->Option Value} {base:Heap} {A:Around} {outer:List Env} {s:Shared} {H:Hp} (e:Y8 P w K mg base A outer s H) (C:Addr) (us:List Value) (kw:List (Str×Value)):
   Y8 P w K mg base (A.under (.builtin "type.__call__" ⟨.ref C::us,kw⟩)) outer s H:=⟨by first | exact e.frames | (simpa [Around.under,Code.envs,Code.isFrame,pushEnvs] using e.frames),e.mod,e.bs,e.bsz,e.funs,e.frf,e.hok,e.bare⟩
section
variable {X:Cx} {pins:List (Addr×Obj)} {σ:St} {H:Hp} {s s':Shared}
theorem qw.env0 (I:qw X pins σ H s):Y8 X.prog X.w X.K X.mg X.base X.A X.stack s H:=
 ⟨I.ok.frames,I.ok.mod,I.bs,Nat.le_trans I.ok.bsz I.sz,I.stack,I.stkFree,I.hok,I.bare⟩
theorem qw.after {Q:VK} {u:Value} (I:qw X pins σ H s) (h:CE X.stack X.prog X.w H s Q u s'):EP X pins σ Q u s':=by
 obtain⟨v,H',os,bare,un,hok,r,q⟩:=h
 obtain⟨hh,g,d,t,os'⟩:=s'
 obtain rfl:os'=s.os:=os
 exact⟨v,H',I.call (h':=hh) (g':=g) (d':=d) (t':=t) (ch:=[]) un hok bare (λb z=>absurd z (by simp)),r,q⟩
end
def Zq (sp:Sp) (dvs:List V) (E:XK) (t:TA):TE:=λσ H Q=>t σ H λvs H1=>sp (vs++dvs) H1 Q E
def ZW (C:Addr) (m:Str) (sp:Sp) (dvs:List V) (E:XK) (ta:TE) (t:TA):TE:=λσ H Q=>ta σ H λx H1=>∃a dx fs,x=.ref a/\H1 a=some (.ins C dx fs)/\fs.lookup m=none/\
 t σ H1 λvs H2=>sp (x::(vs++dvs)) H2 Q E
def uq (C:Addr) (sp:Sp) (dvs:List V) (E:XK) (t:TA):TE:=λσ H Q=>t σ H λvs H1=>∀x dx,H1 x=none->H1 dx=none->dx≠x->
 sp (.ref x::(vs++dvs)) (upd (upd H1 dx (.own x)) x (.ins C dx [])) (λv H2=>v=.non/\Q (.ref x) H2) E
def jG (K:PySem.W.Frag) (fd:FuncData) (ps:List Str) (ds:List Value):Prop:=
 ∀(s:Shared) (us:List Value),K.In s.heap->(us++ds).length=ps.length->BindsTo s fd ⟨us,[]⟩ (ps.zip (us++ds))
theorem jG.all {K:PySem.W.Frag} {fd:FuncData} {ps:List Str} (h:∀us:List Value,us.length=ps.length->bindArgs fd ⟨us,[]⟩=pure (ps.zip us)):jG K fd ps []:=λs us _ hl=>by
 rw[List.append_nil]at hl ⊢
 exact .of_eq (h us hl)
def jP (CX:Yv) (X:Cx) (E:XK):Prop:=∀(pins:List (Addr×Obj)) (σ:St) (H:Hp) (s:Shared) (e:Value) (s':Shared),qw X pins σ H s->CX X.stack H s E e s'->X.xe e s'
section
variable {X:Cx} {CX:Yv} {k:Nat} {f C:Addr} {fd:FuncData} {ps:List Str} {sp:Sp} {dvs:List V} {ds:List Value} {E:XK} {x m:Str} {p pos apos:Pos} {e o:Expr} {es:List Expr} {ta:TE} {t:TA}
theorem Wh {pins:List (Addr×Obj)} {σ:St} {H:Hp} {s:Shared} {Q:VK} {us:List Value} {vs:List V} (F:qu X.prog X.w X.K X.mg X.base CX k f fd ps sp) (hr:qW k X.A) (hb:jG X.K fd ps ds) (hd:qD dvs ds) (hx:jP CX X E)
   (I:qw X pins σ H s) (r:qD vs us) (h:sp (vs++dvs) H Q E):wpAny (model X.prog X.w) X.A (call (.ref f) us) (EP X pins σ Q) X.xe s:=by
 have r2:qD (vs++dvs) (us++ds):=r.append hd
 have hl:(us++ds).length=ps.length:=by rw[<-r2.length];exact F.len _ _ _ _ h
 refine wpAny_call (codeAny_mono (F.run X.A X.stack s H ⟨us,[]⟩ (us++ds) (vs++dvs) Q E hr I.env0 (hb s us I.kIn hl) r2 h) λr s' hq=>?_)
 cases r with
 | error e=>exact hx pins σ H s e s' I hq
 | ok fl=>
   cases fl with
   | ret u=>exact I.after hq
   | next=>exact False.elim hq
   | brk=>exact False.elim hq
   | cont=>exact False.elim hq
theorem Vc (F:qu X.prog X.w X.K X.mg X.base CX k f fd ps sp) (hr:qW k X.A) (hg:Gl X x) (hm:X.mg x=some (.ref f)) (hk:PySem.W.keepIn X.K (.ref f)=true) (hb:jG X.K fd ps ds) (hd:qD dvs ds) (hx:jP CX X E)
   (ha:PA X (e::es) t) (hdb:(x==("__debug__":Str))=false:=by decide) (he:starEach (e::es) X.env=(false,eval e X.env)::starEach es X.env:=by rfl) (hpl:(backTo pos (starEach es X.env)).any (·.1)=false:=by rfl):
   PE X (.Call (.Name x p) (e::es) [] pos) (Zq sp dvs E t):=by
 intro pins s σ H Q I h
 refine wpAny_Call_Name_kw (J2 I hg hm ?_ hdb)
 refine PySem.W.callWith_K (h₀:=X.base) I.ok.mod.kin hk (jk (ha pos pins s σ H _ I h) λus s1 ⟨vs,H1,I1,r,q⟩=>⟨I1.kIn,?_⟩) he hpl
 exact Wh F hr hb hd hx I1 r q
theorem yk {pl:Sem Bool} (he:PE X o ta) (c:WN X.K C) (hm:Uv X.K C m f) (F:qu X.prog X.w X.K X.mg X.base CX k f fd ps sp) (hr:qW k X.A) (hb:jG X.K fd ps ds) (hd:qD dvs ds) (hx:jP CX X E) (ha:PA X (e::es) t)
   (hst:starEach (e::es) X.env=(false,eval e X.env)::starEach es X.env:=by rfl) (hpl:(backTo pos (starEach es X.env)).any (·.1)=false:=by rfl)
   (ht:eval (.Call (.Attribute o m apos) (e::es) [] pos) X.env=(do
     let ov <-eval o X.env
     standAt apos.atName
     let (f,first) <-holding [ov] (getMethod ov m pl)
     callWith pos f first (backTo pos (starEach (e::es) X.env)) (backToKw pos (keywordEach [] X.env))):=by rfl):
   PE X (.Call (.Attribute o m apos) (e::es) [] pos) (ZW C m sp dvs E ta t):=by
 intro pins s σ H Q I h
 refine PySem.W.methodCall_KW (pl:=pl) (jk (he pins s σ H _ I h) λu s1 ⟨x,H1,I1,rx,a,dx,fs,ex,ea,l,q⟩=>?_) ht
 subst ex
 obtain rfl:u=Value.ref a:=rx
 refine zC I1 ea c hm l ?_
 refine PySem.W.callWith_K (first:=[.ref a]) (h₀:=X.base) I.ok.mod.kin hm.kp (jk (ha pos pins s1 σ H1 _ I1 q) λus s2 ⟨vs,H2,I2,r,q2⟩=>⟨I2.kIn,?_⟩) hst hpl
 exact Wh (us:=.ref a::us) (vs:=.ref a::vs) F hr hb hd hx I2 (.cons rfl r) q2
theorem yN {pl:Sem Bool} (he:JE X o ta) (c:WN X.K C) (hm:Uv X.K C m f) (F:qu X.prog X.w X.K X.mg X.base CX k f fd ps sp) (hr:qW k X.A) (hb:jG X.K fd ps ds) (hd:qD dvs ds) (hx:jP CX X E) (ha:JA X (e::es) t) (hst:starEach (e::es) X.env=(false,eval e X.env)::starEach es X.env:=by rfl) (hpl:(backTo pos (starEach es X.env)).any (·.1)=false:=by rfl) (ht:eval (.Call (.Attribute o m apos) (e::es) [] pos) X.env=(do
     let ov <-eval o X.env
     standAt apos.atName
     let (f,first) <-holding [ov] (getMethod ov m pl)
     callWith pos f first (backTo pos (starEach (e::es) X.env)) (backToKw pos (keywordEach [] X.env))):=by rfl):JE X (.Call (.Attribute o m apos) (e::es) [] pos) (ZW C m sp dvs E ta t):=.of (yk he.to c hm F hr hb hd hx ha.to hst hpl ht)
theorem vf {pl:Sem Bool} (he:PE X o ta) (c:WN X.K C) (hm:Uv X.K C m f) (F:qu X.prog X.w X.K X.mg X.base CX k f fd ps sp) (hr:qW k X.A) (hb:jG X.K fd ps ds) (hd:qD dvs ds) (hx:jP CX X E)
   (ht:eval (.Call (.Attribute o m apos) [] [] pos) X.env=(do
     let ov <-eval o X.env
     standAt apos.atName
     let (f,first) <-holding [ov] (getMethod ov m pl)
     callWith pos f first (backTo pos (starEach [] X.env)) (backToKw pos (keywordEach [] X.env))):=by rfl):
   PE X (.Call (.Attribute o m apos) [] [] pos) (ZW C m sp dvs E ta jH):=by
 intro pins s σ H Q I h
 refine PySem.W.methodCall_KW (pl:=pl) (jk (he pins s σ H _ I h) λu s1 ⟨x,H1,I1,rx,a,dx,fs,ex,ea,l,q⟩=>?_) ht
 subst ex
 obtain rfl:u=Value.ref a:=rx
 refine zC I1 ea c hm l ?_
 exact PySem.W.callWith_K0 (first:=[.ref a]) I1.kIn hm.kp (Wh (us:=[.ref a]) (vs:=[.ref a]) F hr hb hd hx I1 (.cons rfl .nil) q)
theorem vS {pl:Sem Bool} (he:JE X o ta) (c:WN X.K C) (hm:Uv X.K C m f) (F:qu X.prog X.w X.K X.mg X.base CX k f fd ps sp) (hr:qW k X.A) (hb:jG X.K fd ps ds) (hd:qD dvs ds) (hx:jP CX X E) (ht:eval (.Call (.Attribute o m apos) [] [] pos) X.env=(do
     let ov <-eval o X.env
     standAt apos.atName
     let (f,first) <-holding [ov] (getMethod ov m pl)
     callWith pos f first (backTo pos (starEach [] X.env)) (backToKw pos (keywordEach [] X.env))):=by rfl):JE X (.Call (.Attribute o m apos) [] [] pos) (ZW C m sp dvs E ta jH):=.of (vf he.to c hm F hr hb hd hx ht)
structure Mk (K:PySem.W.Frag) (C f:Addr):Prop where
 makes:PySem.W.makesIn K C=true
 init:PySem.W.findIn K (.ref C) "__init__"=some (some (.ref f))
 fn:PySem.W.isFn K (.ref f)=true
 kp:PySem.W.keepIn K (.ref C)=true
theorem U2 {pins:List (Addr×Obj)} {σ:St} {H:Hp} {s:Shared} {Q:VK} {us:List Value} {vs:List V} (M:Mk X.K C f) (F:qu X.prog X.w X.K X.mg X.base CX k f fd ps sp) (hr:qW (k+1) X.A) (hb:jG X.K fd ps ds) (hd:qD dvs ds)
   (hx:jP CX X E) (I:qw X pins σ H s) (r:qD vs us)
   (h:∀x dx,H x=none->H dx=none->dx≠x->sp (.ref x::(vs++dvs)) (upd (upd H dx (.own x)) x (.ins C dx [])) (λv H2=>v=.non/\Q (.ref x) H2) E):
   wpAny (model X.prog X.w) X.A (call (.ref C) us) (EP X pins σ Q) X.xe s:=by
 have hq:=h (s.heap.objs.size+1) s.heap.objs.size (I.hok.fresh (Nat.le_succ _)) (I.hok.fresh (Nat.le_refl _)) (Nat.ne_of_lt (Nat.lt_succ_self _))
 have I2:=qw.made (C:=C) I
 have r2:qD (V.ref (s.heap.objs.size+1)::(vs++dvs)) (Value.ref (s.heap.objs.size+1)::(us++ds)):=.cons rfl (r.append hd)
 have hl:(Value.ref (s.heap.objs.size+1)::us++ds).length=ps.length:=by
   have e:=r2.length
   rw[F.len _ _ _ _ hq]at e
   exact e.symm
 refine wpAny_call (vD (f:=f) I.kIn M.makes M.init (beq_iff_eq.mp M.fn) (codeAny_mono (F.run _ X.stack _ _ ⟨Value.ref (s.heap.objs.size+1)::us,[]⟩ (Value.ref (s.heap.objs.size+1)::(us++ds)) _ _ E (hr.make C us [])
   (I2.env0.make C us []) (hb _ (Value.ref (s.heap.objs.size+1)::us) I2.kIn hl) r2 hq) λr s' hq'=>?_))
 cases r with
 | error e=>exact hx pins σ _ _ e s' I2 hq'
 | ok fl=>
   cases fl with
   | ret u=>
     obtain⟨v,H',I3,rv,ev,q3⟩:=I2.after hq'
     subst ev
     exact⟨rv,⟨V.ref (s.heap.objs.size+1),H',I3,rfl,q3⟩⟩
   | next=>exact False.elim hq'
   | brk=>exact False.elim hq'
   | cont=>exact False.elim hq'
theorem ZN (M:Mk X.K C f) (F:qu X.prog X.w X.K X.mg X.base CX k f fd ps sp) (hr:qW (k+1) X.A) (hg:Gl X x) (hm:X.mg x=some (.ref C)) (hb:jG X.K fd ps ds) (hd:qD dvs ds) (hx:jP CX X E) (ha:JA X (e::es) t) (hdb:(x==("__debug__":Str))=false:=by decide) (he:starEach (e::es) X.env=(false,eval e X.env)::starEach es X.env:=by rfl) (hpl:(backTo pos (starEach es X.env)).any (·.1)=false:=by rfl):JE X (.Call (.Name x p) (e::es) [] pos) (uq C sp dvs E t):=.of (by
 have ha:=ha.to
 intro pins s σ H Q I h
 refine wpAny_Call_Name_kw (J2 I hg hm ?_ hdb)
 refine PySem.W.callWith_K (h₀:=X.base) I.ok.mod.kin M.kp (jk (ha pos pins s σ H _ I h) λus s1 ⟨vs,H1,I1,r,q⟩=>⟨I1.kIn,?_⟩) he hpl
 exact U2 M F hr hb hd hx I1 r q)
end
section
variable {X:Cx} {CX:Yv} {k:Nat} {f C:Addr} {fd:FuncData} {ps ks:List Str} {sp:Sp} {E:XK} {x m:Str} {p pos apos kpos:Pos} {e o:Expr} {es:List Expr} {kws:List Keyword} {te ta:TE} {t tk:TA} {nm:Option Str}
structure GH (K:PySem.W.Frag) (fd:FuncData) (ps ks:List Str) (g:List Value->List Value->List Value) (gV:List V->List V->List V):Prop where
 to:∀(s:Shared) (us ws:List Value),K.In s.heap->(g us ws).length=ps.length->BindsTo s fd ⟨us,ks.zip ws⟩ (ps.zip (g us ws))
 rel:∀{vs:List V} {us:List Value} {zs:List V} {ws:List Value},qD vs us->qD zs ws->qD (gV vs zs) (g us ws)
variable {g:List Value->List Value->List Value} {gV:List V->List V->List V}
end
structure qB (N P:List Str) (sc:Scope):Prop where
 kind:sc.kind=.function
 co:sc.isCoroutine=false
 gen:sc.isGenerator=false
 nd:N.Nodup
 pre:N.take P.length=P
 par:∀x∈P,sc.names.lookup x=some .local\/sc.names.lookup x=some .cell
 nofree:∀y∈sc.names,y.2≠.free
theorem Yp {kindOf:Str->Option NameKind} {x:Str}:∀{binds:List (Str×Value)} {m:Str->Option Value},(∀v,(x,v)∉binds)->bindL kindOf binds m x=m x
 | [],_,_=>rfl
 | (n,v)::r,m,h=>by
   unfold bindL
   rw[Yp λw hw=>h w (List.mem_cons_of_mem _ hw)]
   split
   . have:x≠n:=by rintro rfl;exact h v List.mem_cons_self
     simp [this]
   . rfl
theorem Yr {kindOf:Str->Option NameKind} {x:Str}:∀{binds:List (Str×Value)} {m:Str->Option Value},(∀v,(x,v)∉binds)->bindC kindOf binds m x=m x
 | [],_,_=>rfl
 | (n,v)::r,m,h=>by
   unfold bindC
   rw[Yr λw hw=>h w (List.mem_cons_of_mem _ hw)]
   split
   . rfl
   . have:x≠n:=by rintro rfl;exact h v List.mem_cons_self
     simp [this]
theorem Yq {kindOf:Str->Option NameKind} {x:Str} {v:Value}:∀{P:List Str} {vs:List Value} {i:Nat} {m:Str->Option Value},P.Nodup->P[i]?=some x->vs[i]?=some v->kindOf x=some .local->
   bindL kindOf (P.zip vs) m x=some v
 | [],_,_,_,_,h,_,_=>by simp at h
 | _::_,[],_,_,_,_,h,_=>by simp at h
 | p::P,w::vs,0,m,nd,h1,h2,hk=>by
   simp at h1 h2;subst h1;subst h2
   show bindL kindOf ((p,w)::P.zip vs) m p=_
   unfold bindL
   rw[Yp λv hv=>(List.nodup_cons.mp nd).1 (List.of_mem_zip hv).1,if_pos hk]
   simp
 | p::P,w::vs,i+1,m,nd,h1,h2,hk=>by
   show bindL kindOf ((p,w)::P.zip vs) m x=_
   unfold bindL
   exact Yq (i:=i) (List.nodup_cons.mp nd).2 (by simpa using h1) (by simpa using h2) hk
theorem Ys {kindOf:Str->Option NameKind} {x:Str} {v:Value}:∀{P:List Str} {vs:List Value} {i:Nat} {m:Str->Option Value},P.Nodup->P[i]?=some x->vs[i]?=some v->kindOf x≠some .local->
   bindC kindOf (P.zip vs) m x=some v
 | [],_,_,_,_,h,_,_=>by simp at h
 | _::_,[],_,_,_,_,h,_=>by simp at h
 | p::P,w::vs,0,m,nd,h1,h2,hk=>by
   simp at h1 h2;subst h1;subst h2
   show bindC kindOf ((p,w)::P.zip vs) m p=_
   unfold bindC
   rw[Yr λv hv=>(List.nodup_cons.mp nd).1 (List.of_mem_zip hv).1,if_neg hk]
   simp
 | p::P,w::vs,i+1,m,nd,h1,h2,hk=>by
   show bindC kindOf ((p,w)::P.zip vs) m x=_
   unfold bindC
   exact Ys (i:=i) (List.nodup_cons.mp nd).2 (by simpa using h1) (by simpa using h2) hk
def QG (N:List Str) (vs:List V):St:=vs.map some++List.replicate (N.length - vs.length) none
def jS (CX:Yv) (P:Program) (w:World) (K:PySem.W.Frag) (mg:Str->Option Value) (base:Heap) (N:List Str) (qual:Str) (scope:Scope) (f:Addr) (cd:Value) (A:Around) (outer:List Env) (s:Shared) (H:Hp) (E:XK):Cx where
 prog:=P
 w:=w
 K:=K
 mg:=mg
 base:=base
 A:=A.deeper (envOfC qual scope s.heap.objs.size f cd)
 N:=N
 s₀:=s
 H₀:=H
 env:=envOfC qual scope s.heap.objs.size f cd
 outer:=outer
 stack:=envOfC qual scope s.heap.objs.size f cd::outer
 ex:=[]
 calm:=true
 fn:=λ_=>true
 pn:=[]
 xe:=λe s'=>wpAny (model P w) (A.deeper (envOfC qual scope s.heap.objs.size f cd)) (leaving (envOfC qual scope s.heap.objs.size f cd) e) (λ_ s''=>CX outer H s E e s'') (λe' s''=>CX outer H s E e' s'') s'
theorem XL {sc:Scope} {n:Nat} {x:Str} (h:sc.names.lookup x=some .cell):∃c,(cellsFrom n sc.names []).lookup x=some c:=by
 have q:=PySem.W.cellsFrom_some sc.names n [] (.inl h)
 exact Option.isSome_iff_exists.mp q
theorem Yj {CX:Yv} {P:Program} {w:World} {K:PySem.W.Frag} {mg:Str->Option Value} {base:Heap} {N ps:List Str} {qual:Str} {scope:Scope} {f:Addr} {cd:Value} {A:Around} {outer:List Env} {s s1:Shared} {H:Hp} {E:XK} {us:List Value} {vs:List V}
   (S:qB N ps scope) (hd:A.handled=none) (e0:Y8 P w K mg base A outer s H) (hl:vs.length=ps.length) (r:qD vs us)
   (x:InCallC s s.heap.objs.size (bindL (envOfC qual scope s.heap.objs.size f cd).kindOf (ps.zip us) λ_=>none) (cellsFrom (s.heap.objs.size+1) scope.names []) (bindC (envOfC qual scope s.heap.objs.size f cd).kindOf (ps.zip us) λ_=>none) s1):
   qw (jS CX P w K mg base N qual scope f cd A outer s H E) [] (QG N vs) H s1:=by
 have hpl:ps.length<=N.length:=by have:=congrArg List.length S.pre;rw[List.length_take]at this;omega
 obtain⟨h1,tk,rfl,hk⟩:=x.done
 have noA:∀b:Addr,b∉(jS CX P w K mg base N qual scope f cd A outer s H E).ex:=λb z=>absurd (show b∈([]:List Addr) from z) (by simp)
 refine⟨⟨e0.mod,S.kind,rfl,rfl,Nat.le_refl _,λy z c h1 h2=>?_,λy hy=>?_,λy c _ h=>?_,λ_=>hd,Around.frames_deeper e0.frames,.inr ⟨rfl,rfl⟩,λb z=>absurd z (noA b),e0.bs,e0.bsz,λb _ _=>noA b,λb z=>absurd z (noA b),e0.funs,e0.frf⟩,
   rfl,e0.bare,Un.kept hk,⟨_,x.toInCall.ns,λi y v h1 h2 h3=>?_⟩,λy c h=>⟨_,x.cell y c h⟩,e0.hok.fresh (Nat.le_refl _),λy c h=>?_,λp hp=>absurd (show p∈([]:List (Addr×Obj)) from hp) (by simp),e0.hok.kept hk,?_⟩
 . exact name_of_addr x.apart (PySem.mem_of_lookup h1) (PySem.mem_of_lookup h2)
 . have hy:scope.names.lookup y=some .cell\/scope.names.lookup y=some .free:=hy
   rcases hy with hy | hy
   . exact XL hy
   . exact absurd rfl (S.nofree _ (PySem.mem_of_lookup hy))
 . exact Nat.le_of_lt (x.above y c (PySem.mem_of_lookup h))
 . have hi:i < vs.length:=by
     unfold QG at h2
     by_cases hi:i < vs.length
     . exact hi
     . rw[List.getElem?_append_right (by simpa using hi)]at h2
       rw[List.getElem?_replicate]at h2
       split at h2<;>cases h2
   have ha:vs[i]?=some v:=by
     unfold QG at h2
     rw[List.getElem?_append_left (by simpa using hi),List.getElem?_map]at h2
     cases e:vs[i]? with
     | none=>rw[e]at h2;cases h2
     | some a=>rw[e]at h2;cases h2;rfl
   obtain⟨u,hu,rv⟩:=r.get ha
   have hp:ps[i]?=some y:=by
     rw[<-S.pre,List.getElem?_take_of_lt (by omega)];exact h1
   have ndP:ps.Nodup:=by rw[<-S.pre];exact S.nd.sublist (List.take_sublist _ _)
   refine⟨u,rv,?_⟩
   rcases S.par y (List.mem_of_getElem? hp) with k | k
   . exact .inl ⟨k,Yq ndP hp hu k⟩
   . obtain⟨c,e⟩:=XL (n:=s.heap.objs.size+1) k
     refine .inr ⟨.inl k,c,e,?_⟩
     have q:=x.cell y c e
     rw[Ys ndP hp hu (by show scope.names.lookup y≠_;rw[k];decide)]at q
     exact q
 . exact e0.hok.fresh (Nat.le_of_lt (x.above y c (PySem.mem_of_lookup h)))
 . unfold QG
   show _=N.length
   rw[List.length_append,List.length_map,List.length_replicate]
   omega
theorem xy {CX:Yv} {P:Program} {w:World} {K:PySem.W.Frag} {mg:Str->Option Value} {base:Heap} {k:Nat} {f:Addr} {name qual:Str} {params:Arguments} {body:List Stmt} {scope:Scope} {dV kV doc pm cdv ct oc:Value} {an od:Option Addr}
   {osl:Array (Option Value)} {N ps:List Str} {sp:Sp} (lk:K.lookup f=some ⟨oc,od,.func (PySem.W.fnOf name qual params body scope dV kV doc pm an cdv ct),osl⟩) (hcd:PySem.W.codeIn K cdv qual=true) (S:qB N ps scope)
   (len:∀vs H Q E,sp vs H Q E->vs.length=ps.length)
   (hbody:∀(A:Around) (outer:List Env) (s:Shared) (H:Hp) (vs:List V) (Q:VK) (E:XK),qW k (A.deeper (envOfC qual scope s.heap.objs.size f cdv))->sp vs H Q E->
     ∃t,kG (jS CX P w K mg base N qual scope f cdv A outer s H E) body t/\t {nx:=λ_ H'=>Q .non H',rt:=Q} (QG N vs) H):
   qu P w K mg base CX (k+1) f (PySem.W.fnOf name qual params body scope dV kV doc pm an cdv ct) ps sp:=by
 refine⟨len,λA outer s H args us vs Q E hr e0 hb r hsp=>?_⟩
 have hl:=len _ _ _ _ hsp
 have KX:K.In s.heap:=e0.mod.kin.keeps λb o e=>(e0.bs b o e).1
 have lim:s.heap.NoLimit:=e0.mod.nolimit.keeps λb o e=>(e0.bs b o e).1
 have hkind:∀y∈ps.zip us,scope.names.lookup y.1=some .local\/(scope.names.lookup y.1=some .cell/\((cellsFrom (s.heap.objs.size+1) scope.names []).lookup y.1).isSome=true):=λ⟨n,v⟩ hy=>by
   rcases S.par n (List.of_mem_zip hy).1 with q | q
   . exact .inl q
   . exact .inr ⟨q,PySem.W.cellsFrom_some _ _ _ (.inl q)⟩
 refine codeAny_call_function hr.depth (KX _ _ lk) rfl S.co S.gen rfl (PySem.W.codeRec_of KX hcd) (hb _ _ _ _ ?_)
 refine wpAny_newFunctionEnv_cells S.kind hkind λenv he s1 x=>?_
 subst he
 refine⟨lim.keeps x.toInCall.keep,codeAny_func ?_⟩
 obtain⟨t,ht,hq⟩:=hbody A outer s H vs Q E (hr.deeper _) hsp
 have I:qw (jS CX P w K mg base N qual scope f cdv A outer s H E) [] (QG N vs) H s1:=Yj S hr.hd e0 hl r x
 refine wpAny_mono (ht [] s1 (QG N vs) H _ I hq) (λfl s' hs=>?_) λe s' hs=>hs
 have fin:∀{σ':St} {H':Hp} {v:V} {u:Value},qw (jS CX P w K mg base N qual scope f cdv A outer s H E) [] σ' H' s'->qO v u->Q v H'->CE outer P w H s Q u s':=
   λ{σ' H' v u} J rv q=>⟨v,H',J.os,J.bare,J.base,J.hok,rv,q⟩
 cases fl with
 | ret u=>
   obtain⟨v,σ',H',J,rv,q⟩:=hs
   exact fin J rv q
 | next=>
   obtain⟨σ',H',J,q⟩:=hs
   exact fin (v:=V.non) (u:=Value.none) J rfl q
 | brk=>
   obtain⟨_,_,_,q⟩:=hs
   exact False.elim q
 | cont=>
   obtain⟨_,_,_,q⟩:=hs
   exact False.elim q
end L2
namespace L2
open PySem PySem.Spec PyProof.Rows
section
variable {X:Cx} {x:Str} {p pos:Pos} {e:Expr} {es:List Expr} {t:TA} {id T:String} {r:List V->Hp->VK->Prop}
def Uw (r:List V->Hp->VK->Prop) (t:TA):TE:=λσ H Q=>t σ H λvs H1=>r vs H1 Q
theorem qr (hc:jU X (.builtin id) r) (hg:Gl X x) (hm:X.mg x=none) (hv:bootBuiltins x=some (.builtin id)) (ha:JA X (e::es) t) (hn:x≠"__name__":=by decide) (hdb:(x==("__debug__":Str))=false:=by decide) (he:starEach (e::es) X.env=(false,eval e X.env)::starEach es X.env:=by rfl) (hpl:(backTo pos (starEach es X.env)).any (·.1)=false:=by rfl):JE X (.Call (.Name x p) (e::es) [] pos) (Uw r t):=.of (by
 have ha:=ha.to
 intro pins s σ H Q I h
 refine wpAny_Call_Name_kw (QC I hg hm hv ?_ hn hdb)
 exact PyProof.Rows.callWith_builtin1 (jk (ha pos pins s σ H _ I h) λus s1 ⟨vs,H1,I1,r1,q1⟩=>hc pins s1 σ H1 vs us Q I1 r1 q1) he hpl)
theorem jq (hc:jU X (.type T) r) (hg:Gl X x) (hm:X.mg x=none) (hv:bootBuiltins x=some (.type T)) (ha:JA X (e::es) t) (hn:x≠"__name__":=by decide) (hdb:(x==("__debug__":Str))=false:=by decide) (he:starEach (e::es) X.env=(false,eval e X.env)::starEach es X.env:=by rfl) (hpl:(backTo pos (starEach es X.env)).any (·.1)=false:=by rfl):JE X (.Call (.Name x p) (e::es) [] pos) (Uw r t):=.of (by
 have ha:=ha.to
 intro pins s σ H Q I h
 refine wpAny_Call_Name_kw (QC I hg hm hv ?_ hn hdb)
 exact PyProof.Rows.callWith_type1 (jk (ha pos pins s σ H _ I h) λus s1 ⟨vs,H1,I1,r1,q1⟩=>hc pins s1 σ H1 vs us Q I1 r1 q1) he hpl)
end
end L2
namespace HT
open PySem PyProof.Rows
section
open PySem.SeqAt
open PySem.AutoSeq1 (wpAny_loadPart')
open PySem.MeetsSeq PySem.MeetsSeq2 PySem.MeetsSeq3
end
section
variable {prog:Program} {w:World} {A:Around} {E:Value->Shared->Prop} {s:Shared}
def sIx (n d:Nat):Option Int->Nat
 | none=>d
 | some v=>if v < 0 then (v+(n:Int)).toNat else min v.toNat n
theorem sIx_none (n d:Nat):sIx n d none=d:=rfl
theorem sIx_nat (n d k:Nat):sIx n d (some (k:Int))=min k n:=by
 show (if (k:Int) < 0 then ((k:Int)+(n:Int)).toNat else min (k:Int).toNat n)=min k n
 rw[if_neg (by omega),Int.toNat_natCast]
end
end HT
namespace L2
open PySem PySem.Spec PyProof.Rows
abbrev TO:=St->Hp->(Option Int->Hp->Prop)->Prop
def PO (X:Cx) (e:Option Expr) (t:TO):Prop:=
 ∀(pins:List (Addr×Obj)) (s:Shared) (σ:St) (H:Hp) (Q:Option Int->Hp->Prop),qw X pins σ H s->t σ H Q->
   wpAny (model X.prog X.w) X.A (evalPart e X.env) (λu s'=>∃o H',qw X pins σ H' s'/\IsPart u o/\Q o H') X.xe s
@[irreducible] def JO (X:Cx) (e:Option Expr) (t:TO):Prop:=PO X e t
theorem JO.of {X:Cx} {e:Option Expr} {t:TO} (h:PO X e t):JO X e t:=by unfold JO;exact h
theorem JO.to {X:Cx} {e:Option Expr} {t:TO} (h:JO X e t):PO X e t:=by unfold JO at h;exact h
def WS:TO:=λ_ H Q=>Q none H
def xf (t:TE):TO:=λσ H Q=>t σ H λx H1=>∃i,x=.int i/\Q (some i) H1
theorem Wx {ns:List Int}:∀{us:List Value},qD (ns.map V.int) us->IntsAre us ns:=by
 induction ns with
 | nil=>intro us r;rw[List.map_nil]at r;cases r;exact .nil
 | cons n ns ih=>
   intro us r
   rw[List.map_cons]at r
   cases r with
   | cons r1 r2=>
     obtain⟨t,e⟩:=r1
     subst e
     exact .cons n t (ih r2)
section
variable {X:Cx} {e:Expr} {te:TE} {lo hi:Option Expr} {tl th:TO} {pos p2:Pos}
theorem ZL:JO X none WS:=.of (by
 intro pins s σ H Q I h
 rw[evalPart_none]
 exact wpAny_pure ⟨none,H,I,.none,h⟩)
theorem ZK (h:JE X e te):JO X (some e) (xf te):=.of (by
 have h:=h.to
 intro pins s σ H Q I hw
 rw[evalPart_some]
 refine jk (h pins s σ H _ I hw) λu s1 ⟨x,H1,I1,r1,q1⟩=>?_
 obtain⟨i,rfl,q⟩:=q1
 obtain⟨t,rfl⟩:=r1
 exact⟨some i,H1,I1,.int i t,q⟩)
def Gz (X:Cx) (r:V->Option Int->Option Int->Hp->VK->Prop):Prop:=
 ∀(pins:List (Addr×Obj)) (s:Shared) (σ:St) (H:Hp) (x:V) (v vl vu:Value) (lo hi:Option Int) (sl:Addr) (Q:VK),qw X pins σ H s->qO x v->s.heap.IsSliceOf sl vl vu .none->IsPart vl lo->IsPart vu hi->r x lo hi H Q->
   ∃T id,typeLookup (.type T) "__getitem__"=pure (some (.builtin id))/\s.TypeIs v T/\wpAny (model X.prog X.w) X.A (getItem v (.ref sl)) (EP X pins σ Q) X.xe s
def tSl (r:V->Option Int->Option Int->Hp->VK->Prop) (te:TE) (tl th:TO):TE:=λσ H Q=>te σ H λx H1=>tl σ H1 λl H2=>th σ H2 λu H3=>r x l u H3 Q
theorem J5 {r:V->Option Int->Option Int->Hp->VK->Prop} (hr:Gz X r) (he:JE X e te) (hl:JO X lo tl) (hu:JO X hi th):JE X (.Subscript e (.Slice lo hi none p2) pos) (tSl r te tl th):=.of (by
 have he:=he.to
 have hl:=hl.to
 have hu:=hu.to
 intro pins s σ H Q I h
 refine Subscript_ (jk (he pins s σ H _ I h) λv s1 ⟨x,H1,I1,r1,q1⟩=>?_)
 refine wpAny_Slice (jk (hl pins s1 σ H1 _ I1 q1) λvl s2 ⟨l,H2,I2,pl,q2⟩=>jk (hu pins s2 σ H2 _ I2 q2) λvu s3 ⟨u,H3,I3,pu,q3⟩=>?_)
 rw[evalPart_none]
 refine wpAny_pure ?_
 have I4:qw X pins σ H3 {s3 with heap:=s3.heap.push {cls:=.type "slice",data:=.fields #[vl,vu,.none]}}:=I3.kept (t':=s3.toks) λb ob q=>Heap.get?_push_of_some _ q
 obtain⟨T,id,hT,ht,hg⟩:=hr pins {s3 with heap:=s3.heap.push {cls:=.type "slice",data:=.fields #[vl,vu,.none]}} σ H3 x v vl vu l u s3.heap.objs.size Q I4 r1 (Heap.IsSliceOf.new ..) pl pu q3
 show wpAny (model X.prog X.w) X.A (subscriptTail e (.Slice lo hi none p2) v (.ref s3.heap.objs.size)) (EP X pins σ Q) X.xe {s3 with heap:=s3.heap.push {cls:=.type "slice",data:=.fields #[vl,vu,.none]}}
 exact tail_any (ops:=[.ref s3.heap.objs.size,v]) ht hT hg (by with_unfolding_all rfl))
def cutV (xs:List V) (lo hi:Option Int):List V:=(xs.drop (HT.sIx xs.length 0 lo)).take (HT.sIx xs.length xs.length hi - HT.sIx xs.length 0 lo)
theorem XJ (xs:List V) (lo hi:Option Int):(cutV xs lo hi).length<=xs.length:=by
 unfold cutV
 rw[List.length_take,List.length_drop]
 omega
end
end L2
namespace L2
open PySem PySem.Spec PyProof.Rows
def ue (n:Nat) (i:Int):Option Nat:=if 0<=i then (if i < n then some i.toNat else none) else if -(n:Int)<=i then some (i+n).toNat else none
def Uy {α:Type} (xs:List α) (i:Int):Option α:=(ue xs.length i).bind λj=>xs[j]?
theorem yR {n:Nat} {i:Int} {j:Nat} (h:ue n i=some j):seqIndex? i n=some j/\j < n/\-(n:Int)<=i/\i < n:=by
 unfold ue at h
 by_cases h0:0<=i
 . rw[if_pos h0]at h
   by_cases h1:i < n
   . rw[if_pos h1]at h
     have e:i.toNat=j:=Option.some.inj h
     exact⟨by rw[seqIndex_of h0 h1,e],by omega,by omega,h1⟩
   . rw[if_neg h1]at h;cases h
 . rw[if_neg h0]at h
   by_cases h1:-(n:Int)<=i
   . rw[if_pos h1]at h
     have e:(i+n).toNat=j:=Option.some.inj h
     exact⟨by rw[seqIndex_neg (by omega) h1,e],by omega,h1,by omega⟩
   . rw[if_neg h1]at h;cases h
theorem Y4 {α:Type} {xs:List α} {i:Int} {v:α} (h:Uy xs i=some v):∃j,seqIndex? i xs.length=some j/\xs[j]?=some v/\j < xs.length/\-(xs.length:Int)<=i/\i < xs.length:=by
 unfold Uy at h
 cases e:ue xs.length i with
 | none=>rw[e]at h;cases h
 | some j=>
   rw[e]at h
   obtain⟨h1,h2,h3,h4⟩:=yR e
   exact⟨j,h1,h,h2,h3,h4⟩
theorem qK {α:Type} {xs:List α} {j:Nat} {v:α} (h:xs[j]?=some v):Uy xs (j:Int)=some v:=by
 have hj:j < xs.length:=(List.getElem?_eq_some_iff.mp h).1
 have e:ue xs.length (j:Int)=some j:=by
   unfold ue
   rw[if_pos (by omega),if_pos (by omega)];simp
 unfold Uy;rw[e];exact h
def y6 (b:Expr):Prop:=∀o i,subscripted b false o i=operate [o,i] (getItem o i)
def KO (X:Cx) (r:R2):Prop:=
 ∀(value slice:Expr) (pins:List (Addr×Obj)) (s:Shared) (σ:St) (H:Hp) (x y:V) (v u:Value) (Q:VK),qw X pins σ H s->qO x v->qO y u->r x y H Q->
   subscripted slice false v u=operate [v,u] (getItem v u)->wpAny (model X.prog X.w) X.A (subscriptTail value slice v u) (EP X pins σ Q) X.xe s
def KD (X:Cx) (id:String) (r:V->List V->Hp->VK->Prop):Prop:=
 ∀(pins:List (Addr×Obj)) (s:Shared) (σ:St) (H:Hp) (x:V) (xs:List V) (v:Value) (us:List Value) (Q:VK),qw X pins σ H s->qO x v->qD xs us->r x xs H Q->
   wpAny (model X.prog X.w) X.A (call (.builtin id) (v::us)) (EP X pins σ Q) X.xe s
section
variable {X:Cx} {a b:Expr} {ta tb:TE} {pos:Pos}
theorem qS {r:R2} (hr:KO X r) (ha:JE X a ta) (hb:JE X b tb) (hs:y6 b):JE X (.Subscript a b pos) (zN r ta tb):=.of (by
 have ha:=ha.to
 have hb:=hb.to
 intro pins s σ H Q I h
 exact Subscript_ (wQ ha hb I h λv u s2 x y H2 I2 rx ry q=>hr a b pins s2 σ H2 x y v u Q I2 rx ry q (hs _ _)))
def uP (K:PySem.W.Frag):R2:=λx y H Q=>∃p xs i v,x=.ref p/\y=.int i/\SqL K H p xs/\Uy xs i=some v/\Q v H
def Zi (K:PySem.W.Frag):R2:=λx y H Q=>∃p xs i v,x=.ref p/\y=.int i/\Zc K H p xs/\Uy xs i=some v/\Q v H
def uO:R2:=λx y H Q=>∃z i c,x=.str z/\y=.int i/\z.length<=sizeLine/\Uy z.cps.toList i=some c/\Q (.str ⟨#[c]⟩) H
theorem QU:KO X (uP X.K):=by
 intro value slice pins s σ H x y v u Q I rx ry h hs
 obtain⟨p,xs,i,z,rfl,rfl,hq,he,q⟩:=h
 cases rx
 obtain⟨t,rfl⟩:=ry
 obtain⟨its,r,pl,hz⟩:=I.list hq
 obtain⟨j,h1,h2,h3,h4,h5⟩:=Y4 he
 obtain⟨w,ew,rw'⟩:=r.get h2
 have hl:=r.length
 have hn:=zp
 have fin:EP X pins σ Q w s:=⟨z,H,I,rw',q⟩
 by_cases h0:0<=i
 . have hj:i.toNat=j:=by
     rw[seqIndex_of h0 h5]at h1
     exact Option.some.inj h1
   exact item_listR pl.isList h0 (by omega) (by rw[hj];simpa using ew) fin hs
 . have hj:(i+(its.toArray.size:Int)).toNat=j:=by
     rw[seqIndex_neg (by omega) h4]at h1
     rw[List.size_toArray,<-hl]
     exact Option.some.inj h1
   exact subscriptTail_builtinR (x:=w) pl.isList.typeIs slot_list_getitem.lookup
     (wpAny_getItem_list_neg (Q:=λr s'=>r=w/\EP X pins σ Q r s') pl.isList (by omega) (by rw[List.size_toArray]<;>omega) (by omega) (by rw[hj];simpa using ew) ⟨rfl,fin⟩) hs
theorem qR:KO X (Zi X.K):=by
 intro value slice pins s σ H x y v u Q I rx ry h hs
 obtain⟨p,xs,i,z,rfl,rfl,hq,he,q⟩:=h
 cases rx
 obtain⟨t,rfl⟩:=ry
 obtain⟨its,r,pl,hz⟩:=I.tuple hq
 obtain⟨j,h1,h2,h3,h4,h5⟩:=Y4 he
 obtain⟨w,ew,rw'⟩:=r.get h2
 have hl:=r.length
 have hn:=zp
 have fin:EP X pins σ Q w s:=⟨z,H,I,rw',q⟩
 exact subscriptTail_builtinR (x:=w) pl.typeIs slot_tuple_getitem.lookup
   (getItem_tuple (j:=j) (Q:=λr s'=>r=w/\EP X pins σ Q r s') pl (by omega) (by omega) (by rw[List.size_toArray,<-hl];exact h1) (by simpa using ew) ⟨rfl,fin⟩) hs
theorem YR:KO X uO:=by
 intro value slice pins s σ H x y v u Q I rx ry h hs
 obtain⟨z,i,c,rfl,rfl,hz,he,q⟩:=h
 obtain⟨t,rfl⟩:=rx
 obtain⟨t',rfl⟩:=ry
 obtain⟨j,h1,h2,h3,h4,h5⟩:=Y4 he
 have hl:z.cps.toList.length=z.length:=by simp [Str.length]
 rw[hl]at h1 h4 h5
 have hn:=zp
 exact tail_any (typeIs_str s z t) slot_str_getitem.lookup (getItem_str (c:=c) (by
   have e1:decide (i < -(2^63:Int))=false:=decide_eq_false (by omega)
   have e2:decide (i ≥ 2^63)=false:=decide_eq_false (by omega)
   rw[e1,e2,Bool.or_false]) (by rw[h1];simpa using h2) ⟨.str ⟨#[c]⟩,H,I.tok _,⟨_,rfl⟩,q⟩) hs
theorem YB (lo hi:Option Int) (n:Nat):(sliceBounds lo hi none n).1=((HT.sIx n 0 lo:Nat):Int)/\(sliceBounds lo hi none n).2.1=((HT.sIx n n hi:Nat):Int)/\(sliceBounds lo hi none n).2.2=1:=by
 refine⟨?_,?_,rfl⟩
 . cases lo with
   | none=>simp [sliceBounds,HT.sIx]
   | some i=>
     simp only[sliceBounds,HT.sIx,Option.getD_none,show (1:Int) > 0 by decide,if_true]
     by_cases h:i < 0
     . simp only[h,if_true]<;>omega
     . simp only[h,if_false]<;>omega
 . cases hi with
   | none=>simp [sliceBounds,HT.sIx]
   | some i=>
     simp only[sliceBounds,HT.sIx,Option.getD_none,show (1:Int) > 0 by decide,if_true]
     by_cases h:i < 0
     . simp only[h,if_true]<;>omega
     . simp only[h,if_false]<;>omega
theorem zQ (its:List Value) (lo hi:Option Int):slicePick its.toArray lo hi none=((its.drop (HT.sIx its.length 0 lo)).take (HT.sIx its.length its.length hi - HT.sIx its.length 0 lo)).toArray:=by
 obtain⟨h1,h2,h3⟩:=YB lo hi its.toArray.size
 unfold slicePick
 rw[h1,h2,h3]
 simp only[sliceRange_one,pick_run,List.size_toArray]<;>rfl
def uL (K:PySem.W.Frag):V->Option Int->Option Int->Hp->VK->Prop:=λx lo hi H Q=>∃a xs,x=.ref a/\SqL K H a xs/\∀p,H p=none->Q (.ref p) (upd H p (.lst (cutV xs lo hi)))
theorem WZ:Gz X (uL X.K):=by
 intro pins s σ H x v vl vu lo hi sl Q I rx hs pl pu h
 obtain⟨a,xs,rfl,hx,q⟩:=h
 cases rx
 obtain⟨its,r,ht,hz⟩:=I.list hx
 have hlen:=r.length
 refine⟨"list",_,slot_list_getitem.lookup,ht.isList.typeIs,?_⟩
 refine wpAny_getItem_list_slice ht.isList hs pl pu .none (by simp) ?_ (by rw[List.size_toArray]<;>omega)
 rw[zQ,<-hlen]
 refine⟨.ref s.heap.objs.size,_,I.laid (t':=s.toks) (o:=.lst (cutV xs lo hi)) (λb ob q=>Heap.get?_push_of_some _ q) (Nat.le_refl _) ?_,rfl,q _ (I.hok.fresh (Nat.le_refl _))⟩
 exact⟨Nat.le_trans (XJ xs lo hi) hz,_,0,(r.drop (HT.sIx xs.length 0 lo)).take (HT.sIx xs.length xs.length hi - HT.sIx xs.length 0 lo),Heap.get?_push_size _ rfl⟩
def J7:V->Bool
 | .non=>true
 | .bl _=>true
 | .int _=>true
 | .str _=>true
 | _=>false
def yX:V->V->Bool
 | .non,.non=>true
 | .bl a,.bl b=>a==b
 | .bl a,.int b=>(if a then 1 else 0)==b
 | .int a,.bl b=>a==(if b then 1 else 0)
 | .int a,.int b=>a==b
 | .str a,.str b=>a==b
 | _,_=>false
theorem wO {A:Around} {s:Shared} {y x:V} {u v:Value} (ry:qO y u) (rx:qO x v) (fy:J7 y=true) (fx:J7 x=true):SeqAt.EqAt A s u v (yX y x):=by
 cases y with
 | non=>
   cases ry
   cases x with
   | non=>cases rx;exact SeqAt.EqAt.same _
   | bl b=>cases rx;exact SeqAt.EqAt.none_bool b
   | int b=>obtain⟨t,rfl⟩:=rx;exact SeqAt.EqAt.none_int b t
   | str b=>obtain⟨t,rfl⟩:=rx;exact SeqAt.EqAt.none_str b t
   | _=>exact absurd (show false=true from fx) Bool.false_ne_true
 | bl a=>
   cases ry
   cases x with
   | non=>cases rx;exact SeqAt.EqAt.bool_none a
   | bl b=>cases rx;exact SeqAt.EqAt.bool_bool a b
   | int b=>obtain⟨t,rfl⟩:=rx;exact SeqAt.EqAt.bool_int a b t
   | str b=>obtain⟨t,rfl⟩:=rx;exact SeqAt.EqAt.bool_str a b t
   | _=>exact absurd (show false=true from fx) Bool.false_ne_true
 | int a=>
   obtain⟨t',rfl⟩:=ry
   cases x with
   | non=>cases rx;exact SeqAt.EqAt.int_none a t'
   | bl b=>cases rx;exact SeqAt.EqAt.int_bool a t' b
   | int b=>obtain⟨t,rfl⟩:=rx;exact SeqAt.EqAt.int_int a t' b t
   | str b=>obtain⟨t,rfl⟩:=rx;exact SeqAt.EqAt.int_str a t' b t
   | _=>exact absurd (show false=true from fx) Bool.false_ne_true
 | str a=>
   obtain⟨t',rfl⟩:=ry
   cases x with
   | non=>cases rx;exact SeqAt.EqAt.str_none a t'
   | bl b=>cases rx;exact SeqAt.EqAt.str_bool a t' b
   | int b=>obtain⟨t,rfl⟩:=rx;exact SeqAt.EqAt.str_int a t' b t
   | str b=>obtain⟨t,rfl⟩:=rx;exact SeqAt.EqAt.str_str a t' b t
   | _=>exact absurd (show false=true from fx) Bool.false_ne_true
 | _=>exact absurd (show false=true from fy) Bool.false_ne_true
def WC (x:V) (u:Value):Bool:=match u with
 | .none=>yX .non x
 | .bool b=>yX (.bl b) x
 | .int i _=>yX (.int i) x
 | .str z _=>yX (.str z) x
 | _=>false
theorem kl {x y:V} {u:Value} (r:qO y u) (f:J7 y=true):WC x u=yX y x:=by
 cases y with
 | non=>cases r;rfl
 | bl b=>cases r;rfl
 | int i=>obtain⟨t,rfl⟩:=r;rfl
 | str z=>obtain⟨t,rfl⟩:=r;rfl
 | _=>exact absurd (show false=true from f) Bool.false_ne_true
theorem Zb {x:V}:∀{xs:List V} {us:List Value},qD xs us->xs.all J7=true->us.any (WC x)=xs.any λy=>yX y x
 | _,_,.nil,_=>rfl
 | y::xs,u::us,.cons r t,f=>by
   rw[List.all_cons,Bool.and_eq_true]at f
   rw[List.any_cons,List.any_cons,kl r f.1,Zb t f.2]
theorem Q8 {A:Around} {s:Shared} {x:V} {v:Value} (rx:qO x v) (fx:J7 x=true):∀{xs:List V} {us:List Value},qD xs us->xs.all J7=true->∀u∈us,SeqAt.EqAt A s u v (WC x u)
 | _,_,.nil,_=>λu hu=>by cases hu
 | y::xs,u::us,.cons r t,f=>λu' hu=>by
   rw[List.all_cons,Bool.and_eq_true]at f
   rcases List.mem_cons.mp hu with rfl | hu
   . rw[kl r f.1];exact wO r rx f.1 fx
   . exact Q8 rx fx t f.2 u' hu
def zB (x:V) (xs:List V):Bool:=xs.any λy=>yX y x
def KM (K:PySem.W.Frag) (neg:Bool):R2:=λx y H Q=>∃p xs,y=.ref p/\(SqL K H p xs\/Zc K H p xs)/\J7 x=true/\xs.all J7=true/\Q (.bl (if neg then !zB x xs else zB x xs)) H
theorem Yb:Zd X (compareOp .In) (KM X.K false):=by
 intro pins s σ H x y v u Q I rx ry h
 obtain⟨p,xs,rfl,hq,fx,fs,q⟩:=h
 cases ry
 rcases hq with hq | hq
 . obtain⟨its,r,pl,hz⟩:=I.list hq
   refine SeqAt.in_listAt (WC x) pl.isList (λw hw=>Q8 rx fx r fs w (by simpa using hw)) ⟨.bl _,H,I,rfl,?_⟩
   rw[show its.toArray.any (WC x)=its.any (WC x) by simp,Zb r fs]
   exact q
 . obtain⟨its,r,pl,hz⟩:=I.tuple hq
   refine SeqAt.in_tupleAt (WC x) pl (λw hw=>Q8 rx fx r fs w (by simpa using hw)) ⟨.bl _,H,I,rfl,?_⟩
   rw[show its.toArray.any (WC x)=its.any (WC x) by simp,Zb r fs]
   exact q
theorem YI:Zd X (compareOp .NotIn) (KM X.K true):=by
 intro pins s σ H x y v u Q I rx ry h
 obtain⟨p,xs,rfl,hq,fx,fs,q⟩:=h
 cases ry
 rcases hq with hq | hq
 . obtain⟨its,r,pl,hz⟩:=I.list hq
   refine SeqAt.notIn_listAt (WC x) pl.isList (λw hw=>Q8 rx fx r fs w (by simpa using hw)) ⟨.bl _,H,I,rfl,?_⟩
   rw[show its.toArray.any (WC x)=its.any (WC x) by simp,Zb r fs]
   exact q
 . obtain⟨its,r,pl,hz⟩:=I.tuple hq
   refine SeqAt.notIn_tupleAt (WC x) pl (λw hw=>Q8 rx fx r fs w (by simpa using hw)) ⟨.bl _,H,I,rfl,?_⟩
   rw[show its.toArray.any (WC x)=its.any (WC x) by simp,Zb r fs]
   exact q
theorem qy:jU X (.builtin "len") (λxs H Q=>∃p ys,xs=[.ref p]/\(SqL X.K H p ys\/Zc X.K H p ys)/\Q (.int ys.length) H):=by
 intro pins s σ H xs us Q I r h
 obtain⟨p,ys,rfl,hq,q⟩:=h
 obtain⟨u,rfl,rx⟩:=Qh r
 cases rx
 have hn:=zp
 rcases hq with hq | hq
 . obtain⟨its,r',pl,hz⟩:=I.list hq
   have hlen:=r'.length
   exact Calls.call_len_list pl.isList (by simp only[List.size_toArray]<;>omega) ⟨.int ys.length,H,I.tok _,⟨s.toks+1,by rw[List.size_toArray,hlen]⟩,q⟩
 . obtain⟨its,r',pl,hz⟩:=I.tuple hq
   have hlen:=r'.length
   exact len_tuple pl (by simp only[List.size_toArray]<;>omega) ⟨.int ys.length,H,I.tok _,⟨s.toks+1,by rw[List.size_toArray,hlen]⟩,q⟩
theorem QW:jU X (.builtin "len") (λxs H Q=>∃z,xs=[.str z]/\z.length<=sizeLine/\Q (.int z.length) H):=by
 intro pins s σ H xs us Q I r h
 obtain⟨z,rfl,hz,q⟩:=h
 obtain⟨u,rfl,t,rfl⟩:=Qh r
 have hn:=zp
 exact len_str (by omega) ⟨.int z.length,H,I.tok _,⟨_,rfl⟩,q⟩
theorem Qk:jU X (.type "list") (λxs H Q=>∃p ys,xs=[.ref p]/\(SqL X.K H p ys\/Zc X.K H p ys)/\∀l,H l=none->Q (.ref l) (upd H l (.lst ys))):=by
 intro pins s σ H xs us Q I r h
 obtain⟨p,ys,rfl,hq,q⟩:=h
 obtain⟨u,rfl,rx⟩:=Qh r
 cases rx
 have fin:∀(its:List Value),qD ys its->ys.length<=sizeLine->∀(h':Heap) (c':Nat),(∀b o',s.heap.get? b=some o'->h'.get? b=some o')->
     h'.get? s.heap.objs.size=some {cls:=.type "list",dict:=none,data:=.seq its.toArray c',slots:=#[]}->EP X pins σ Q (.ref s.heap.objs.size) {s with heap:=h'}:=λits r' hz h' c' kp e=>
   ⟨.ref s.heap.objs.size,_,I.laid (t':=s.toks) kp (Nat.le_refl _) (show qC X.prog X.w _ h' _ (.lst ys) from⟨hz,its,c',r',e⟩),rfl,q _ (I.hok.fresh (Nat.le_refl _))⟩
 rcases hq with hq | hq
 . obtain⟨its,r',pl,hz⟩:=I.list hq
   have hlen:=r'.length
   obtain⟨o,ho,hc,n,hd⟩:=pl.isList
   exact call_list_seq p (.inl rfl) ho hc hd (λh' c' kp e=>fin its r' hz h' c' kp e) (by simp only[List.size_toArray]<;>omega)
 . obtain⟨its,r',pl,hz⟩:=I.tuple hq
   have hlen:=r'.length
   obtain⟨o,ho,hc,n,hd⟩:=pl
   exact call_list_seq p (.inr rfl) ho hc hd (λh' c' kp e=>fin its r' hz h' c' kp e) (by simp only[List.size_toArray]<;>omega)
theorem QE:jU X (.type "tuple") (λxs H Q=>∃p ys,xs=[.ref p]/\((SqL X.K H p ys/\∀l,H l=none->Q (.ref l) (upd H l (.tup ys)))\/(Zc X.K H p ys/\Q (.ref p) H))):=by
 intro pins s σ H xs us Q I r h
 obtain⟨p,ys,rfl,h⟩:=h
 obtain⟨u,rfl,rx⟩:=Qh r
 cases rx
 rcases h with ⟨hq,q⟩ | ⟨hq,q⟩
 . obtain⟨its,r',pl,hz⟩:=I.list hq
   have hlen:=r'.length
   refine call_tuple_list pl.isList (λh' kp=>?_) (by simp only[List.size_toArray]<;>omega)
   have I1:qw X pins σ H {s with heap:=h'}:=I.kept (t':=s.toks) kp
   have I2:qw X pins σ (upd H h'.objs.size (.tup ys)) {s with heap:=h'.push {cls:=.type "tuple",data:=.seq its.toArray}}:=
     I1.laid (t':=s.toks) (λb o e=>Heap.get?_push_of_some _ e) (Nat.le_refl _) (show qC X.prog X.w _ _ _ (.tup ys) from⟨hz,its,r',IsTup.new _ _⟩)
   exact⟨.ref h'.objs.size,_,I2,rfl,q _ (I1.hok.fresh (Nat.le_refl _))⟩
 . obtain⟨its,r',pl,hz⟩:=I.tuple hq
   exact call_tuple_same pl ⟨.ref p,H,I,rfl,q⟩
def KQ (K:PySem.W.Frag) (T:String) (x:V) (H:Hp):Prop:=match x with
 | .str _=>T="str"
 | .int _=>T="int"
 | .ref p=>(T="list"/\∃xs,SqL K H p xs)\/(T="tuple"/\∃o,K.lookup p=some o/\o.cls=.type "tuple"/\o.dict=none)\/
     (T="dict"/\((∃kvs,H p=some (.dK kvs))\/∃kvs,H p=some (.dT kvs)))\/(T="set"/\∃S n,H p=some (.set S n))
 | _=>False
theorem Uz {pins:List (Addr×Obj)} {σ:St} {H:Hp} {s:Shared} {T:String} {x:V} {v:Value} (I:qw X pins σ H s) (r:qO x v) (ty:KQ X.K T x H):
   s.TypeIs v T/\∀a,v=.ref a->∃ob,s.heap.get? a=some ob/\ob.dict=none:=by
 cases x with
 | str z=>
   obtain⟨t,rfl⟩:=r
   cases (show T="str" from ty)
   exact⟨typeIs_str s z t,λ_ e=>nomatch e⟩
 | int i=>
   obtain⟨t,rfl⟩:=r
   cases (show T="int" from ty)
   exact⟨typeIs_int s i t,λ_ e=>nomatch e⟩
 | ref p=>
   cases r
   rcases ty with ⟨rfl,xs,hq⟩ | ⟨rfl,o,hk,hc,hd⟩ | ⟨rfl,hk⟩ | ⟨rfl,S,n,hk⟩
   . obtain⟨its,_,pl,_⟩:=I.list hq
     refine⟨pl.isList.typeIs,λa e=>?_⟩
     cases e
     obtain⟨o,n,e,c,hd,_⟩:=pl
     exact⟨o,e,hd⟩
   . refine⟨⟨o,I.kIn p o hk,hc⟩,λa e=>?_⟩
     cases e
     exact⟨o,I.kIn _ o hk,hd⟩
   . have z:∃o,s.heap.get? p=some o/\o.ExactDict:=by
       rcases hk with ⟨kvs,hk⟩ | ⟨kvs,hk⟩
       . obtain⟨_,_,_,_,o,_,_,e,ex,_⟩:=I.hok p _ hk
         exact⟨o,e,ex⟩
       . obtain⟨_,_,_,_,o,_,_,e,ex,_⟩:=I.hok p _ hk
         exact⟨o,e,ex⟩
     obtain⟨o,e,ex⟩:=z
     refine⟨⟨o,e,ex.1⟩,λa e2=>?_⟩
     cases e2
     exact⟨o,e,ex.2.1⟩
   . obtain⟨o,_,_,_,e,ex,_⟩:=I.hok p _ hk
     refine⟨⟨o,e,ex.1⟩,λa e2=>?_⟩
     cases e2
     exact⟨o,e,ex.2.1⟩
 | _=>exact False.elim ty
def K1 (K:PySem.W.Frag) (T:String) (r:V->List V->Hp->VK->Prop) (to:TE):TE:=λσ H Q=>to σ H λx H1=>KQ K T x H1/\r x [] H1 Q
def K2 (K:PySem.W.Frag) (T:String) (r:V->List V->Hp->VK->Prop) (to:TE) (t:TA):TE:=λσ H Q=>to σ H λx H1=>KQ K T x H1/\t σ H1 λxs H2=>r x xs H2 Q
variable {o e:Expr} {es:List Expr} {to:TE} {t:TA} {name:Str} {apos cpos:Pos} {T id:String} {r:V->List V->Hp->VK->Prop}
theorem vV (pa:PlainAttrs T) (slot:Slot T name id) (hty:typeOf (.builtin id)=pure (.type "method_descriptor")) (hm:KD X id r) (ho:JE X o to) (hbase:attributeBase o name X.env (eval o X.env)=eval o X.env:=by rfl) (hline:(apos.endLine==cpos.line)=true:=by rfl):JE X (.Call (.Attribute o name apos) [] [] cpos) (K1 X.K T r to):=.of (by
 have ho:=ho.to
 intro pins s σ H Q I h
 refine wpAny_Call_method0_late hbase hline (jk (ho pins s σ H _ I h) λv s1 ⟨x,H1,I1,r1,ty,q1⟩=>?_)
 obtain⟨h1,h2⟩:=Uz I1 r1 ty
 exact⟨T,id,pa,slot,hty,h1,h2,Calls.callWith_builtin rfl (PySem.evalArgs_none (hm pins s1 σ H1 x [] v [] Q I1 r1 .nil q1))⟩)
theorem uU (pa:PlainAttrs T) (slot:Slot T name id) (hty:typeOf (.builtin id)=pure (.type "method_descriptor")) (hm:KD X id r) (ho:PE X o to) (ha:PA X (e::es) t)
   (hbase:attributeBase o name X.env (eval o X.env)=eval o X.env:=by rfl)
   (hfew:((backTo cpos (starEach (e::es) X.env)).all (λx=> !x.1)&&(backToKw cpos (keywordEach [] X.env)).all (λx=>x.1.isSome)
     &&decide ((e::es).length+([]:List Keyword).length+(if ([]:List Keyword).isEmpty then 0 else 1) < 30))=true:=by rfl)
   (hline:(apos.endLine==cpos.line)=true:=by rfl) (hs:starEach (e::es) X.env=(false,eval e X.env)::starEach es X.env:=by rfl) (hplain:(backTo cpos (starEach es X.env)).any (·.1)=false:=by rfl):
   PE X (.Call (.Attribute o name apos) (e::es) [] cpos) (K2 X.K T r to t):=by
 intro pins s σ H Q I h
 refine wpAny_Call_method_late hbase hfew hline rfl (jk (ho pins s σ H _ I h) λv s1 ⟨x,H1,I1,r1,ty,q1⟩=>?_)
 obtain⟨h1,h2⟩:=Uz I1 r1 ty
 refine⟨T,id,pa,slot,hty,h1,h2,?_⟩
 have hA:=ha cpos pins s1 σ H1 _ I1 q1
 rw[hs]at hA ⊢
 refine Calls.callWith_builtin (by show (false || (backTo cpos (starEach es X.env)).any (·.1))=false;rw[hplain]<;>rfl) (Calls.evalArgs_plain ?_)
 exact jk hA λus s2 ⟨vs,H2,I2,r2,q2⟩=>hm pins s2 σ H2 x vs v us Q I2 r1 r2 q2
theorem zA (pa:PlainAttrs T) (slot:Slot T name id) (hty:typeOf (.builtin id)=pure (.type "method_descriptor")) (hm:KD X id r) (ho:JE X o to) (ha:JA X (e::es) t) (hbase:attributeBase o name X.env (eval o X.env)=eval o X.env:=by rfl) (hfew:((backTo cpos (starEach (e::es) X.env)).all (λx=> !x.1)&&(backToKw cpos (keywordEach [] X.env)).all (λx=>x.1.isSome)
     &&decide ((e::es).length+([]:List Keyword).length+(if ([]:List Keyword).isEmpty then 0 else 1) < 30))=true:=by rfl) (hline:(apos.endLine==cpos.line)=true:=by rfl) (hs:starEach (e::es) X.env=(false,eval e X.env)::starEach es X.env:=by rfl) (hplain:(backTo cpos (starEach es X.env)).any (·.1)=false:=by rfl):JE X (.Call (.Attribute o name apos) (e::es) [] cpos) (K2 X.K T r to t):=.of (uU pa slot hty hm ho.to ha.to hbase hfew hline hs hplain)
end
end L2
namespace L2
open PySem PySem.Spec PyProof.Rows
def GD (X:Cx) (id:String) (r:V->List V->Hp->VK->Prop):Prop:=
 ∀(pins:List (Addr×Obj)) (s:Shared) (σ:St) (H:Hp) (x:V) (xs:List V) (v:Value) (us:List Value) (Q:VK),qw X pins σ H s->qO x v->qD xs us->r x xs H Q->
   wpAny (model X.prog X.w) X.A (call (.builtin id) (v::us)) (EP X pins σ Q) X.xe s
theorem qD.one:∀{x:V} {us:List Value},qD [x] us->∃u,us=[u]/\qO x u
 | _,_,.cons r .nil=>⟨_,rfl,r⟩
theorem qD.zero:∀{us:List Value},qD [] us->us=[]
 | _,.nil=>rfl
theorem qD.reverse {xs:List V} {us:List Value} (h:qD xs us):qD xs.reverse us.reverse:=by
 induction h with
 | nil=>exact .nil
 | cons r t ih=>rw[List.reverse_cons,List.reverse_cons];exact qD.append ih (.cons r .nil)
section
variable {X:Cx} {pins:List (Addr×Obj)} {σ:St} {H:Hp} {s:Shared} {l b:Addr} {xs ys zs:List V}
theorem qw.lset {its its':List Value} {n:Nat} {f:Array Value->Array Value} {t':Nat} (I:qw X pins σ H s) (hH:H l=some (.lst xs))
   (e:s.heap.get? l=some {cls:=.type "list",data:=.seq its.toArray n}) (hf:f its.toArray=its'.toArray) (hv:qD ys its') (hz:ys.length<=sizeLine):
   qw X pins σ (upd H l (.lst ys)) {s with heap:=s.heap.update l (Obj.mapSeq f),toks:=t'}:=by
 have q:=PySem.IsL.update e f
 rw[hf]at q
 refine I.write (x:=l) (e:=l) (by rw[hH];exact trivial) (.inl rfl) (λb' u hb hu=>(Heap.get?_update_other s.heap (Obj.mapSeq f) (Ne.symm hb)).trans hu) ⟨_,q⟩ ?_
 exact⟨hz,its',_,hv,q⟩
theorem qw.lstM (I:qw X pins σ H s) (hH:H l=some (.lst xs)):xs.length<=sizeLine/\∃(its:List Value) (n:Nat),qD xs its/\xs.length=its.length/\s.heap.get? l=some {cls:=.type "list",data:=.seq its.toArray n}:=by
 obtain⟨z,its,n,r,e⟩:=I.hok l _ hH
 exact⟨z,its,n,r,r.length,e⟩
theorem vA {n:Nat} (h:n<=sizeLine):Builtin.List.listTooLong n=false:=by
 unfold Builtin.List.listTooLong
 exact decide_eq_false (by omega)
end
section
variable {X:Cx}
def W8:V->List V->Hp->VK->Prop:=λx vs H Q=>∃l xs y,x=.ref l/\vs=[y]/\H l=some (.lst xs)/\xs.length < sizeLine/\Q .non (upd H l (.lst (xs++[y])))
theorem QI:GD X "list.append" W8:=by
 intro pins s σ H x vs v us Q I rx rv h
 obtain⟨l,xs,y,rfl,rfl,hH,hz,q⟩:=h
 cases rx
 obtain⟨u,rfl,ru⟩:=rv.one
 obtain⟨z,its,n,r,hl,e⟩:=I.lstM hH
 refine call_meets F.slot_list_append ⟨_,e,rfl⟩ F.entry_list_append (F.args_list_append_2 _ _) (PySem.list_append l its.toArray n u (by rw[List.size_toArray];omega)) ⟨e,?_⟩
 refine⟨.non,_,I.lset (its':=its++[u]) hH e (by simp) (r.append (.cons ru .nil)) ?_,rfl,q⟩
 rw[List.length_append,List.length_singleton]
 omega
def yj:V->List V->Hp->VK->Prop:=λx vs H Q=>∃l b xs zs,x=.ref l/\vs=[.ref b]/\H l=some (.lst xs)/\H b=some (.lst zs)/\xs.length+zs.length<=sizeLine/\Q .non (upd H l (.lst (xs++zs)))
theorem Ye:GD X "list.extend" yj:=by
 intro pins s σ H x vs v us Q I rx rv h
 obtain⟨l,b,xs,zs,rfl,rfl,hH,hB,hz,q⟩:=h
 cases rx
 obtain⟨u,rfl,ru⟩:=rv.one
 cases ru
 obtain⟨z,its,n,r,hl,e⟩:=I.lstM hH
 obtain⟨z2,its2,n2,r2,hl2,e2⟩:=I.lstM hB
 have hsz:its.toArray.size+its2.toArray.size<=sizeLine:=by rw[List.size_toArray,List.size_toArray];omega
 have hlong:¬(!its.toArray.isEmpty&&Builtin.List.listTooLong (its.toArray.size+its2.toArray.size))=true:=by
   rw[vA hsz,Bool.and_false]
   exact Bool.false_ne_true
 refine call_meets F.slot_list_extend ⟨_,e,rfl⟩ F.entry_list_extend (F.args_list_extend_2 _ _)
   (AutoSeq1.list_extend_list_list_0 l its.toArray n b its2.toArray n2 hlong (by rw[List.size_toArray];omega) (by omega)) ⟨e,e2,?_⟩
 refine⟨.non,_,I.lset (its':=its++its2) hH e (by simp) (r.append r2) ?_,rfl,q⟩
 rw[List.length_append]
 omega
def U8:V->List V->Hp->VK->Prop:=λx vs H Q=>∃l xs,x=.ref l/\vs=[]/\H l=some (.lst xs)/\Q .non (upd H l (.lst xs.reverse))
theorem Wq:GD X "list.reverse" U8:=by
 intro pins s σ H x vs v us Q I rx rv h
 obtain⟨l,xs,rfl,rfl,hH,q⟩:=h
 cases rx
 have hus:=rv.zero
 subst hus
 obtain⟨z,its,n,r,hl,e⟩:=I.lstM hH
 refine call_meets F.slot_list_reverse ⟨_,e,rfl⟩ F.entry_list_reverse (F.args_list_reverse_1 _) (AutoSeq1.list_reverse_list_0 l its.toArray n (by rw[List.size_toArray];omega)) ⟨e,?_⟩
 refine⟨.non,_,I.lset (its':=its.reverse) hH e (by simp) r.reverse ?_,rfl,q⟩
 rw[List.length_reverse]
 omega
end
section
variable {prog:Program} {w:World} {A:Around} {E:Value->Shared->Prop} {s:Shared}
set_option maxRecDepth 100000 in
end
section
variable {X:Cx}
end
end L2
namespace L2
open PySem PySem.Spec PyProof.Rows
section
variable {κ:Type} [DecidableEq κ]
def jp (kvs:List (κ×V)) (k:κ):Option V:=(kvs.find? λkv=>decide (kv.1=k)).map (·.2)
def jL (kvs:List (κ×V)) (k:κ) (v:V):List (κ×V):=
 if (kvs.any λkv=>decide (kv.1=k))=true then kvs.map (λkv=>if kv.1=k then (kv.1,v) else kv) else kvs++[(k,v)]
theorem je {p:κ×V} {r:List (κ×V)} {k:κ} (e:p.1=k):jp (p::r) k=some p.2:=by simp [jp,List.find?_cons,e]
theorem qZ {p:κ×V} {r:List (κ×V)} {k:κ} (e:¬p.1=k):jp (p::r) k=jp r k:=by simp [jp,List.find?_cons,e]
theorem Qp (k:κ):∀kvs:List (κ×V),(kvs.any λkv=>decide (kv.1=k))=(jp kvs k).isSome
 | []=>rfl
 | p::r=>by
   rw[List.any_cons]
   by_cases e:p.1=k
   . simp only[je e,decide_eq_true e,Bool.true_or,Option.isSome_some]
   . rw[qZ e,decide_eq_false e,Bool.false_or];exact Qp k r
theorem Xf (k j:κ) (y:V):∀kvs:List (κ×V),jp (kvs.map λkv=>if kv.1=k then (kv.1,y) else kv) j=(jp kvs j).map λx=>if j=k then y else x
 | []=>rfl
 | p::r=>by
   have ih:=Xf k j y r
   rw[List.map_cons]
   by_cases h:p.1=k
   . rw[if_pos h]
     by_cases e:p.1=j
     . rw[je (p:=(p.1,y)) e,je e,Option.map_some,if_pos (e.symm.trans h)]
     . rw[qZ (p:=(p.1,y)) e,qZ e,ih]
   . rw[if_neg h]
     by_cases e:p.1=j
     . rw[je (p:=p) e,je e,Option.map_some,if_neg (λz=>h (e.trans z))]
     . rw[qZ (p:=p) e,qZ e,ih]
theorem zY (k j:κ) (y:V):∀kvs:List (κ×V),jp kvs k=none->jp (kvs++[(k,y)]) j=if j=k then some y else jp kvs j
 | [],_=>by
   by_cases e:k=j
   . rw[if_pos e.symm];exact je (p:=(k,y)) e
   . rw[if_neg (λz=>e z.symm)];exact qZ (p:=(k,y)) e
 | p::r,hn=>by
   rw[List.cons_append]
   have hk:¬p.1=k:=λz=>by rw[je z]at hn;cases hn
   rw[qZ hk]at hn
   have ih:=zY k j y r hn
   by_cases e:p.1=j
   . rw[je e,je e,if_neg (λz=>hk (e.trans z))]
   . rw[qZ e,qZ e,ih]
theorem Xe (kvs:List (κ×V)) (k j:κ) (y:V):jp (jL kvs k y) j=if j=k then some y else jp kvs j:=by
 unfold jL
 by_cases a:(kvs.any λkv=>decide (kv.1=k))=true
 . rw[if_pos a,Xf]
   rw[Qp]at a
   by_cases e:j=k
   . obtain⟨x,hx⟩:=Option.isSome_iff_exists.mp a
     rw[if_pos e,e,hx,Option.map_some,if_pos rfl]
   . rw[if_neg e]
     cases jp kvs j with
     | none=>rfl
     | some x=>rw[Option.map_some,if_neg e]
 . rw[if_neg a]
   refine zY k j y kvs ?_
   rw[Qp]at a
   cases q:jp kvs k with
   | none=>rfl
   | some x=>rw[q]at a;exact(a rfl).elim
theorem Q9 (kvs:List (κ×V)) (k:κ) (v:V):(jL kvs k v).length<=kvs.length+1:=by
 unfold jL
 split
 . rw[List.length_map];omega
 . rw[List.length_append,List.length_cons,List.length_nil];omega
theorem zc {kvs:List (κ×V)} {k:κ} (v:V) (h:jp kvs k=none):jL kvs k v=kvs++[(k,v)]:=by
 unfold jL
 rw[Qp,h]
 exact if_neg (by decide)
theorem Q4.isSome_eq {o:Option V} {u:Option Value} (r:Q4 o u):o.isSome=u.isSome:=by
 cases o with
 | none=>cases u with
   | none=>rfl
   | some _=>exact(show False from r).elim
 | some _=>cases u with
   | none=>exact(show False from r).elim
   | some _=>rfl
theorem KV.val {kvs:List (κ×V)} {vs:List (κ×Value)} (r:KV kvs vs) (k:κ):Q4 (jp kvs k) (valueAt vs k):=by
 unfold KV at r
 induction r with
 | nil=>exact True.intro
 | @cons p q ps qs h t ih=>
   obtain⟨h1,h2⟩:=h
   by_cases e:p.1=k
   . have e':q.1=k:=h1.symm.trans e
     have b:valueAt (q::qs) k=some q.2:=by simp [valueAt,List.find?_cons,e']
     rw[je e,b];exact h2
   . have e':¬q.1=k:=λz=>e (h1.trans z)
     have b:valueAt (q::qs) k=valueAt qs k:=by simp [valueAt,List.find?_cons,e']
     rw[qZ e,b];exact ih
theorem KV.any {kvs:List (κ×V)} {vs:List (κ×Value)} (r:KV kvs vs) (k:κ):(kvs.any λkv=>decide (kv.1=k))=vs.any λkv=>decide (kv.1=k):=by
 unfold KV at r
 induction r with
 | nil=>rfl
 | cons h t ih=>rw[List.any_cons,List.any_cons,ih,h.1]
theorem KV.repl {kvs:List (κ×V)} {vs:List (κ×Value)} (r:KV kvs vs) (k:κ) {y:V} {u:Value} (ry:qO y u):
   KV (kvs.map λkv=>if kv.1=k then (kv.1,y) else kv) (vs.map λkv=>if kv.1=k then (kv.1,u) else kv):=by
 unfold KV at r ⊢
 induction r with
 | nil=>exact .nil
 | @cons p q ps qs h t ih=>
   rw[List.map_cons,List.map_cons]
   refine .cons ?_ ih
   obtain⟨h1,h2⟩:=h
   by_cases e:p.1=k
   . rw[if_pos e,if_pos (h1.symm.trans e)];exact⟨h1,ry⟩
   . rw[if_neg e,if_neg (λz=>e (h1.trans z))];exact⟨h1,h2⟩
theorem KV.put {kvs:List (κ×V)} {vs:List (κ×Value)} (r:KV kvs vs) (k:κ) {y:V} {u:Value} (ry:qO y u):KV (jL kvs k y) (stored vs k u):=by
 unfold jL stored
 rw[r.any k]
 by_cases e:(vs.any λkv=>decide (kv.1=k))=true
 . rw[if_pos e,if_pos e];exact r.repl k ry
 . rw[if_neg e,if_neg e];exact Paired.snoc r ⟨rfl,ry⟩
theorem KV.length {kvs:List (κ×V)} {vs:List (κ×Value)} (r:KV kvs vs):kvs.length=vs.length:=Paired.length r
end
theorem zv {P:Program} {w:World} {k:qN} {u:Value} (r:qO (kV k) u):(qY P w).is k u=true:=by
 cases k with
 | inl i=>obtain⟨t,e⟩:=(show ∃t,u=Value.int i t from r);subst e;exact Xx P w i t
 | inr x=>obtain⟨t,e⟩:=(show ∃t,u=Value.str x t from r);subst e;exact Xw P w x t
theorem Yi {P:Program} {w:World}:∀{ks:List qN} {us:List Value},qD (ks.map kV) us->ItemsAre (qY P w) ks us
 | [],_,r=>by rw[List.map_nil]at r;cases r;exact .nil
 | k::ks,_,r=>by
   rw[List.map_cons]at r
   cases r with
   | cons h t=>exact .cons (zv h) (Yi t)
abbrev KT (H:Hp):List (List qN×V)->List (List qN×Addr×Value)->Prop:=Paired λp q=>p.1=q.1/\H q.2.1=some (.tup (p.1.map kV))/\qO p.2 q.2.2
theorem KT.val {H:Hp} {kvs:List (List qN×V)} {xs:List (List qN×Addr×Value)} (r:KT H kvs xs) (k:List qN):Q4 (jp kvs k) ((atKey xs k).map (·.2)):=by
 induction r with
 | nil=>exact True.intro
 | @cons p q ps qs h t ih=>
   obtain⟨h1,_,h2⟩:=h
   by_cases e:p.1=k
   . have e':q.1=k:=h1.symm.trans e
     have b:atKey (q::qs) k=some q.2:=by simp [atKey,List.find?_cons,e']
     rw[je e,b];exact h2
   . have e':¬q.1=k:=λz=>e (h1.trans z)
     have b:atKey (q::qs) k=atKey qs k:=by simp [atKey,List.find?_cons,e']
     rw[qZ e,b];exact ih
theorem KT.repl {H:Hp} {kvs:List (List qN×V)} {xs:List (List qN×Addr×Value)} (r:KT H kvs xs) (k:List qN) {y:V} {u:Value} (ry:qO y u):
   KT H (kvs.map λkv=>if kv.1=k then (kv.1,y) else kv) (xs.map (putAt k u)):=by
 induction r with
 | nil=>exact .nil
 | @cons p q ps qs h t ih=>
   rw[List.map_cons,List.map_cons]
   refine .cons ?_ ih
   obtain⟨h1,h2,h3⟩:=h
   unfold putAt
   by_cases e:p.1=k
   . rw[if_pos e,if_pos (h1.symm.trans e)];exact⟨h1,h2,ry⟩
   . rw[if_neg e,if_neg (λz=>e (h1.trans z))];exact⟨h1,h2,h3⟩
theorem KT.put {H:Hp} {kvs:List (List qN×V)} {xs:List (List qN×Addr×Value)} (r:KT H kvs xs) (k:List qN) {b:Addr} {y:V} {u:Value} (hb:H b=some (.tup (k.map kV))) (ry:qO y u):
   KT H (jL kvs k y) (storedH xs k b u):=by
 have e:(kvs.any λkv=>decide (kv.1=k))=(atKey xs k).isSome:=by
   rw[Qp,(r.val k).isSome_eq,Option.isSome_map]
 unfold jL storedH
 rw[e]
 by_cases q:(atKey xs k).isSome=true
 . rw[if_pos q,if_pos q];exact r.repl k ry
 . rw[if_neg q,if_neg q];exact Paired.snoc r ⟨rfl,hb,ry⟩
theorem KT.keeps {H H':Hp} {kvs:List (List qN×V)} {xs:List (List qN×Addr×Value)} (r:KT H kvs xs) (ht:∀b ys,H b=some (.tup ys)->H' b=some (.tup ys)):KT H' kvs xs:=
 Paired.mapP r λ_ _ z=>⟨z.1,ht _ _ z.2.1,z.2.2⟩
section
variable {P:Program} {w:World} {H:Hp} {h:Heap} {a:Addr}
theorem xh {u:HO} (ok:QZ P w H h) (e:Rd H a u):qC P w H h a u:=e.ok ok
theorem XG {kvs:List (qN×V)} (ok:QZ P w H h) (e:Rd H a (.dK kvs)):kvs.length<=sizeLine/\(a==sysModules)=false/\∃vs,KV kvs vs/\h.DictOf (qY P w) a vs:=
 show qC P w H h a (.dK kvs) from xh ok e
theorem xA {kvs:List (qN×V)} (ok:QZ P w H h) (e:H a=some (.dK kvs)):kvs.length<=sizeLine/\(a==sysModules)=false/\∃vs,KV kvs vs/\h.DictOf (qY P w) a vs:=XG ok (.inl e)
theorem zt {ks:List qN} (ok:QZ P w H h) (e:H a=some (.tup (ks.map kV))):(tupleKind (qY P w)).is h ks a:=by
 obtain⟨_,its,r,o,h1,h2,n,h3⟩:=(show qC P w H h a (.tup (ks.map kV)) from ok a _ e)
 exact⟨o,its.toArray,n,h1,h2,h3,by simpa using Yi r⟩
theorem Q2 {kvs:List (List qN×V)} (ok:QZ P w H h) (e:Rd H a (.dT kvs)):kvs.length<=sizeLine/\(a==sysModules)=false/\
   ∃xs,KT H kvs xs/\h.DictOfH (tupleKind (qY P w)) a xs:=by
 obtain⟨z,y,xs,r,o,es,ep,h1,h2,h3,h4,h5⟩:=(show qC P w H h a (.dT kvs) from xh ok e)
 refine⟨z,y,xs,r,o,es,ep,h1,h2,h3,h4,λx hx=>?_,h5⟩
 have all:∀{l:List (List qN×V)} {m:List (List qN×Addr×Value)},KT H l m->∀x∈m,(tupleKind (qY P w)).is h x.1 x.2.1:=by
   intro l m q
   induction q with
   | nil=>intro x hx;exact nomatch hx
   | @cons p q ps qs hq t ih=>
     intro x hx
     rcases List.mem_cons.mp hx with e | hx
     . subst e
       exact zt ok (by rw[<-hq.1];exact hq.2.1)
     . exact ih x hx
 exact all r x hx
theorem xz {kvs:List (List qN×V)} (ok:QZ P w H h) (e:H a=some (.dT kvs)):kvs.length<=sizeLine/\(a==sysModules)=false/\
   ∃xs,KT H kvs xs/\h.DictOfH (tupleKind (qY P w)) a xs:=Q2 ok (.inl e)
end
def jK (H:Hp) (a:Addr) (y:V) (r:Option V):Prop:=
 (∃kvs k,Rd H a (.dK kvs)/\y=kV k/\r=jp kvs k)\/∃kvs k b,Rd H a (.dT kvs)/\y=.ref b/\H b=some (.tup (k.map kV))/\r=jp kvs k
def Jp (H:Hp) (a:Addr) (y v:V) (H':Hp):Prop:=
 (∃kvs k,H a=some (.dK kvs)/\y=kV k/\kvs.length < sizeLine/\H'=upd H a (.dK (jL kvs k v)))\/
 ∃kvs k b,H a=some (.dT kvs)/\y=.ref b/\H b=some (.tup (k.map kV))/\kvs.length < sizeLine/\H'=upd H a (.dT (jL kvs k v))
theorem jK.k {H:Hp} {a:Addr} {kvs:List (qN×V)} {k:qN} (e:H a=some (.dK kvs)):jK H a (kV k) (jp kvs k):=.inl ⟨kvs,k,.inl e,rfl,rfl⟩
theorem jK.t {H:Hp} {a b:Addr} {kvs:List (List qN×V)} {k:List qN} (e:H a=some (.dT kvs)) (eb:H b=some (.tup (k.map kV))):jK H a (.ref b) (jp kvs k):=.inr ⟨kvs,k,b,.inl e,rfl,eb,rfl⟩
theorem Jp.k {H:Hp} {a:Addr} {kvs:List (qN×V)} {k:qN} {v:V} (e:H a=some (.dK kvs)) (hl:kvs.length < sizeLine):Jp H a (kV k) v (upd H a (.dK (jL kvs k v))):=.inl ⟨kvs,k,e,rfl,hl,rfl⟩
theorem Jp.t {H:Hp} {a b:Addr} {kvs:List (List qN×V)} {k:List qN} {v:V} (e:H a=some (.dT kvs)) (eb:H b=some (.tup (k.map kV))) (hl:kvs.length < sizeLine):
   Jp H a (.ref b) v (upd H a (.dT (jL kvs k v))):=.inr ⟨kvs,k,b,e,rfl,eb,hl,rfl⟩
section
variable {X:Cx} {pins:List (Addr×Obj)} {σ:St} {H:Hp} {s:Shared} {a:Addr} {y v:V} {u r:Value} {o:Option V} {A:Around} {E:Value->Shared->Prop}
theorem qw.big (I:qw X pins σ H s):sysModules < s.heap.objs.size:=by
 have h:mainGlobals < s.heap.objs.size:=(I.mod.glob.keeps I.bk).lt
 exact Nat.lt_trans (by decide) h
theorem Up {Q:Value->Shared->Prop} (hu:A.units+1 < cLine) (I:qw X pins σ H s) (g:jK H a y (some v)) (ry:qO y u) (h:∀w' s',qw X pins σ H s'->qO v w'->Q w' s'):
   wpAny (model X.prog X.w) A (getItem (.ref a) u) Q E s:=by
 rcases g with ⟨kvs,k,e,ey,l⟩ | ⟨kvs,k,b,e,ey,eb,l⟩
 . subst ey
   obtain⟨z,hd,vs,rel,dd⟩:=XG I.hok e
   obtain⟨w',hw,rw'⟩:=Q4.some_of (v:=v) (o:=valueAt vs k) (by rw[l];exact rel.val k)
   exact wpAny_getItem_of (zv ry) dd.mapOf hw (h w' _ (I.tok _) rw')
 . subst ey
   cases (show u=Value.ref b from ry)
   obtain⟨z,hd,xs,rel,dd⟩:=Q2 I.hok e
   obtain⟨w',hw,rw'⟩:=Q4.some_of (v:=v) (o:=(atKey xs k).map (·.2)) (by rw[l];exact rel.val k)
   obtain⟨p,hp,hp2⟩:=Option.map_eq_some_iff.mp hw
   refine wpAny_getItem_heap (tupleKind_room_in1 hu) (zt I.hok eb) dd hp ?_
   rw[hp2]
   exact h w' _ (I.tok _) rw'
theorem Gx {Q:Value->Shared->Prop} (hu:A.units+1 < cLine) (I:qw X pins σ H s) (g:jK H a y o) (ry:qO y u) (h:∀s',qw X pins σ H s'->Q (.bool o.isSome) s'):
   wpAny (model X.prog X.w) A (compareOp .In u (.ref a)) Q E s:=by
 rcases g with ⟨kvs,k,e,ey,l⟩ | ⟨kvs,k,b,e,ey,eb,l⟩
 . subst ey
   obtain⟨z,hd,vs,rel,dd⟩:=XG I.hok e
   refine wpAny_in_of (zv ry) hd dd.mapOf ?_
   rw[<-(rel.val k).isSome_eq,<-l]
   exact h _ (I.tok _)
 . subst ey
   cases (show u=Value.ref b from ry)
   obtain⟨z,hd,xs,rel,dd⟩:=Q2 I.hok e
   refine wpAny_in_heap (tupleKind_room_in1 hu) (zt I.hok eb) hd dd ?_
   have q:=(rel.val k).isSome_eq
   rw[Option.isSome_map]at q
   rw[<-q,<-l]
   exact h _ (I.tok _)
theorem yY {Q:Value->Shared->Prop} (hu:A.units+1 < cLine) (I:qw X pins σ H s) (g:jK H a y o) (ry:qO y u) (h:∀s',qw X pins σ H s'->Q (.bool (!o.isSome)) s'):
   wpAny (model X.prog X.w) A (compareOp .NotIn u (.ref a)) Q E s:=by
 rcases g with ⟨kvs,k,e,ey,l⟩ | ⟨kvs,k,b,e,ey,eb,l⟩
 . subst ey
   obtain⟨z,hd,vs,rel,dd⟩:=XG I.hok e
   refine wpAny_notIn_of (zv ry) hd dd.mapOf ?_
   rw[<-(rel.val k).isSome_eq,<-l]
   exact h _ (I.tok _)
 . subst ey
   cases (show u=Value.ref b from ry)
   obtain⟨z,hd,xs,rel,dd⟩:=Q2 I.hok e
   refine wpAny_notIn_heap (tupleKind_room_in1 hu) (zt I.hok eb) hd dd ?_
   have q:=(rel.val k).isSome_eq
   rw[Option.isSome_map]at q
   rw[<-q,<-l]
   exact h _ (I.tok _)
theorem ZU {h':Heap} {t':Nat} {ob:HO} (I:qw X pins σ H s) (mu:wV (H a)) (hs:Heap.SameBut a s.heap h') (he:∃q,h'.get? a=some q) (new:qC X.prog X.w (upd H a ob) h' a ob):
   qw X pins σ (upd H a ob) {s with heap:=h',toks:=t'}:=
 I.write (x:=a) (e:=a) mu (.inl rfl) (λb q hb z=>(hs.2 b hb).trans z) he new
theorem WE {P:Program} {w:World} {H':Hp} {h':Heap} {kvs:List (qN×V)} {vs:List (qN×Value)} (z:kvs.length<=sizeLine) (hd:(a==sysModules)=false) (rel:KV kvs vs) (dd:h'.DictOf (qY P w) a vs):
   qC P w H' h' a (.dK kvs):=⟨z,hd,vs,rel,dd⟩
theorem Uo {H':Hp} {Q:Unit->Shared->Prop} (hu:A.units+1 < cLine) (I:qw X pins σ H s) (g:Jp H a y v H') (ry:qO y u) (rv:qO v r) (h:∀s',qw X pins σ H' s'->Q () s'):
   wpAny (model X.prog X.w) A (setItem (.ref a) u r) Q E s:=by
 rcases g with ⟨kvs,k,e,ey,l,eH⟩ | ⟨kvs,k,b,e,ey,eb,l,eH⟩
 . subst ey eH
   obtain⟨z,hd,vs,rel,dd⟩:=xA I.hok e
   have hz:vs.length<=sizeLine:=by rw[<-rel.length];exact z
   have hl:(jL kvs k v).length<=sizeLine:=by have:=Q9 kvs k v;omega
   refine wpAny_setItem_pairs (hsz:=hz) (zv ry) dd λh' dd' hs=>h _ ?_
   have he:∃q,h'.get? a=some q:=let ⟨q,_,_,hq,_⟩:=dd';⟨q,hq⟩
   exact ZU I (by rw[e];exact True.intro) hs he (WE hl hd (rel.put k rv) dd')
 . subst ey eH
   cases (show u=Value.ref b from ry)
   obtain⟨z,hd,xs,rel,dd⟩:=xz I.hok e
   have hz:xs.length<=sizeLine:=by rw[<-Paired.length rel];exact z
   have hl:(jL kvs k v).length<=sizeLine:=by have:=Q9 kvs k v;omega
   refine wpAny_setItem_heap (hsz:=hz) (tupleKind_room_in1 hu) (zt I.hok eb) dd λh' dd' hs=>h _ ?_
   obtain⟨q,es,ep,hq,h2,h3,h4,_,h5⟩:=dd'
   refine ZU I (by rw[e];exact True.intro) hs ⟨q,hq⟩ ⟨hl,hd,_,(rel.put k eb rv).keeps λc ys ec=>?_,q,es,ep,hq,h2,h3,h4,h5⟩
   rw[qf (Kd ec e (λz=>nomatch z))]
   exact ec
end
section
variable {X:Cx} {pins:List (Addr×Obj)} {σ:St} {H:Hp} {s:Shared} {a:Addr} {kvs:List (qN×V)} {k:qN} {u:Value} {A:Around} {E:Value->Shared->Prop}
end
def KB (i:Expr):Prop:=∀ov iv,subscripted i false ov iv=operate [ov,iv] (getItem ov iv)
theorem kY {prog:Program} {w:World} {A:Around} {E:Value->Shared->Prop} {s:Shared} {env:Env} {value slice:Expr} {pos:Pos} {T id:String} {Q:Value->Shared->Prop}
   (hl:typeLookup (.type T) "__getitem__"=pure (some (.builtin id))) (hs:KB slice)
   (h:wpAny (model prog w) A (eval value env) (λo s₁=>wpAny (model prog w) A (eval slice env) (λi s₂=>s₂.TypeIs o T/\wpAny (model prog w) A (getItem o i) Q E s₂) E s₁) E s):
   wpAny (model prog w) A (eval (.Subscript value slice pos) env) Q E s:=by
 refine Subscript_ (wpAny_mono h (λo s₁ h₁=>wpAny_mono h₁ (λi s₂ h₂=>?_) λ_ _ x=>x) λ_ _ x=>x)
 obtain⟨hT,h₂⟩:=h₂
 unfold subscriptTail
 refine wpAny_bind ?_
 rw[getitemInPython_of_ne hT.not_modules]
 refine wpAny_bind (wpAny_specialOf hT hl ?_)
 have fin:wpAny (model prog w) A (subscripted slice false o i) (λr s₃=>wpAny (model prog w) A (letTemporaryGo value o r >>= λ_=>pure r) Q E s₃) E s₂:=by
   rw[hs o i]
   exact wpAny_operating (wpAny_mono h₂ (λr s₃ h₃=>wpAny_bind (wpAny_letTemporaryGo (wpAny_pure h₃))) λ_ _ x=>x)
 first
   | exact wpAny_pure (wpAny_bind fin)
   | exact wpAny_bind (wpAny_pure (wpAny_bind fin))
   | exact wpAny_bind fin
theorem XI {X:Cx} {pins:List (Addr×Obj)} {σ:St} {H:Hp} {s:Shared} {a:Addr} {y:V} {o:Option V} (I:qw X pins σ H s) (g:jK H a y o):s.TypeIs (.ref a) "dict":=by
 rcases g with ⟨kvs,k,e,_,_⟩ | ⟨kvs,k,b,e,_,_,_⟩
 . obtain⟨_,_,vs,_,dd⟩:=XG I.hok e
   exact dd.typeIs
 . obtain⟨_,_,xs,_,dd⟩:=Q2 I.hok e
   exact dd.typeIs
def z0 (td ty:TE):TE:=λσ H Q=>td σ H λx H1=>ty σ H1 λy H2=>∃a v,x=.ref a/\jK H2 a y (some v)/\Q v H2
def uw (ty td:TE):TE:=λσ H Q=>ty σ H λy H1=>td σ H1 λx H2=>∃a o,x=.ref a/\jK H2 a y o/\Q (.bl o.isSome) H2
def kS (ty td:TE):TE:=λσ H Q=>ty σ H λy H1=>td σ H1 λx H2=>∃a o,x=.ref a/\jK H2 a y o/\Q (.bl (!o.isSome)) H2
def U0 (td ty tv:TE):TS:=λD σ H=>tv σ H λv H1=>td σ H1 λx H2=>ty σ H2 λy H3=>∃a H4,x=.ref a/\Jp H3 a y v H4/\D.nx σ H4
section
variable {X:Cx} {o i e value:Expr} {pos pos' tpos:Pos} {td ty tv:TE}
theorem jF (hu:X.A.units+1 < cLine) (ho:JE X o td) (hi:JE X i ty) (hs:KB i):JE X (.Subscript o i pos) (z0 td ty):=.of (by
 have ho:=ho.to
 have hi:=hi.to
 intro pins s σ H Q I h
 refine kY PySem.F.slot_dict_getitem.lookup hs (jk (ho pins s σ H _ I h) λu s1 ⟨x,H1,I1,rx,q1⟩=>jk (hi pins s1 σ H1 _ I1 q1) λiv s2 ⟨y,H2,I2,ry,a,v,ex,g,q2⟩=>?_)
 subst ex
 obtain rfl:u=Value.ref a:=rx
 exact⟨XI I2 g,Up hu I2 g ry λw' s3 I3 rw'=>⟨v,H2,I3,rw',q2⟩⟩)
theorem Ww (hu:X.A.units+1 < cLine) (hi:JE X i ty) (ho:JE X o td):JC X .In i o (uw ty td):=.of (by
 have hi:=hi.to
 have ho:=ho.to
 intro pins s σ H Q I h
 refine jk (hi pins s σ H _ I h) λiv s1 ⟨y,H1,I1,ry,q1⟩=>jk (ho pins s1 σ H1 _ I1 q1) λu s2 ⟨x,H2,I2,rx,a,ov,ex,g,q2⟩=>?_
 subst ex
 obtain rfl:u=Value.ref a:=rx
 exact Gx hu I2 g ry λs3 I3=>⟨.bl ov.isSome,H2,I3,rfl,q2⟩)
theorem Ua (hu:X.A.units+1 < cLine) (hi:JE X i ty) (ho:JE X o td):JC X .NotIn i o (kS ty td):=.of (by
 have hi:=hi.to
 have ho:=ho.to
 intro pins s σ H Q I h
 refine jk (hi pins s σ H _ I h) λiv s1 ⟨y,H1,I1,ry,q1⟩=>jk (ho pins s1 σ H1 _ I1 q1) λu s2 ⟨x,H2,I2,rx,a,ov,ex,g,q2⟩=>?_
 subst ex
 obtain rfl:u=Value.ref a:=rx
 exact yY hu I2 g ry λs3 I3=>⟨.bl (!ov.isSome),H2,I3,rfl,q2⟩)
theorem jV (hu:X.A.units+1 < cLine) (ho:JE X o td) (hi:JE X i ty) (hv:JE X value tv) (hs:swapsWith value (some (.Subscript o i pos')) pos.line X.env=pure false):JS X (.Assign [.Subscript o i pos'] value pos) (U0 td ty tv):=.of (by
 have ho:=ho.to
 have hi:=hi.to
 have hv:=hv.to
 intro pins s σ H D I h
 refine wpAny_Assign_Subscript (jk (hv pins s σ H _ I h) λr s1 ⟨v,H1,I1,rv,q1⟩=>jk (ho pins s1 σ H1 _ I1 q1) λu s2 ⟨x,H2,I2,rx,q2⟩=>jk (hi pins s2 σ H2 _ I2 q2) λiv s3 ⟨y,H3,I3,ry,a,H4,ex,g,q3⟩=>?_) hs
 subst ex
 obtain rfl:u=Value.ref a:=rx
 exact Uo hu I3 g ry rv λs4 I4=>⟨σ,H4,I4,q3⟩)
end
theorem XH {P:Program} {w:World} {H:Hp} (h:Heap) (hb:sysModules < h.objs.size):qC P w H (h.push {cls:=.type "dict",data:=.dict #[]}) h.objs.size (.dK []):=
 ⟨Nat.zero_le _,beq_eq_false_iff_ne.mpr (Ne.symm (Nat.ne_of_lt hb)),[],.nil,Heap.DictOf.new h⟩
theorem km {P:Program} {w:World} {H:Hp} (h:Heap) (hb:sysModules < h.objs.size):qC P w H (h.push {cls:=.type "dict",data:=.dict #[]}) h.objs.size (.dT []):=
 ⟨Nat.zero_le _,beq_eq_false_iff_ne.mpr (Ne.symm (Nat.ne_of_lt hb)),[],.nil,_,#[],0,Heap.get?_push_size _ rfl,⟨rfl,rfl,rfl⟩,rfl,rfl,List.nodup_nil⟩
def UG:TE:=λ_ H Q=>∀p,H p=none->Q (.ref p) (upd H p (.dK []))
def UF:TE:=λ_ H Q=>∀p,H p=none->Q (.ref p) (upd H p (.dT []))
section
variable {X:Cx} {pos:Pos}
theorem vh:PE X (.Dict [] [] pos) UG:=λpins s σ H Q I h=>
 wpAny_Dict_empty ⟨.ref s.heap.objs.size,_,I.laid (a:=s.heap.objs.size) (o:=.dK []) (t':=s.toks) (λ_ _ q=>Heap.get?_push_of_some _ q) (Nat.le_refl _) (XH s.heap I.big),rfl,h _ (I.hok.fresh (Nat.le_refl _))⟩
theorem zz:JE X (.Dict [] [] pos) UG:=.of (vh)
theorem vg:PE X (.Dict [] [] pos) UF:=λpins s σ H Q I h=>
 wpAny_Dict_empty ⟨.ref s.heap.objs.size,_,I.laid (a:=s.heap.objs.size) (o:=.dT []) (t':=s.toks) (λ_ _ q=>Heap.get?_push_of_some _ q) (Nat.le_refl _) (km s.heap I.big),rfl,h _ (I.hok.fresh (Nat.le_refl _))⟩
theorem zy:JE X (.Dict [] [] pos) UF:=.of (vg)
end
def X7:List (TE×TE)->St->Hp->(List (V×V)->Hp->Prop)->Prop
 | [],_,H,Q=>Q [] H
 | (tk,tv)::r,σ,H,Q=>tk σ H λx H1=>tv σ H1 λy H2=>X7 r σ H2 λps H3=>Q ((x,y)::ps) H3
abbrev VV:List (V×V)->List (Value×Value)->Prop:=Paired λp q=>qO p.1 q.1/\qO p.2 q.2
def KA (X:Cx) (pos:Pos) (keys:List (Option Expr)) (values:List Expr) (trs:List (TE×TE)):Prop:=
 ∀(pins:List (Addr×Obj)) (s:Shared) (σ:St) (H:Hp) (Q:List (V×V)->Hp->Prop),qw X pins σ H s->X7 trs σ H Q->
   wpAny (model X.prog X.w) X.A (evalPairs (pairTrees keys values X.env pos)) (λvs s'=>∃ps H',qw X pins σ H' s'/\VV ps vs/\Q ps H') X.xe s
@[irreducible] def kJ (X:Cx) (pos:Pos) (keys:List (Option Expr)) (values:List Expr) (trs:List (TE×TE)):Prop:=KA X pos keys values trs
theorem kJ.of {X:Cx} {pos:Pos} {keys:List (Option Expr)} {values:List Expr} {trs:List (TE×TE)} (h:KA X pos keys values trs):kJ X pos keys values trs:=by unfold kJ;exact h
theorem kJ.to {X:Cx} {pos:Pos} {keys:List (Option Expr)} {values:List Expr} {trs:List (TE×TE)} (h:kJ X pos keys values trs):KA X pos keys values trs:=by unfold kJ at h;exact h
theorem yM {X:Cx} {pos:Pos}:kJ X pos [] [] []:=.of (by
 exact λpins s σ H Q I h=>pairTrees_nil_walk ⟨[],H,I,.nil,h⟩)
theorem vb {X:Cx} {pos:Pos} {k v:Expr} {ks:List (Option Expr)} {vs:List Expr} {tk tv:TE} {trs:List (TE×TE)} (hk:PE X k tk) (hv:PE X v tv) (hr:KA X pos ks vs trs):
   KA X pos (some k::ks) (v::vs) ((tk,tv)::trs):=λpins s σ H Q I h=>
 pairTrees_cons_walk (jk (hk pins s σ H _ I h) λu s1 ⟨x,H1,I1,rx,q1⟩=>jk (hv pins s1 σ H1 _ I1 q1) λw2 s2 ⟨y,H2,I2,ry,q2⟩=>
   jk (hr pins s2 σ H2 _ I2 q2) λws s3 ⟨ps,H3,I3,rel,q3⟩=>⟨(x,y)::ps,H3,I3,.cons ⟨rx,ry⟩ rel,q3⟩)
theorem zw {X:Cx} {pos:Pos} {k v:Expr} {ks:List (Option Expr)} {vs:List Expr} {tk tv:TE} {trs:List (TE×TE)} (hk:JE X k tk) (hv:JE X v tv) (hr:kJ X pos ks vs trs):kJ X pos (some k::ks) (v::vs) ((tk,tv)::trs):=.of (vb hk.to hv.to hr.to)
def Qg (kvs more:List (qN×V)):List (qN×V):=more.foldl (λacc kv=>jL acc kv.1 kv.2) kvs
theorem KV.merge:∀{more:List (qN×V)} {rs:List (qN×Value)} {kvs:List (qN×V)} {vs:List (qN×Value)},KV more rs->KV kvs vs->KV (Qg kvs more) (merged vs rs):=by
 intro more rs kvs vs r
 unfold KV at r
 induction r generalizing kvs vs with
 | nil=>intro q;exact q
 | @cons p q ps qs h t ih=>
   intro r0
   have e:KV (jL kvs p.1 p.2) (stored vs q.1 q.2):=by
     have:=r0.put p.1 h.2
     rw[<-h.1];exact this
   exact ih e
theorem QB:∀(more kvs:List (qN×V)),(Qg kvs more).length<=kvs.length+more.length
 | [],kvs=>by show kvs.length<=kvs.length+0;omega
 | p::r,kvs=>by
   have h1:=QB r (jL kvs p.1 p.2)
   have h2:=Q9 kvs p.1 p.2
   show (Qg (jL kvs p.1 p.2) r).length<=_
   rw[List.length_cons];omega
theorem zG {P:Program} {w:World}:∀{kvs:List (qN×V)} {ws:List (Value×Value)},VV (kvs.map λkv=>(kV kv.1,kv.2)) ws->∃rs,Carries (qY P w) ws rs/\KV kvs rs
 | [],_,r=>by rw[List.map_nil]at r;cases r;exact⟨[],True.intro,.nil⟩
 | p::kvs,_,r=>by
   rw[List.map_cons]at r
   cases r with
   | @cons a b as bs h t=>
     obtain⟨rs,c,q⟩:=zG (P:=P) (w:=w) t
     obtain⟨b1,b2⟩:=b
     exact⟨(p.1,b2)::rs,⟨zv h.1,rfl,c⟩,.cons ⟨rfl,h.2⟩ q⟩
def uv (trs:List (TE×TE)):TE:=λσ H Q=>∀p,H p=none->X7 trs σ (upd H p (.dK [])) λps H2=>H2 p=some (.dK [])/\∃kvs:List (qN×V),ps=kvs.map (λkv=>(kV kv.1,kv.2))/\kvs.length<=15/\Q (.ref p) (upd H2 p (.dK (Qg [] kvs)))
theorem yP {X:Cx} {pos:Pos} {keys:List (Option Expr)} {values:List Expr} {trs:List (TE×TE)} (h:kJ X pos keys values trs) (hall:keys.all (·.isSome)=true) (hl:keys.length=values.length) (h0:keys≠[]) (h15:keys.length<=15):JE X (.Dict keys values pos) (uv trs):=.of (by
 have h:=h.to
 intro pins s σ H Q I q
 have hn:=I.hok.fresh (Nat.le_refl s.heap.objs.size)
 have I1:=I.laid (a:=s.heap.objs.size) (o:=.dK []) (h':=s.heap.push {cls:=.type "dict",data:=.dict #[]}) (t':=s.toks) (λ_ _ q=>Heap.get?_push_of_some _ q) (Nat.le_refl _) (XH s.heap I.big)
 refine wpAny_Dict_walk (knd:=qY X.prog X.w) hall hl h0 h15 (jk (h pins _ σ _ _ I1 (q _ hn)) λws s2 ⟨ps,H2,I2,rel,e,kvs,ep,lk,q2⟩=>?_)
 subst ep
 obtain⟨rs,c,rk⟩:=zG (P:=X.prog) (w:=X.w) rel
 obtain⟨z,hd,vs0,r0,dd⟩:=xA I2.hok e
 cases r0
 refine⟨rs,c,dd,λh' dd' hs=>⟨.ref s.heap.objs.size,_,?_,rfl,q2⟩⟩
 have hz:(Qg [] kvs).length<=sizeLine:=by
   have h1:=QB kvs []
   rw[List.length_nil]at h1
   rw[sizeLine_eq];omega
 have he:∃q,h'.get? s.heap.objs.size=some q:=let ⟨q,_,_,hq,_⟩:=dd';⟨q,hq⟩
 exact ZU I2 (by rw[e];exact True.intro) hs he (WE hz hd (rk.merge .nil) dd'))
structure M1 (X:Cx) (o:Expr) (m:Str) (apos:Pos) (e:Expr) (cpos:Pos):Prop where
 base:attributeBase o m X.env (eval o X.env)=eval o X.env
 few:((backTo cpos (starEach [e] X.env)).all (λx=> !x.1)&&(backToKw cpos (keywordEach [] X.env)).all (λx=>x.1.isSome)
   &&decide (([e]:List Expr).length+([]:List Keyword).length+(if ([]:List Keyword).isEmpty then 0 else 1) < 30))=true
 line:(apos.endLine==cpos.line)=true
 trees:backTo cpos (starEach [e] X.env)=[(false,eval e X.env)]
structure M2 (X:Cx) (o:Expr) (m:Str) (apos:Pos) (e f:Expr) (cpos:Pos):Prop where
 base:attributeBase o m X.env (eval o X.env)=eval o X.env
 few:((backTo cpos (starEach [e,f] X.env)).all (λx=> !x.1)&&(backToKw cpos (keywordEach [] X.env)).all (λx=>x.1.isSome)
   &&decide (([e,f]:List Expr).length+([]:List Keyword).length+(if ([]:List Keyword).isEmpty then 0 else 1) < 30))=true
 line:(apos.endLine==cpos.line)=true
 trees:backTo cpos (starEach [e,f] X.env)=[(false,eval e X.env),(false,eval f X.env)]
section
variable {X:Cx} {pins:List (Addr×Obj)} {σ:St} {H:Hp} {s:Shared} {a:Addr} {y d:V} {u r:Value} {o:Option V} {A:Around} {E:Value->Shared->Prop}
end
section
variable {X:Cx} {o e f:Expr} {apos cpos:Pos} {td ty tx:TE}
end
section
variable {X:Cx} {pins:List (Addr×Obj)} {σ:St} {H:Hp} {s:Shared} {a:Addr} {kvs:List (qN×V)} {A:Around} {E:Value->Shared->Prop}
end
section
variable {X:Cx} {pins:List (Addr×Obj)} {σ:St} {H:Hp} {s:Shared} {a:Addr} {y:V} {u:Value} {A:Around} {E:Value->Shared->Prop}
end
end L2
namespace Att
open PySem PySem.W PySem.Calls PyProof.Rows
theorem ZB {P:Params} {h:Heap}:∀(ns:List Int) (vs:List Value),WellAll P h vs (ns.map WData.int)->IntsAre vs ns:=by
 intro ns
 induction ns with
 | nil=>
   intro vs w
   rw[List.map_nil]at w
   cases w
   exact .nil
 | cons n ns ih=>
   intro vs w
   rw[List.map_cons]at w
   cases w with
   | cons a b=>
     cases a
     exact .cons _ _ (ih _ b)
theorem VL {l:OpenLaw} {n:Nat} (hn:l.most=some n) {P:Params} {h:Heap} {args:List WData} {vals:List Value}
   (hpre:l.row.toRowW.claim.pre args=true) (hwl:WellAll P h vals args):
   ∃a vs ns,vals=[Value.ref a]/\args=[WData.list (ns.map WData.int)]/\h.get? a=some {cls:=.type "list",data:=.seq vs.toArray}/\IntsAre vs ns/\ns.length<=n:=by
 have hsh:WShape.hasAll [] args [.list .int]=true:=(pre_splitW hpre).1
 have hc:l.pre.holds [] {args:=args}=true:=(pre_splitW hpre).2
 obtain⟨d,r,rfl,h1,h2⟩:=hasAllW_cons hsh
 obtain rfl:=hasAllW_nil h2
 obtain⟨xs,rfl,h3⟩:=hasW_list h1
 obtain⟨ns,rfl⟩:=items_int h3
 have hlen:ns.length<=n:=by
   unfold OpenLaw.pre at hc
   have h4:(WTm.not (.lt (.lit (.int (n:Int))) (.len (.arg 0)))).holds [] {args:=[.list (ns.map .int)]}=true:=by
     have h4:=(holds_andW hc).1
     rw[hn]at h4
     exact h4
   have h5:=condW_of h4 (w_not (w_lt w_lit (w_len_list (w_arg rfl))))
   rw[List.length_map]at h5
   refine Nat.le_of_not_lt λq=>?_
   have q':(n:Int) < ((ns.length:Nat):Int):=by omega
   first
     | (rw[decide_eq_true q']at h5;exact absurd h5 (by decide))
     | (simp at h5;omega)
 cases hwl with
 | cons w1 w2=>
   cases w2
   cases w1 with
   | list ho hall=>exact⟨_,_,ns,rfl,rfl,ho,ZB ns _ hall,hlen⟩
theorem VW (l:OpenLaw) (args:List WData):l.row.toRowW.claim.post args (.bool true) args=true:=
 postW_of (r:=l.row.toRowW) (X:=(true==true))
   (show WShape.has [] (.bool true) .bool=true by first | rfl | decide | simp [WShape.has,WShape.arms,WShape.armsAll])
   (show (WTm.eq .res (.lit (.bool true))).value [] {args:=args,res:=some (.bool true),after:=args}=some (.bool (true==true)) from w_eq_bool (w_res rfl) w_lit) rfl
theorem attach_call {l:OpenLaw} {n:Nat} {q:Program} {loose:List Str} {XP:(Str->Option Value)->Heap->Prop} {YP:World->Heap->Prop} {d:DefRec}
   (hn:l.most=some n) (hdf:d.params.defaults=[])
   (call:∀(w:World) (s₀ s₁:Shared) (mg mb:Str->Option Value) (fa:Addr) (o:Obj) (pm cd doc:Value) (a:Addr) (vs:List Value) (ns:List Int),
     Ground q loose [] XP w s₀ mg mb s₁.heap->YP w s₁.heap->
     s₁.heap.get? fa=some o->o.data=.func (docDef d.name d.params d.body d.scope pm cd doc)->s₁.heap.CodeRec cd d.name->mg d.name=some (.ref fa)->
     s₁.heap.get? a=some {cls:=.type "list",data:=.seq vs.toArray}->IntsAre vs ns->ns.length<=n->s₁.gens=#[]->
     codeAny (model l.prog w) callerA (.call (.ref fa) ⟨[.ref a],[]⟩) (λr s'=>r=.ok (.ret (.bool true))/\OldK s₁.heap s'.heap/\s'.os=s₁.os/\AllBare s'.gens) s₁):
   WalkO q loose XP YP l.row.toRowW d [] (λf vs=>PySem.call f vs):=by
 intro w s₀ s₁ mg mb G Y fa o pm cd doc dV kV ho hd hcd hD hmg hg args vals as hpre hlay hrd hwl hlo
 obtain rfl:dV=.none:=Dflts.none hD hdf
 obtain rfl:kV=.none:=Dflts.noKw hD
 obtain⟨a,vs,ns,rfl,rfl,hobj,hints,hlen⟩:=VL hn hpre hwl
 refine enter_call (codeAny_mono (call w s₀ s₁ mg mb fa o pm cd doc a vs ns G Y ho (fd_plain hd) hcd hmg hobj hints hlen hg) λr s' hq=>?_)
 obtain⟨rfl,h2,h3,h4⟩:=hq
 exact⟨.inl ⟨.bool true,.bool true,[],rfl,λ_=>rfl,.bool true,VW l _,λ_=>⟨List.Pairwise.nil,λ_ hm=>(nomatch hm)⟩⟩,h2,h3,h4⟩
section
variable {prog:Program} {w:World} {A:Around} {E:Value->Shared->Prop} {s:Shared} {K:Frag}
end
end Att
namespace L2
open PySem PySem.Spec PyProof.Rows
theorem zX:∀{vs:List Value} {ns:List Int},IntsAre vs ns->qD (ns.map V.int) vs
 | _,_,.nil=>.nil
 | _,_,.cons n t h=>.cons ⟨t,rfl⟩ (zX h)
def wU (H:Hp):Prop:=∀b,H b=none\/∃o xs,H b=some (.frz o (.lst xs))
theorem vJ {P:Program} {w:World} {K:PySem.W.Frag} {mg mb:Str->Option Value} {CX:Yv} {k:Nat} {fa a:Addr} {fd:FuncData} {x:Str} {sp:Sp} {s₁:Shared} {vs:List Value} {ns:List Int}
   (KX:K.In s₁.heap) (hns:s₁.heap.Ns mainGlobals mg) (hb:s₁.heap.Ns builtinsNs mb) (hbb:∀x:Str,x≠"__name__"->mb x=bootBuiltins x) (hlim:s₁.heap.NoLimit) (hg:s₁.gens=#[])
   (ha:s₁.heap.get? a=some {cls:=.type "list",data:=.seq vs.toArray}) (hi:IntsAre vs ns) (hl:ns.length<=sizeLine) (hr:qW k callerA)
   (F:∀base:Heap,K.In base->base.Ns mainGlobals mg->qu P w K mg base CX k fa fd [x] sp) (hbind:∀(s:Shared) (u:Value),BindsTo s fd ⟨[u],[]⟩ [(x,u)])
   (hsp:∀H:Hp,wU H->SqL K H a (ns.map V.int)->sp [.ref a] H (λv _=>v=.bl true) λ_ _ _=>False)
   (hCX:∀H e s',CX [] H s₁ (λ_ _ _=>False) e s'->False):
   codeAny (model P w) callerA (.call (.ref fa) ⟨[.ref a],[]⟩) (λr s'=>r=.ok (.ret (.bool true))/\OldK s₁.heap s'.heap/\s'.os=s₁.os/\AllBare s'.gens) s₁:=by
 have rv:=zX hi
 have lenV:=hi.length
 have core:∀H:Hp,wU H->SqL K H a (ns.map V.int)->QZ P w H s₁.heap->(∀b,H b≠none->b=a)->(H a≠none->K.lookup a=none)->
     codeAny (model P w) callerA (.call (.ref fa) ⟨[.ref a],[]⟩) (λr s'=>r=.ok (.ret (.bool true))/\OldK s₁.heap s'.heap/\s'.os=s₁.os/\AllBare s'.gens) s₁:=by
   intro H hO hS hok hA hK
   have base_of:∀{b:Addr} {o:Obj},s₁.heap.get? b=some o->H b=none->(YU s₁.heap H).get? b=some o:=λe n=>ke e n
   have noA:∀{b:Addr} {o:Obj} {es:Array DictEntry} {ep:Nat},s₁.heap.get? b=some o->o.data=.dict es ep->H b=none:=λ{b o es ep} e d=>by
     cases q:H b with
     | none=>rfl
     | some u=>
       have e':b=a:=hA b (by rw[q];simp)
       subst e'
       rw[ha]at e;cases e
       have d':Data.seq vs.toArray _=Data.dict es ep:=d
       cases d'
   have nsK:∀{b:Addr} {m:Str->Option Value},s₁.heap.Ns b m->(YU s₁.heap H).Ns b m:=λ{b m} ⟨o,es,ep,e,d,r⟩=>⟨o,es,ep,base_of e (noA e d),d,r⟩
   have hKb:K.In (YU s₁.heap H):=λb o e=>base_of (KX b o e) (by
     cases q:H b with
     | none=>rfl
     | some u=>
       have e':b=a:=hA b (by rw[q];simp)
       subst e'
       rw[hK (by rw[q];simp)]at e;cases e)
   have hM:Mod K mg (YU s₁.heap H):=⟨hKb,nsK hns,⟨mb,nsK hb,hbb⟩,let ⟨mc,h1,h2⟩:=hlim;⟨mc,nsK h1,h2⟩⟩
   have e0:Y8 P w K mg (YU s₁.heap H) callerA [] s₁ H:=⟨rfl,hM,λb o e=>yz e,Nat.le_of_eq (Ug _ _),trivial,λb hb=>absurd (show b∈([]:List Addr) from hb) (by simp),hok,.of_eq hg⟩
   refine codeAny_mono ((F _ hKb (nsK hns)).run callerA [] s₁ H ⟨[.ref a],[]⟩ [.ref a] [.ref a] _ _ hr e0 (hbind s₁ (.ref a)) (.cons rfl .nil) (hsp H hO hS)) λr s' h=>?_
   cases r with
   | error e=>exact(hCX H e s' h).elim
   | ok fl=>
     cases fl with
     | next=>exact False.elim h
     | brk=>exact False.elim h
     | cont=>exact False.elim h
     | ret u=>
       obtain⟨v,H',os,bare,un,hok',r',q⟩:=h
       have q':v=.bl true:=q
       subst q'
       obtain rfl:u=Value.bool true:=r'
       refine⟨rfl,OldK.of_keep λb o e=>?_,os,bare⟩
       cases q:H b with
       | none=>exact un.keep b o e q (by intro z;exact absurd (show b∈([]:List Addr) from z) (by simp)) (by simp)
       | some u=>
         rcases hO b with z | ⟨ob,xs,z⟩
         . rw[q]at z;cases z
         . have z2:=un.frzs b ob _ z
           obtain⟨e1,_⟩:=hok b _ z
           obtain⟨e2,_⟩:=hok' b _ z2
           rw[e]at e1;cases e1
           exact e2
 cases hk:K.lookup a with
 | some o=>
   have e:=KX a o hk
   rw[ha]at e
   cases e
   refine core (λ_=>none) (λ_=>.inl rfl) (.inr ⟨_,vs.toArray,_,hk,rfl,rfl,rfl,by rw[List.size_toArray,lenV];exact hl,by simpa using rv⟩) (λb u z=>by have z':(none:Option HO)=some u:=z;cases z') (λb z=>absurd rfl z) λz=>absurd rfl z
 | none=>
   refine core (λb=>if b=a then some (.frz {cls:=.type "list",data:=.seq vs.toArray} (.lst (ns.map V.int))) else none) (λb=>?_) (.inl (.inr ⟨{cls:=.type "list",data:=.seq vs.toArray},if_pos rfl⟩)) (λb u z=>?_) (λb z=>?_) λ_=>hk
   . by_cases hb:b=a
     . exact .inr ⟨_,_,if_pos hb⟩
     . exact .inl (if_neg hb)
   . by_cases hb:b=a
     . have z':=(if_pos hb).symm.trans z
       cases z'
       subst hb
       exact⟨ha,by rw[List.length_map];exact hl,vs,_,rv,ha⟩
     . have z':=(if_neg hb).symm.trans z
       cases z'
   . by_cases hb:b=a
     . exact hb
     . exact absurd (if_neg hb) z
end L2
namespace L2
open PySem PySem.Spec PyProof.Rows
theorem walk_of {l:PySem.W.OpenLaw} {n k:Nat} {q:Program} {loose:List Str} {XP:(Str->Option Value)->Heap->Prop} {YP:World->Heap->Prop} {d:DefRec} {K:Params->PySem.W.Frag} {CX:World->Yv} {sp:World->Sp} {x:Str}
   (hn:l.most=some n) (hn2:n<=sizeLine) (hdf:d.params.defaults=[]) (hr:qW k callerA)
   (hY:∀(w:World) (h:Heap),YP w h->(K w.params).In h)
   (F:∀(w:World) (mg:Str->Option Value) (fa:Addr) (h:Heap),(K w.params).In h->h.Ns mainGlobals mg->mg d.name=some (.ref fa)->
     ∃fd:FuncData,(∀(s:Shared) (u:Value),BindsTo s fd ⟨[u],[]⟩ [(x,u)])/\
      ∀base:Heap,(K w.params).In base->base.Ns mainGlobals mg->qu l.prog w (K w.params) mg base (CX w) k fa fd [x] (sp w))
   (hsp:∀(w:World) (H:Hp) (a:Addr) (ns:List Int),ns.length<=n->wU H->SqL (K w.params) H a (ns.map V.int)->sp w [.ref a] H (λv _=>v=.bl true) λ_ _ _=>False)
   (hCX:∀(w:World) (H:Hp) (s:Shared) (e:Value) (s':Shared),CX w [] H s (λ_ _ _=>False) e s'->False):
   PySem.W.WalkO q loose XP YP l.row.toRowW d [] (λf vs=>PySem.call f vs):=by
 refine Att.attach_call hn hdf λw s₀ s₁ mg mb fa o pm cd doc a vs ns G Y ho hd hcd hmg hobj hints hlen hg=>?_
 have KX:=hY w _ Y
 obtain⟨fd,hb,hF⟩:=F w mg fa _ KX G.T.g hmg
 exact vJ KX G.T.g G.T.b G.T.builtins G.T.nolimit hg hobj hints (Nat.le_trans hlen hn2) hr hF hb (λH hO hS=>hsp w H a ns hlen hO hS) λH e s'=>hCX w H s₁ e s'
end L2
namespace L2
open PySem PySem.Spec PyProof.Rows
def Ji (s:Stmt) (j:Nat):Stmt:=match s with
 | .ClassDef _ _ _ body _ _ _ _ _ _ _=>body.getD j (.Pass ⟨0,0,0,0⟩)
 | _=>.Pass ⟨0,0,0,0⟩
def Qz (s:Stmt):Arguments:=match s with
 | .FunctionDef _ a _ _ _ _ _ _ _ _=>a
 | _=>{posonlyargs:=[],args:=[],vararg:=none,kwonlyargs:=[],kw_defaults:=[],kwarg:=none,defaults:=[]}
def jX (s:Stmt):List Stmt:=match s with
 | .FunctionDef _ _ b _ _ _ _ _ _ _=>b
 | _=>[]
def qm (s:Stmt):Scope:=match s with
 | .FunctionDef _ _ _ _ _ _ sc _ _ _=>sc
 | _=>{kind:=.function,names:=[],isGenerator:=false,isCoroutine:=false}
abbrev jh:Yv:=λ_ _ _ _ _ _=>False
abbrev E0:XK:=λ_ _ _=>False
theorem JY {X:Cx}:jP jh X E0:=λ_ _ _ _ _ _ _ h=>h.elim
structure Qe (K:PySem.W.Frag) (x qual:Str) (st:Stmt) (f:Addr) (fd:FuncData):Prop where
 ex:∃(oc:Value) (od:Option Addr) (kV doc pm:Value) (an:Option Addr) (cdv ct:Value) (osl:Array (Option Value)),
   fd=PySem.W.fnOf x qual (Qz st) (jX st) (qm st) .none kV doc pm an cdv ct/\K.lookup f=some ⟨oc,od,.func fd,osl⟩/\PySem.W.codeIn K cdv qual=true
 kp:PySem.W.keepIn K (.ref f)=true
section
variable {P:Program} {w:World} {K:PySem.W.Frag} {mg:Str->Option Value} {base:Heap}
theorem Qe.ok {x qual:Str} {st:Stmt} {f:Addr} {fd:FuncData} {N ps:List Str} {k:Nat} {sp:Sp} (F:Qe K x qual st f fd) (S:qB N ps (qm st)) (len:∀vs H Q E,sp vs H Q E->vs.length=ps.length)
   (hbody:∀(cdv:Value) (A:Around) (outer:List Env) (s:Shared) (H:Hp) (vs:List V) (Q:VK) (E:XK),qW k (A.deeper (envOfC qual (qm st) s.heap.objs.size f cdv))->sp vs H Q E->
     ∃t,kG (jS jh P w K mg base N qual (qm st) f cdv A outer s H E).nox (jX st) t/\t {nx:=λ_ H'=>Q .non H',rt:=Q} (QG N vs) H):qu P w K mg base jh (k+1) f fd ps sp:=by
 obtain⟨oc,od,kV,doc,pm,an,cdv,ct,osl,rfl,lk,hcd⟩:=F.ex
 refine xy lk hcd S len λA outer s H vs Q E hr hsp=>?_
 obtain⟨t,h,q⟩:=hbody cdv A outer s H vs Q E hr hsp
 exact⟨t,h.nox,q⟩
theorem Qe.okJ {x qual:Str} {st:Stmt} {f:Addr} {fd:FuncData} {N ps:List Str} {k:Nat} {sp:Sp} (F:Qe K x qual st f fd) (S:qB N ps (qm st)) (len:∀vs H Q E,sp vs H Q E->vs.length=ps.length)
   (hbody:∀(cdv:Value) (A:Around) (outer:List Env) (s:Shared) (H:Hp) (vs:List V) (Q:VK) (E:XK),qW k (A.deeper (envOfC qual (qm st) s.heap.objs.size f cdv))->sp vs H Q E->
     ∃t,zU (jS jh P w K mg base N qual (qm st) f cdv A outer s H E).nox (jX st) t/\t {nx:=λ_ H'=>Q .non H',rt:=Q} (QG N vs) H):qu P w K mg base jh (k+1) f fd ps sp:=
 F.ok S len λcdv A outer s H vs Q E hr h=>let ⟨t,a,b⟩:=hbody cdv A outer s H vs Q E hr h;⟨t,a.to,b⟩
theorem Qe.binds {x qual:Str} {st:Stmt} {f:Addr} {fd:FuncData} {ps:List Str} (F:Qe K x qual st f fd)
   (h:∀(kV doc pm:Value) (an:Option Addr) (cdv ct:Value) (us:List Value),us.length=ps.length->bindArgs (PySem.W.fnOf x qual (Qz st) (jX st) (qm st) .none kV doc pm an cdv ct) ⟨us,[]⟩=pure (ps.zip us)):jG K fd ps []:=by
 obtain⟨oc,od,kV,doc,pm,an,cdv,ct,osl,rfl,lk,hcd⟩:=F.ex
 exact .all (h kV doc pm an cdv ct)
theorem WA {x qual:Str} {st:Stmt} {f:Addr} {oc:Value} {od an:Option Addr} {osl:Array (Option Value)} {kV doc pm cdv ct:Value} (l:K.lookup f=some ⟨oc,od,.func (PySem.W.fnOf x qual (Qz st) (jX st) (qm st) .none kV doc pm an cdv ct),osl⟩)
   (c:PySem.W.codeIn K cdv qual=true) (k:PySem.W.keepIn K (.ref f)=true):Qe K x qual st f (PySem.W.fnOf x qual (Qz st) (jX st) (qm st) .none kV doc pm an cdv ct):=⟨⟨oc,od,kV,doc,pm,an,cdv,ct,osl,rfl,l,c⟩,k⟩
end
theorem Q1 {A:Around} {k:Nat} (hr:qW k A):A.units+1 < cLine:=Nat.lt_of_le_of_lt (Nat.add_le_add_left (by decide:1<=64) _) hr.units
theorem qo {n:Nat} (h:n<=1000):n < sizeLine:=Nat.lt_of_le_of_lt h (by decide)
section
variable {X:Cx}
theorem pv (i:Nat) {x:Str} {pos:Pos} (hN:X.N[i]?=some x:=by rfl) (hv:ug X.env.scope x:=by first | exact Or.inl rfl | exact Or.inr (Or.inl rfl) | exact Or.inr (Or.inr rfl)) (hd:(x==("__debug__":Str))=false:=by decide)
   (hcd:(x==("__classdict__":Str))=false:=by decide):PE X (.Name x pos) (qL i):=vd hN hv hd hcd
theorem jv (i:Nat) {x:Str} {pos:Pos} (hN:X.N[i]?=some x:=by rfl) (hv:ug X.env.scope x:=by first | exact Or.inl rfl | exact Or.inr (Or.inl rfl) | exact Or.inr (Or.inr rfl)) (hd:(x==("__debug__":Str))=false:=by decide) (hcd:(x==("__classdict__":Str))=false:=by decide):JE X (.Name x pos) (qL i):=.of (pv i hN hv hd hcd)
end
theorem jR {A B:Prop} (h:B):if false=true then A else B:=by
 rw[if_neg Bool.false_ne_true]
 exact h
theorem YS {A B:Prop} (h:A):if true=true then A else B:=by
 rw[if_pos rfl]
 exact h
theorem YT {c A B:Prop} [Decidable c] (h1:c->A) (h2:¬c->B):if c then A else B:=by
 by_cases h:c
 . rw[if_pos h]
   exact h1 h
 . rw[if_neg h]
   exact h2 h
def Same (H H':Hp):Prop:=∀b o,H b=some o->H' b=some o
theorem Same.refl (H:Hp):Same H H:=λ_ _ h=>h
theorem Same.trans {H H1 H2:Hp} (a:Same H H1) (b:Same H1 H2):Same H H2:=λc o h=>b c o (a c o h)
section
variable {X:Cx}
end
section
variable {κ:Type} [DecidableEq κ]
theorem WP {kvs:List (κ×V)} {k:κ} {v:V} (h:jp kvs k=some v):k∈kvs.map (·.1):=by
 have q:(kvs.any λkv=>decide (kv.1=k))=true:=by
   rw[Qp,h]
   all_goals rfl
 obtain⟨p,hp,e⟩:=List.any_eq_true.mp q
 exact List.mem_map.mpr ⟨p,hp,of_decide_eq_true e⟩
end
end L2
set_option Elab.async false
set_option linter.all false
set_option maxRecDepth 100000
set_option maxHeartbeats 4000000
namespace L2
open PySem PySem.Spec PyProof.Rows
theorem Vn:(NameKind.free==NameKind.free)=true:=rfl
def jN (env:Env):List (Str×NameKind)->List (Str×Addr)->List (Str×Addr)
 | [],cs=>cs
 | (n,k)::r,cs=>jN env r (if k==.free then (n,(env.cells.lookup n).getD 0)::cs else cs)
theorem Jt {scope:Scope} {env:Env} (h:∀x∈scope.names,x.2=.free->∃c,env.cells.lookup x.1=some c):closureFor scope env=pure (jN env scope.names []):=by
 simp only[closureFor]
 have key:∀(l:List (Str×NameKind)) (cs:List (Str×Addr)),(∀x∈l,x.2=.free->∃c,env.cells.lookup x.1=some c)->
     (forIn l cs λx (r:List (Str×Addr))=>if (x.snd==NameKind.free)=true then (do let a <-cellOf env x.fst;pure (ForInStep.yield ((x.fst,a)::r)):Sem (ForInStep (List (Str×Addr)))) else pure (ForInStep.yield r))=(pure (jN env l cs):Sem (List (Str×Addr))):=by
   intro l
   induction l with
   | nil=>intro cs _;rfl
   | cons x l ih=>
     intro cs hl
     obtain⟨n,k⟩:=x
     have ihl:=λcs'=>ih cs' λy hy=>hl y (List.mem_cons_of_mem _ hy)
     rw[List.forIn_cons]
     by_cases hk:k=.free
     . subst hk
       obtain⟨c,hc⟩:=hl (n,.free) List.mem_cons_self rfl
       have e1:cellOf env n=pure c:=by
         unfold cellOf
         have hc':env.cells.lookup n=some c:=hc
         rw[hc']
       have e2:jN env ((n,NameKind.free)::l) cs=jN env l ((n,c)::cs):=by
         have hc':env.cells.lookup n=some c:=hc
         show jN env l (if (NameKind.free==NameKind.free)=true then (n,(env.cells.lookup n).getD 0)::cs else cs)=_
         rw[if_pos Vn,hc']
         rfl
       rw[e2,<-ihl]
       dsimp only
       rw[if_pos Vn,e1]
       rfl
     . have hb:(k==NameKind.free)=false:=by simpa using hk
       have e2:jN env ((n,k)::l) cs=jN env l cs:=by
         show jN env l (if (k==NameKind.free)=true then (n,(env.cells.lookup n).getD 0)::cs else cs)=_
         rw[if_neg (by rw[hb];decide)]
       rw[e2,<-ihl]
       dsimp only
       rw[if_neg (by rw[hb];decide)]
       rfl
 rw[key scope.names [] h]
 rfl
theorem Zz {env:Env} {x:Str} {c:Addr}:∀{l:List (Str×NameKind)} {cs:List (Str×Addr)},(jN env l cs).lookup x=some c->cs.lookup x=some c\/((x,NameKind.free)∈l/\c=(env.cells.lookup x).getD 0)
 | [],cs,h=>.inl h
 | (n,k)::r,cs,h=>by
   rcases Zz (l:=r) h with h | ⟨h1,h2⟩
   . by_cases hk:k=.free
     . subst hk
       rw[if_pos Vn,List.lookup_cons]at h
       by_cases hx:x=n
       . subst hx
         simp only[beq_self_eq_true]at h
         exact .inr ⟨List.mem_cons_self,(Option.some.inj h).symm⟩
       . have hb:(x==n)=false:=beq_eq_false_iff_ne.mpr hx
         simp only[hb]at h
         exact .inl h
     . have hb:(k==NameKind.free)=false:=by simpa using hk
       rw[if_neg (by rw[hb];decide)]at h
       exact .inl h
   . exact .inr ⟨List.mem_cons_of_mem _ h1,h2⟩
theorem JF {env:Env} {x:Str}:∀{l:List (Str×NameKind)} {cs:List (Str×Addr)},((x,NameKind.free)∈l\/∃c,cs.lookup x=some c)->∃c,(jN env l cs).lookup x=some c
 | [],cs,h=>by
   rcases h with h | h
   . cases h
   . exact h
 | (n,k)::r,cs,h=>by
   show ∃c,(jN env r (if (k==NameKind.free)=true then (n,(env.cells.lookup n).getD 0)::cs else cs)).lookup x=some c
   refine JF (l:=r) ?_
   rcases h with h | ⟨c,h⟩
   . rcases List.mem_cons.mp h with h | h
     . cases h
       refine .inr ⟨(env.cells.lookup x).getD 0,?_⟩
       rw[if_pos Vn,List.lookup_cons]
       simp only[beq_self_eq_true]
     . exact .inl h
   . refine .inr ?_
     by_cases hk:(k==NameKind.free)=true
     . rw[if_pos hk,List.lookup_cons]
       cases hx:x==n with
       | true=>exact⟨_,rfl⟩
       | false=>exact⟨c,h⟩
     . rw[if_neg hk]
       exact⟨c,h⟩
theorem JV {scope:Scope} {env:Env} {x:Str} {k:NameKind}:∀{names:List (Str×NameKind)},names.lookup x=some k->
   ∃k',(names.map λ(n,k)=>if (k==NameKind.free&&env.scope.kind==.function&&env.kindOf n==some .cell) then (n,NameKind.cell) else (n,k)).lookup x=some k'/\(k'=k\/(k=.free/\k'=.cell))
 | [],h=>by simp at h
 | (n,j)::r,h=>by
   rw[List.map_cons]
   by_cases hx:x=n
   . subst hx
     rw[List.lookup_cons]at h
     simp only[beq_self_eq_true]at h
     cases h
     dsimp only
     by_cases hc:(k==NameKind.free&&env.scope.kind==.function&&env.kindOf x==some .cell)=true
     . rw[if_pos hc,List.lookup_cons]
       simp only[beq_self_eq_true]
       refine⟨_,rfl,.inr ⟨?_,rfl⟩⟩
       simp only[Bool.and_eq_true,beq_iff_eq]at hc
       exact hc.1.1
     . rw[if_neg hc,List.lookup_cons]
       simp only[beq_self_eq_true]
       exact⟨_,rfl,.inl rfl⟩
   . have hb:(x==n)=false:=beq_eq_false_iff_ne.mpr hx
     rw[List.lookup_cons]at h
     simp only[hb]at h
     obtain⟨k',h1,h2⟩:=JV (env:=env) (scope:=scope) h
     refine⟨k',?_,h2⟩
     dsimp only
     by_cases hc:(j==NameKind.free&&env.scope.kind==.function&&env.kindOf n==some .cell)=true
     . rw[if_pos hc,List.lookup_cons]
       simp only[hb]
       exact h1
     . rw[if_neg hc,List.lookup_cons]
       simp only[hb]
       exact h1
theorem mem_of_lookup {x:Str} {k:NameKind}:∀{l:List (Str×NameKind)},l.lookup x=some k->(x,k)∈l
 | [],h=>by simp at h
 | (n,j)::r,h=>by
   rw[List.lookup_cons]at h
   by_cases hx:x=n
   . subst hx
     simp only[beq_self_eq_true]at h
     cases h
     exact List.mem_cons_self
   . have hb:(x==n)=false:=beq_eq_false_iff_ne.mpr hx
     simp only[hb]at h
     exact List.mem_cons_of_mem _ (mem_of_lookup h)
theorem Js {f:Str×NameKind->Str×NameKind} (hf:∀p,(f p).1=p.1) {x:Str} {k:NameKind}:∀{l:List (Str×NameKind)},(l.map f).lookup x=some k->∃j,l.lookup x=some j/\(f (x,j)).2=k
 | [],h=>by simp at h
 | (n,j)::r,h=>by
   rw[List.map_cons]at h
   have e:f (n,j)=(n,(f (n,j)).2):=by
     have:=hf (n,j)
     exact Prod.ext this rfl
   rw[e,List.lookup_cons]at h
   rw[List.lookup_cons]
   by_cases hx:x=n
   . subst hx
     simp only[beq_self_eq_true]at h ⊢
     exact⟨j,rfl,Option.some.inj h⟩
   . have hb:(x==n)=false:=beq_eq_false_iff_ne.mpr hx
     simp only[hb]at h ⊢
     exact Js hf h
def Zy (X:Cx) (N:List Str) (scope:Scope) (C:Addr) (s₂:Shared) (H₂:Hp) (fp:List Addr) (pins:List (Addr×Obj)):Cx where
 prog:=X.prog
 w:=X.w
 K:=X.K
 mg:=X.mg
 base:=X.base
 A:=X.A
 N:=N
 s₀:=s₂
 H₀:=H₂
 env:=compEnvC scope (jN X.env scope.names []) C X.env
 outer:=X.stack
 stack:=X.stack
 ex:=fp
 fn:=λ_=>false
 calm:=X.calm
 pn:=X.pn++pins
 xe:=λ_ _=>False
def xJ (ix:List (Option Nat)) (σ:St):St:=ix.map λo=>o.bind λj=>(σ[j]?).join
def yQ (N' N:List Str) (sc esc:Scope) (ix:List (Option Nat)):Bool:=
 ix.length==N'.length&&(ix.zip N').all λp=>match p.1 with
   | none=>true
   | some j=>N[j]?==some p.2&&sc.names.lookup p.2==some .free&&(esc.names.lookup p.2==some .cell || esc.names.lookup p.2==some .free)
structure j1 (X:Cx) (N':List Str) (ix:List (Option Nat)) (scope:Scope):Prop where
 kind:scope.kind=.function
 nocell:(scope.names.all λx=>x.2 != .cell)=true
 locs:(scope.names.all λx=>x.2 != .local || scope.names.lookup x.1==some .local)=true
 frees:(scope.names.all λx=>x.2 != .free || (X.env.scope.names.lookup x.1==some .cell || X.env.scope.names.lookup x.1==some .free))=true
 ixs:yQ N' X.N scope X.env.scope ix=true
section
variable {X:Cx} {N':List Str} {ix:List (Option Nat)} {scope:Scope} {pins:List (Addr×Obj)} {σ:St} {H:Hp} {s:Shared}
theorem j1.cellH (S:j1 X N' ix scope):∀y∈scope.names,y.2≠.cell:=λy hy e=>by
 have:=List.all_eq_true.mp S.nocell y hy
 rw[e]at this
 exact absurd this (by decide)
theorem j1.locH (S:j1 X N' ix scope):∀y∈scope.names,y.2=.local->scope.names.lookup y.1=some .local:=λy hy e=>by
 have:=List.all_eq_true.mp S.locs y hy
 simp only[e,Bool.or_eq_true,bne_self_eq_false,Bool.false_eq_true,false_or,beq_iff_eq]at this
 exact this
theorem j1.freeH (S:j1 X N' ix scope) (ok:X.Ok):∀x∈scope.names,x.2=.free->∃c,X.env.cells.lookup x.1=some c:=λx hx e=>by
 have:=List.all_eq_true.mp S.frees x hx
 simp only[e,Bool.or_eq_true,bne_self_eq_false,Bool.false_eq_true,false_or,beq_iff_eq]at this
 exact ok.has x.1 this
theorem j1.clook (S:j1 X N' ix scope) (ok:X.Ok) {x:Str} {c:Addr} (h:(jN X.env scope.names []).lookup x=some c):X.env.cells.lookup x=some c/\(x,NameKind.free)∈scope.names:=by
 rcases Zz h with h | ⟨h1,h2⟩
 . simp at h
 . obtain⟨c',hc'⟩:=S.freeH ok _ h1 rfl
   have hc2:X.env.cells.lookup x=some c':=hc'
   rw[hc2]at h2
   subst h2
   exact⟨hc2,h1⟩
theorem Ku {C:Addr} {fp:List Addr} (S:j1 X N' ix scope) (I:qw X pins σ H s) (hC:s.heap.objs.size<=C) (hf:∀b∈fp,JL X pins H b) (hfo:∀b∈fp,b < s.heap.objs.size):(Zy X N' scope C s H fp pins).Ok where
 mod:=I.ok.mod
 kind:=S.kind
 glob:=I.ok.glob
 blt:=I.ok.blt
 above:=hC
 inj:=λx y c h1 h2=>I.ok.inj x y c (S.clook I.ok h1).1 (S.clook I.ok h2).1
 has:=λx hx=>by
   have hx':(relabel scope X.env).names.lookup x=some .cell\/(relabel scope X.env).names.lookup x=some .free:=hx
   refine JF (.inl ?_)
   have go:∀k,(k=NameKind.cell\/k=.free)->(relabel scope X.env).names.lookup x=some k->(x,NameKind.free)∈scope.names:=λk hk h=>by
     obtain⟨j,h1,h2⟩:=Js (f:=λ(n,k)=>if (k==NameKind.free&&X.env.scope.kind==.function&&X.env.kindOf n==some .cell) then (n,NameKind.cell) else (n,k)) (λp=>by dsimp only;split<;>rfl) h
     have hm:=mem_of_lookup h1
     by_cases hj:j=.free
     . subst hj;exact hm
     . exfalso
       have hb:(j==NameKind.free)=false:=by simpa using hj
       dsimp only at h2
       rw[hb,Bool.false_and,Bool.false_and,if_neg (by decide)]at h2
       have h2':j=k:=h2
       rcases hk with e | e
       . exact S.cellH _ hm (h2'.trans e)
       . exact hj (h2'.trans e)
   rcases hx' with h | h
   . exact go _ (.inl rfl) h
   . exact go _ (.inr rfl) h
 cab:=λx c h _=>by cases h
 hd:=I.ok.hd
 frames:=I.ok.frames
 stk:=.inl rfl
 exf:=λb hb=>⟨Nat.ne_of_lt (Nat.lt_of_lt_of_le (hfo b hb) hC),λx c h=>(hf b hb).2.2.2.2.1 x c (S.clook I.ok h).1⟩
 bs:=I.bs
 bsz:=Nat.le_trans I.ok.bsz I.sz
 noex:=λb o e hb=>by
   rcases(hf b hb).2.2.2.1 with h | h
   . exact I.ok.noex b o e h
   . exact absurd (Nat.lt_of_lt_of_le (Heap.lt_size e) (Nat.le_trans I.ok.bsz h)) (Nat.lt_irrefl _)
 exfs:=λb hb hm=>by
   rcases List.mem_cons.mp (I.stkSub b hm) with e | e
   . exact(hf b hb).2.1 e
   . exact(hf b hb).2.2.1 e
 funs:=I.stack
 frf:=I.stkFree
theorem Ud {C D:Addr} {fp:List Addr} {h₁:Heap} {m:Str->Option Value} {t':Nat} {n₀:Nat} (S:j1 X N' ix scope) (I:qw X pins σ H s) (hf:∀b∈fp,JL X pins H b) (hfo:∀b∈fp,b < s.heap.objs.size)
   (hD:s.heap.objs.size<=D) (hC:s.heap.objs.size<=C) (hDC:D≠C) (kp:∀b o,s.heap.get? b=some o->h₁.get? b=some o) (hn:h₁.Ns C m) (hl:h₁.get? D=some {cls:=.type "list",data:=.seq #[] n₀}):
   qw (Zy X N' scope C s H fp pins) [] (xJ ix σ) (upd H D (.lst [])) {s with heap:=h₁,toks:=t'} where
 ok:=Ku S I hC hf hfo
 os:=rfl
 bare:=I.bare
 base:=Un.laid kp hD (I.hok.fresh hD)
 loc:=by
   refine⟨m,hn,λi x v e1 e2 e3=>?_⟩
   have hix:=S.ixs
   unfold yQ at hix
   rw[Bool.and_eq_true]at hix
   obtain⟨hlen,hall⟩:=hix
   have hlen':ix.length=N'.length:=by simpa using hlen
   have e1':N'[i]?=some x:=e1
   unfold xJ at e2
   rw[List.getElem?_map]at e2
   cases ho:ix[i]? with
   | none=>rw[ho]at e2;cases e2
   | some o=>
     rw[ho]at e2
     cases o with
     | none=>cases e2
     | some j=>
       have e2':(σ[j]?).join=some v:=Option.some.inj e2
       have hz:(ix.zip N')[i]?=some (some j,x):=by
         rw[List.getElem?_zip_eq_some]
         exact⟨ho,e1'⟩
       have hm:=List.all_eq_true.mp hall _ (List.mem_of_getElem? hz)
       dsimp only at hm
       simp only[Bool.and_eq_true,beq_iff_eq,Bool.or_eq_true]at hm
       obtain⟨⟨hN,hfr⟩,hk⟩:=hm
       have e2'':σ[j]?=some (some v):=by
         cases q:σ[j]? with
         | none=>rw[q]at e2';cases e2'
         | some z=>
           rw[q]at e2'
           have:z=some v:=e2'
           rw[this]
       obtain⟨mX,hnX,hlX⟩:=I.loc
       have hvis:ug X.env.scope x:=by
         rcases hk with h | h
         . exact .inr (.inl h)
         . exact .inr (.inr h)
       obtain⟨u,ru,lu⟩:=hlX j x v hN e2'' hvis
       refine⟨u,ru,?_⟩
       rcases lu with ⟨hk',_⟩ | ⟨_,c,hc,hcell⟩
       . exfalso
         have hk'':X.env.scope.names.lookup x=some .local:=hk'
         rcases hk with h | h<;>rw[h]at hk''<;>cases hk''
       . right
         obtain⟨k',r1,r2⟩:=JV (scope:=scope) (env:=X.env) hfr
         refine⟨?_,?_⟩
         . rcases r2 with z | ⟨_,z⟩
           . right;rw[z]at r1;exact r1
           . left;rw[z]at r1;exact r1
         . obtain⟨c',hc'⟩:=JF (env:=X.env) (cs:=[]) (.inl (mem_of_lookup hfr))
           have:=(S.clook I.ok hc').1
           rw[hc]at this
           cases this
           obtain⟨o,ho',hd⟩:=hcell
           exact⟨c,hc',o,kp _ _ ho',hd⟩
 cell:=λx c h=>by
   obtain⟨v,o,ho,hd⟩:=I.cell x c (S.clook I.ok h).1
   exact⟨v,o,kp _ _ ho,hd⟩
 free:=by
   show (upd H D _) C=none
   rw[qf (Ne.symm hDC)]
   exact I.hok.fresh hC
 freeC:=λx c h=>by
   have h1:=(S.clook I.ok h).1
   obtain⟨v,o,ho,hd⟩:=I.cell x c h1
   rw[qf (Nat.ne_of_lt (Nat.lt_of_lt_of_le (Heap.lt_size ho) hD))]
   exact I.freeC x c h1
 pin:=λp hp=>by
   have hp':p∈X.pn++pins:=by
     have:p∈(X.pn++pins)++[]:=hp
     simpa using this
   obtain⟨e,n,ne,nf,d⟩:=I.pin p hp'
   have hlt:=Heap.lt_size e
   refine⟨kp _ _ e,?_,Nat.ne_of_lt (Nat.lt_of_lt_of_le hlt hC),λhm=>?_,d⟩
   . rw[qf (Nat.ne_of_lt (Nat.lt_of_lt_of_le hlt hD))];exact n
   . rcases List.mem_cons.mp (I.stkSub p.1 hm) with z | z
     . exact ne z
     . exact nf z
 hok:=I.hok.laid kp hD ⟨Nat.zero_le _,[],n₀,.nil,hl⟩
 len:=by
   have hix:=S.ixs
   unfold yQ at hix
   rw[Bool.and_eq_true]at hix
   have:ix.length=N'.length:=by simpa using hix.1
   show (xJ ix σ).length=N'.length
   unfold xJ
   rw[List.length_map,this]
theorem vY {C:Addr} {fp:List Addr} {σ':St} {H':Hp} {s':Shared} {pl:List (Addr×Obj)} (I:qw X pins σ H s) (hf:∀b∈fp,JL X pins H b) (J:qw (Zy X N' scope C s H fp pins) pl σ' H' s'):qw X pins σ H' s':=
 I.call' (ch:=fp) J.os J.base J.hok J.bare λb hb=>⟨(hf b hb).2.2.2.1,(hf b hb).2.1,(hf b hb).2.2.2.2.1,(hf b hb).2.2.2.2.2⟩
theorem vX {C:Addr} {H':Hp} {s₀ s':Shared} {h':Heap} (I₀:qw X pins σ H s₀) (I:qw X pins σ H' s') (hC:s₀.heap.objs.size<=C) (hn:H' C=none) (sb:Heap.SameBut C s'.heap h'):qw X pins σ H' {s' with heap:=h'}:=by
 refine I.turned (it:=C) (t':=s'.toks) (λb o hb e=>(sb.2 b hb).trans e) hn (Nat.ne_of_gt (Nat.lt_of_lt_of_le I₀.lt hC)) (.inr (Nat.le_trans I₀.sz hC)) (λx c e z=>?_) λp hp z=>?_
 . obtain⟨v,q⟩:=I₀.cell x c e
   exact absurd (Nat.lt_of_lt_of_le q.lt (by rw[z];exact hC)) (Nat.lt_irrefl _)
 . exact absurd (Nat.lt_of_lt_of_le (Heap.lt_size (I₀.pin p hp).1) (by rw[z];exact hC)) (Nat.lt_irrefl _)
end
def uh (X:Cx) (ifs:List Expr) (t:TT):Prop:=
 ∀(pins:List (Addr×Obj)) (s:Shared) (σ:St) (H:Hp) (Q:Bool->Hp->Prop),qw X pins σ H s->t σ H Q->
   wpAny (model X.prog X.w) X.A (forIn ifs true λc r=>if r=true then do let ok <-isTrue c X.env (eval c X.env);pure (ForInStep.yield ok) else pure (ForInStep.yield r)) (TP X pins σ Q) X.xe s
@[irreducible] def kI (X:Cx) (ifs:List Expr) (t:TT):Prop:=uh X ifs t
theorem kI.of {X:Cx} {ifs:List Expr} {t:TT} (h:uh X ifs t):kI X ifs t:=by unfold kI;exact h
theorem kI.to {X:Cx} {ifs:List Expr} {t:TT} (h:kI X ifs t):uh X ifs t:=by unfold kI at h;exact h
def xE:TT:=λ_ H Q=>Q true H
theorem jc {X:Cx}:kI X [] xE:=.of (by
 exact λ_ _ _ H _ I h=>wpAny_tests_nil ⟨H,I,h⟩)
theorem J3 {X:Cx} {c:Expr} {t:TT} (h:JT X c t):kI X [c] t:=.of (by
 have h:=h.to
 exact λpins s σ H Q I hw=>wpAny_tests_one (h pins s σ H Q I hw))
section
variable {prog:Program} {w:World} {A:Around} {R:Result->Shared->Prop} {s:Shared}
theorem YY {elt target iter:Expr} {ifs:List Expr} {scope:Scope} {pos:Pos} {it acc:Value} {env:Env} (I:Nat->Shared->Prop)
   (turn:∀n s,I n s->wpAny (model prog w) A (pyNext it) (λr s₁=>match r with
     | none=>R (.ok .next) s₁
     | some v=>wpAny (model prog w) A (letOwnedTupleGo target it v) (λ_ s₁'=>wpAny (model prog w) A (assign target env v) (λ_ s₂=>
         wpAny (model prog w) A (forIn ifs true λc r=>if r=true then do let ok <-isTrue c env (eval c env);pure (ForInStep.yield ok) else pure (ForInStep.yield r)) (λok s₃=>
           if ok=true then wpAny (model prog w) A (eval elt env) (λx s₄=>
             wpAny (model prog w) A (call (.builtin "list.append") [acc,x]) (λ_ s₅=>∃m,m < n/\I m s₅) (λ_ _=>False) s₄) (λ_ _=>False) s₃
           else ∃m,m < n/\I m s₃) (λ_ _=>False) s₂) (λ_ _=>False) s₁') (λ_ _=>False) s₁) (λ_ _=>False) s)
   (n:Nat) (h:I n s):
   codeAny (model prog w) A (.compLoop (.ListComp elt [⟨target,iter,ifs,0⟩] scope pos) 0 it acc env) R s:=by
 refine codeAny_loop rfl I (λn s hI=>?_) n h
 show wpAny _ A ((compTurn (.ListComp elt [⟨target,iter,ifs,0⟩] scope pos) 0 it acc env).onRaise (λx=>do noteFrame x env;theTreesLotGoes x)) _ _ s
 refine wpAny_noted ?_
 rw[compTurn_list]
 refine wpAny_bind (wpAny_standAt (wpAny_bind (wpAny_mono (turn n s hI) (λr s₁ h₁=>?_) λ_ _ h'=>h'.elim)))
 cases r with
 | none=>exact wpAny_pure h₁
 | some v=>
   refine wpAny_bind (wpAny_mono h₁ (λ_ s₁' h₁'=>?_) λ_ _ h'=>h'.elim)
   refine wpAny_bind (wpAny_mono h₁' (λ_ s₂ h₂=>wpAny_bind (wpAny_mono h₂ (λok s₃ h₃=>?_) λ_ _ h'=>h'.elim)) λ_ _ h'=>h'.elim)
   cases ok with
   | false=>exact wpAny_pure ⟨rfl,h₃⟩
   | true=>
     exact wpAny_bind (wpAny_bind (wpAny_mono h₃ (λx s₄ h₄=>wpAny_bind (wpAny_mono h₄ (λ_ s₅ h₅=>wpAny_pure (wpAny_pure ⟨rfl,h₅⟩)) λ_ _ h'=>h'.elim)) λ_ _ h'=>h'.elim))
end
def Yy (J:It) (g:TG) (tt:TT) (te:TE) (D:Addr) (σ:St) (H:Hp) (Q:Hp->Prop):Prop:=
 ∃W:Nat->Nat->St->Hp->Prop,(∃m,W 0 m σ (upd H D (.lst [])))/\∀i m σ' H',W i m σ' H'->
   (J.stop i H'/\Q H')\/(J.go i H'/\∃N:St->Hp->Prop,(∀σ2 H2,N σ2 H2->∃m',m' < m/\W (i+1) m' σ2 H2)/\∀x H2,J.yld i H' x H2->g x σ' H2 λσ2 H3=>tt σ2 H3 λb H4=>
     if b=true then te σ2 H4 λv H5=>∃ys,H5 D=some (.lst ys)/\ys.length < sizeLine/\N σ2 (upd H5 D (.lst (ys++[v]))) else N σ2 H4)
def ur (wi:TI) (ix:List (Option Nat)) (g:TG) (tt:TT) (te:TE):TE:=λσ H Q=>wi σ H λJ H1=>∀D,H1 D=none->Yy J g tt te D (xJ ix σ) H1 λH2=>Q (.ref D) H2
section
variable {X:Cx} {N':List Str} {ix:List (Option Nat)} {scope:Scope}
theorem Yn {elt iter target:Expr} {ifs:List Expr} {pos:Pos} {g:TG} {tt:TT} {te:TE} {pins:List (Addr×Obj)} {σ:St} {H:Hp} {s:Shared} {it:Addr} {fp:List Addr} {tn:Nat->Heap->Prop} {J:It} {E:Value->Shared->Prop}
   {RR:Value->Addr->Result->Shared->Prop} {Q:Addr->Hp->Prop}
   (hc:X.calm=true) (S:j1 X N' ix scope) (I:qw X pins σ H s) (T:XR X.prog X.w X.K target J fp it tn) (st:tn 0 s.heap) (hf:∀b∈fp,JL X pins H b)
   (hb:∀C s₂ H₂ fp pins,PG (Zy X N' scope C s₂ H₂ fp pins) target g/\uh (Zy X N' scope C s₂ H₂ fp pins) ifs tt/\PE (Zy X N' scope C s₂ H₂ fp pins) elt te)
   (h:∀D,H D=none->Yy J g tt te D (xJ ix σ) H (Q D))
   (fin:∀(D C:Addr) (H':Hp) (s':Shared) (m:Str->Option Value),s.heap.objs.size<=C->H' C=none->s'.heap.Ns C m->qw X pins σ H' s'->Q D H'->RR (.ref D) C (.ok .next) s'):
   wpAny (model X.prog X.w) X.A (newList []) (λacc s₃=>wpAny (model X.prog X.w) X.A (newFunctionEnv scope X.env.globals (jN X.env scope.names []) [] X.env.qual none .none (some X.env)) (λcenv s₄=>
     codeAny (model X.prog X.w) X.A (.compStart (.ListComp elt [⟨target,iter,ifs,0⟩] scope pos) 0 (.ref it) acc {cenv with scope:=relabel scope X.env}) (RR acc cenv.locals) s₄) E s₃) E s:=by
 have hfo:∀b∈fp,b < s.heap.objs.size:=λb hb=>by
   obtain⟨o,e,_⟩:=T.obj _ _ st b hb
   exact Heap.lt_size e
 refine wpAny_newObj_type (wpAny_newFunctionEnv S.cellH (by intro y hy;simp at hy) (λh₁ hns₁ hsb₁=>?_) S.kind)
 dsimp only at hns₁ hsb₁ ⊢
 generalize hH2:s.heap.push {cls:=.type "list",dict:=none,data:=.seq ([]:List Value).toArray}=H2 at hns₁ hsb₁ ⊢
 have hC:H2.objs.size=s.heap.objs.size+1:=by rw[<-hH2,Heap.size_push]
 have hDC:s.heap.objs.size≠H2.objs.size:=by rw[hC];exact Nat.ne_of_lt (Nat.lt_succ_self _)
 have hCle:s.heap.objs.size<=H2.objs.size:=by rw[hC];exact Nat.le_succ _
 have below:∀b,b < s.heap.objs.size->b≠H2.objs.size:=λb hb=>by rw[hC];exact Nat.ne_of_lt (Nat.lt_succ_of_lt hb)
 have old:∀b o,s.heap.get? b=some o->h₁.get? b=some o:=λb o e=>hsb₁.extBut b o (below b (Heap.lt_size e)) (Heap.get?_push_of_some _ (hH2▸Heap.get?_push_of_some _ e))
 have hacc:h₁.get? s.heap.objs.size=some {cls:=.type "list",data:=.seq #[] 0}:=hsb₁.extBut _ _ hDC (Heap.get?_push_of_some _ (hH2▸Heap.get?_push_size _ rfl))
 obtain⟨W,⟨m0,w0⟩,turn⟩:=h s.heap.objs.size (I.hok.fresh (Nat.le_refl _))
 have I1:qw (Zy X N' scope H2.objs.size s H fp pins) [] (xJ ix σ) (upd H s.heap.objs.size (.lst [])) {s with heap:=h₁,toks:=s.toks+([]:List (Str×Value)).length}:=
   Ud S I hf hfo (Nat.le_refl _) hCle hDC old hns₁ hacc
 have st₁:tn 0 h₁:=T.keep _ _ _ st λb hb o e=>old b o e
 have fpn:∀b∈fp,(upd H s.heap.objs.size (.lst [])) b=none:=λb hb=>by
   rw[qf (Nat.ne_of_lt (hfo b hb))]
   exact(hf b hb).1
 obtain⟨hg,htt,hte⟩:=hb H2.objs.size s H fp pins
 have okY:=I1.ok
 have stat:∀{H':Hp},(∀b∈fp,H' b=none)->∀b∈fp,JL (Zy X N' scope H2.objs.size s H fp pins) [] H' b:=λ{H'} hn b hb=>
   ⟨hn b hb,(okY.exf b hb).1,okY.exfs b hb,.inl hb,(okY.exf b hb).2,λp hp=>by
     have hp':p∈X.pn++pins:=by
       have:p∈(X.pn++pins)++[]:=hp
       simpa using this
     exact(hf b hb).2.2.2.2.2 p hp'⟩
 have loop:codeAny (model X.prog X.w) X.A (.compLoop (.ListComp elt [⟨target,iter,ifs,0⟩] scope pos) 0 (.ref it) (.ref s.heap.objs.size) (compEnvC scope (jN X.env scope.names []) H2.objs.size X.env))
     (RR (.ref s.heap.objs.size) H2.objs.size) {s with heap:=h₁,toks:=s.toks+([]:List (Str×Value)).length}:=by
   refine YY (λn s'=>∃i σ' H',qw (Zy X N' scope H2.objs.size s H fp pins) [] σ' H' s'/\tn i s'.heap/\(∀b∈fp,H' b=none)/\W i n σ' H') ?_ m0 ⟨0,_,_,I1,st₁,fpn,w0⟩
   rintro n s3 ⟨i,σ3,H3,I3,st3,fr3,w3⟩
   rcases turn i n σ3 H3 w3 with ⟨stop,qn⟩ | ⟨go,NN,hNN,step⟩
   . refine jk (T.done (Zy X N' scope H2.objs.size s H fp pins) rfl rfl rfl hc i [] s3 σ3 H3 _ I3 (stat fr3) st3 stop) λr s4 ⟨hr,I4⟩=>?_
     subst hr
     obtain⟨mm,hnm,_⟩:=I4.loc
     exact fin _ _ H3 s4 mm hCle I4.free hnm (vY I hf I4) qn
   . refine jk (T.item (Zy X N' scope H2.objs.size s H fp pins) rfl rfl rfl hc i [] s3 σ3 H3 _ I3 (stat fr3) st3 go) λr s4 ⟨u,hr,h4⟩=>?_
     subst hr
     refine jk h4 λ_ s5 ⟨x,H5,I5,r5,y5,st5,fr5⟩=>?_
     have I5':=I5.pinned (stat fr5) (T.obj _ _ st5)
     refine jk (hg _ s5 σ3 H5 x u _ I5' r5 (step x H5 y5)) λ_ s6 ⟨σ6,H6,I6,q6⟩=>?_
     refine jk (htt _ s6 σ6 H6 _ I6 q6) λok s7 ⟨H7,I7,q7⟩=>?_
     have again:∀{σ8:St} {H8:Hp} {s8:Shared},qw (Zy X N' scope H2.objs.size s H fp pins) ([]++ze fp s5.heap) σ8 H8 s8->NN σ8 H8->
         ∃m,m < n/\∃i σ' H',qw (Zy X N' scope H2.objs.size s H fp pins) [] σ' H' s8/\tn i s8.heap/\(∀b∈fp,H' b=none)/\W i m σ' H':=λ{σ8 H8 s8} I8 n8=>by
       obtain⟨m',hm,w8⟩:=hNN σ8 H8 n8
       refine⟨m',hm,i+1,σ8,H8,I8.unpinned,T.keep _ _ _ st5 λb hb o e=>(I8.pin (b,o) (List.mem_append_right _ (List.mem_append_right _ (QR hb e)))).1,λb hb=>?_,w8⟩
       obtain⟨o,e,d⟩:=T.obj _ _ st5 b hb
       exact(I8.pin (b,o) (List.mem_append_right _ (List.mem_append_right _ (QR hb e)))).2.1
     cases ok with
     | false=>
       rw[if_neg Bool.false_ne_true]at q7 ⊢
       exact again I7 q7
     | true=>
       rw[if_pos rfl]at q7 ⊢
       refine jk (hte _ s7 σ6 H7 _ I7 q7) λv s8 ⟨y,H8,I8,r8,q8⟩=>?_
       obtain⟨ys,hy,hz,q8⟩:=q8
       refine jk (QI (X:=Zy X N' scope H2.objs.size s H fp pins) _ s8 σ6 H8 (.ref s.heap.objs.size) [y] (.ref s.heap.objs.size) [v] (λ_ H9=>NN σ6 H9) I8 rfl (.cons r8 .nil) ⟨_,ys,y,rfl,rfl,hy,hz,q8⟩) λ_ s9 ⟨_,H9,I9,_,q9⟩=>?_
       exact again I9 q9
 exact codeAny_compStart_list loop (T.self X.A 0 _ _ _ st₁ loop)
theorem uT {elt iter target:Expr} {ifs:List Expr} {pos:Pos} {wi:TI} {g:TG} {tt:TT} {te:TE} (hc:X.calm=true) (S:j1 X N' ix scope) (hi:PI X target iter wi)
   (hb:∀C s₂ H₂ fp pins,PG (Zy X N' scope C s₂ H₂ fp pins) target g/\uh (Zy X N' scope C s₂ H₂ fp pins) ifs tt/\PE (Zy X N' scope C s₂ H₂ fp pins) elt te)
   (hs:∀x,foldedSetIterable iter X.env x=pure x:=by intro _;rfl):PE X (.ListComp elt [⟨target,iter,ifs,0⟩] scope pos) (ur wi ix g tt te):=by
 intro pins s σ H Q I h
 rw[eval_ListComp]
 refine wpAny_comprehension_free (use:=none) rfl hs (Jt (S.freeH I.ok)) S.kind S.locH ?_
 refine jk (hi pins s σ H _ I h) λxv s1 h1=>jk h1 λitv s2 h2=>?_
 obtain⟨it,fp,tn,J,H2,e,I2,T,st2,f2,q2⟩:=h2
 subst e
 refine Yn (RR:=λacc C=>compPost (model X.prog X.w) X.A X.xe none (EP X pins σ Q) acc C) (Q:=λD H'=>Q (.ref D) H') hc S I2 T st2 f2 hb q2 ?_
 intro D C H' s' m hC hn hm I' q
 exact⟨m,hm,λh' sb=>⟨.ref D,H',vX I2 I' hC hn sb,rfl,q⟩⟩
theorem j7 {elt iter target:Expr} {ifs:List Expr} {pos:Pos} {wi:TI} {g:TG} {tt:TT} {te:TE} (hc:X.calm=true) (S:j1 X N' ix scope) (hi:JI X target iter wi) (hb:∀C s₂ H₂ fp pins,JG (Zy X N' scope C s₂ H₂ fp pins) target g/\kI (Zy X N' scope C s₂ H₂ fp pins) ifs tt/\JE (Zy X N' scope C s₂ H₂ fp pins) elt te) (hs:∀x,foldedSetIterable iter X.env x=pure x:=by intro _;rfl):JE X (.ListComp elt [⟨target,iter,ifs,0⟩] scope pos) (ur wi ix g tt te):=.of (uT hc S hi.to (λC s₂ H₂ fp pins=>⟨(hb C s₂ H₂ fp pins).1.to,(hb C s₂ H₂ fp pins).2.1.to,(hb C s₂ H₂ fp pins).2.2.to⟩) hs)
theorem U9 {i:Nat} {x:Str} {elt iter target:Expr} {ifs:List Expr} {pos spos px:Pos} {wi:TI} {g:TG} {tt:TT} {te:TE} (hN:X.N.Nodup) (hxi:X.N[i]?=some x) (hx:uj X.env.scope x) (hc:X.calm=true) (S:j1 X N' ix scope) (hi:PI X target iter wi)
   (hb:∀C s₂ H₂ fp pins,PG (Zy X N' scope C s₂ H₂ fp pins) target g/\uh (Zy X N' scope C s₂ H₂ fp pins) ifs tt/\PE (Zy X N' scope C s₂ H₂ fp pins) elt te)
   (hsw:swapsWith (.ListComp elt [⟨target,iter,ifs,0⟩] scope pos) (some (.Name x px)) spos.line X.env=pure true:=by rfl)
   (hs:∀x,foldedSetIterable iter X.env x=pure x:=by intro _;rfl) (hf:X.fn x=true\/X.env.scope.names.lookup x=some .local:=by first | exact .inl rfl | exact .inr rfl | assumption):
   PS X (.Assign [.Name x px] (.ListComp elt [⟨target,iter,ifs,0⟩] scope pos) spos) (kU (ur wi ix g tt te) (js i)):=by
 intro pins s σ H D I h
 rw[exec_Assign_Name_used _ _ _ _ hsw]
 refine wpAny_bind (wpAny_standAt (wpAny_bind ?_))
 show wpAny _ X.A (do let _ <-comprehension (.ListComp elt [⟨target,iter,ifs,0⟩] scope pos) scope X.env _ (newList []) false (eval iter X.env) (some (assign (.Name x px) X.env))) _ _ s
 refine wpAny_bind (jk (wpAny_comprehension_free (use:=some (assign (.Name x px) X.env)) (Q:=λ_ s'=>SP X pins D .next s') rfl hs (Jt (S.freeH I.ok)) S.kind S.locH ?_) λ_ s' hq=>wpAny_pure (wpAny_pure hq))
 refine jk (hi pins s σ H _ I h) λxv s1 h1=>jk h1 λitv s2 h2=>?_
 obtain⟨it,fp,tn,J,H2,e,I2,T,st2,f2,q2⟩:=h2
 subst e
 refine Yn (RR:=λacc C=>compPost (model X.prog X.w) X.A X.xe (some (assign (.Name x px) X.env)) (λ_ s'=>SP X pins D .next s') acc C) (Q:=λD' H'=>js i (.ref D') σ H' D.nx) hc S I2 T st2 f2 hb q2 ?_
 intro D' C H' s' m hC hn hm I' q
 show wpAny _ X.A (assign (.Name x px) X.env (.ref D')) _ _ _
 refine wpAny_assign_Name (z5 I' hN hxi hx (v:=.ref D') rfl (λs'' I'' hch=>?_) hf)
 obtain⟨a,sb,ha⟩:=hch
 have hCa:C≠a:=by
   rcases ha with z | z
   . rw[z];exact Nat.ne_of_gt (Nat.lt_of_lt_of_le I2.lt hC)
   . intro e
     obtain⟨v,qc⟩:=I2.cell x a z
     exact absurd (Nat.lt_of_lt_of_le qc.lt (by rw[<-e];exact hC)) (Nat.lt_irrefl _)
 refine⟨m,hm.sameBut sb hCa,λh' sb'=>?_⟩
 refine⟨_,H',?_,q⟩
 refine I''.turned (it:=C) (t':=s''.toks) (λb o hb e=>(sb'.2 b hb).trans e) hn (Nat.ne_of_gt (Nat.lt_of_lt_of_le I2.lt hC)) (.inr (Nat.le_trans I2.sz hC)) (λy c e z=>?_) λp hp z=>?_
 . obtain⟨v,qc⟩:=I2.cell y c e
   exact absurd (Nat.lt_of_lt_of_le qc.lt (by rw[z];exact hC)) (Nat.lt_irrefl _)
 . exact absurd (Nat.lt_of_lt_of_le (Heap.lt_size (I2.pin p hp).1) (by rw[z];exact hC)) (Nat.lt_irrefl _)
theorem QJ {i:Nat} {x:Str} {elt iter target:Expr} {ifs:List Expr} {pos spos px:Pos} {wi:TI} {g:TG} {tt:TT} {te:TE} (hN:X.N.Nodup) (hxi:X.N[i]?=some x) (hx:uj X.env.scope x) (hc:X.calm=true) (S:j1 X N' ix scope) (hi:JI X target iter wi) (hb:∀C s₂ H₂ fp pins,JG (Zy X N' scope C s₂ H₂ fp pins) target g/\kI (Zy X N' scope C s₂ H₂ fp pins) ifs tt/\JE (Zy X N' scope C s₂ H₂ fp pins) elt te) (hsw:swapsWith (.ListComp elt [⟨target,iter,ifs,0⟩] scope pos) (some (.Name x px)) spos.line X.env=pure true:=by rfl) (hs:∀x,foldedSetIterable iter X.env x=pure x:=by intro _;rfl) (hf:X.fn x=true\/X.env.scope.names.lookup x=some .local:=by first | exact .inl rfl | exact .inr rfl | assumption):JS X (.Assign [.Name x px] (.ListComp elt [⟨target,iter,ifs,0⟩] scope pos) spos) (kU (ur wi ix g tt te) (js i)):=.of (U9 hN hxi hx hc S hi.to (λC s₂ H₂ fp pins=>⟨(hb C s₂ H₂ fp pins).1.to,(hb C s₂ H₂ fp pins).2.1.to,(hb C s₂ H₂ fp pins).2.2.to⟩) hsw hs hf)
end
end L2
set_option Elab.async false
set_option linter.all false
set_option maxRecDepth 100000
set_option maxHeartbeats 4000000
namespace L2
open PySem PySem.Spec PyProof.Rows
def GQ (x:Str):It:=⟨λi _=>i < x.cps.size,λi H v H'=>H'=H/\∃c,x.cps[i]?=some c/\v=.str ⟨#[c]⟩,λi _=>i=x.cps.size⟩
theorem Xg {P:Program} {w:World} {K:PySem.W.Frag} {tg:Expr} (it:Addr) (x:Str) (t:Tok) (ty:String)
   (hn:["enumerate","zip","dict_itemiterator","dict_reverseitemiterator","odict_iterator","itertools.zip_longest","itertools.pairwise"].contains ty=false)
   (hW:∀A:Around,A.handled=none->Walks P w A it [it] [it] x.cps.size (SignAt x) (λi h=>h.IsStrIter it ty x t i))
   (hself:∀(A:Around) (i:Nat) (s:Shared) (Q:Value->Shared->Prop) (E:Value->Shared->Prop),s.heap.IsStrIter it ty x t i->Q (.ref it) s->wpAny (model P w) A (pyIter (.ref it)) Q E s):
   XR P w K tg (GQ x) [it] it (λi h=>h.IsStrIter it ty x t i) where
 mem:=by simp
 obj:=λi h st b hb=>by
   have e:b=it:=by simpa using hb
   subst e
   obtain⟨o,e,c,d⟩:=st
   exact⟨o,e,λv z=>by rw[d]at z;cases z⟩
 keep:=λi h h' st k=>let ⟨o,e,r⟩:=st;⟨o,k it (by simp) o e,r⟩
 item:=by
   intro X hP hw hK hc i pins s σ H E I hf st hg
   subst hP hw hK
   obtain⟨f0,f1,f2,f3,f4,f5⟩:=hf it (by simp)
   refine(hW X.A (I.ok.hd hc)).item i s _ _ hg st λv h' tk hv st' kk=>?_
   obtain⟨c,u,hcu,rfl⟩:=hv
   have I1:qw X pins σ H {s with heap:=h',toks:=tk}:=I.turned (λb o hb e=>kk b o (by simpa using hb) e) f0 f1 f3 f4 f5
   obtain⟨o,e,c1,d1⟩:=id st'
   exact⟨_,rfl,Vl (s:={s with heap:=h',toks:=tk}) e c1 d1 hn ⟨.str ⟨#[c]⟩,H,I1,⟨u,rfl⟩,⟨rfl,c,hcu,rfl⟩,st',λb hb=>(hf b hb).1⟩⟩
 done:=by
   intro X hP hw hK hc i pins s σ H E I hf st hg
   subst hP hw hK
   obtain⟨f0,f1,f2,f3,f4,f5⟩:=hf it (by simp)
   have hi:i=x.cps.size:=hg
   subst hi
   exact(hW X.A (I.ok.hd hc)).done s _ _ st λh' tk kk=>⟨rfl,I.turned (λb o hb e=>kk b o (by simpa using hb) e) f0 f1 f3 f4 f5⟩
 self:=hself
def Gw (tl:TE):TI:=λσ H R=>tl σ H λx H1=>∃y,x=.str y/\R (GQ y) H1
theorem wG {X:Cx} {tg l:Expr} {tl:TE} (hl:JE X l tl):JI X tg l (Gw tl):=.of (by
 have hl:=hl.to
 intro pins s σ H R I h
 refine jk (hl pins s σ H _ I h) λv s1 ⟨x,H1,I1,r1,q1⟩=>?_
 obtain⟨y,e,q⟩:=q1
 subst e
 obtain⟨t,rfl⟩:=r1
 have fp:∀b∈[s1.heap.objs.size],JL X pins H1 b:=λb hb=>by
   have e:b=s1.heap.objs.size:=by simpa using hb
   subst e
   exact I1.fpOk (Nat.le_refl _) (I1.hok.fresh (Nat.le_refl _))
 cases ha:y.cps.all (· < 128)
 . refine wpAny_pyIter_wide ha ?_
   exact⟨s1.heap.objs.size,[s1.heap.objs.size],_,_,H1,rfl,I1.kept (t':=s1.toks) λb o e=>Heap.get?_push_of_some _ e,
     Xg _ y t "str_iterator" (by decide) (λA hA=>Walks.strWide hA _ y t) (λA i s Q E st q=>wpAny_pyIter_striter_wide st q),⟨_,Heap.get?_push_size _ rfl,rfl,rfl⟩,fp,q⟩
 . refine wpAny_pyIter_ascii ha ?_
   exact⟨s1.heap.objs.size,[s1.heap.objs.size],_,_,H1,rfl,I1.kept (t':=s1.toks) λb o e=>Heap.get?_push_of_some _ e,
     Xg _ y t "str_ascii_iterator" (by decide) (λA hA=>Walks.strAscii hA _ y t) (λA i s Q E st q=>wpAny_pyIter_striter_ascii st q),⟨_,Heap.get?_push_size _ rfl,rfl,rfl⟩,fp,q⟩)
section
variable {K:PySem.W.Frag} {g:TG} {tt:TT} {te:TE} {D a:Addr} {σ:St} {H:Hp} {Q:Hp->Prop}
def Yt (tt:TT) (te:TE) (D:Addr) (N:St->Hp->Prop):St->Hp->Prop:=λσ2 H3=>tt σ2 H3 λb H4=>
 if b=true then te σ2 H4 λv H5=>∃ys,H5 D=some (.lst ys)/\ys.length < sizeLine/\N σ2 (upd H5 D (.lst (ys++[v]))) else N σ2 H4
theorem zJ {J:It} {n:Nat} (Pv:Nat->St->Hp->Prop) (h0:Pv 0 σ (upd H D (.lst [])))
   (go:∀i σ' H',i < n->Pv i σ' H'->J.go i H'/\∀x H2,J.yld i H' x H2->g x σ' H2 (Yt tt te D (Pv (i+1)))) (stop:∀σ' H',Pv n σ' H'->J.stop n H'/\Q H'):Yy J g tt te D σ H Q:=by
 refine⟨λi m σ' H'=>m=n - i/\i<=n/\Pv i σ' H',⟨n,by simp,Nat.zero_le _,h0⟩,?_⟩
 rintro i m σ' H' ⟨rfl,hi,p⟩
 by_cases hlt:i < n
 . obtain⟨h1,h2⟩:=go i σ' H' hlt p
   exact .inr ⟨h1,Pv (i+1),λσ2 H2 p2=>⟨n - (i+1),by omega,rfl,hlt,p2⟩,h2⟩
 . have e:i=n:=by omega
   subst e
   exact .inl (stop σ' H' p)
theorem Yo {lo:Int} {n:Nat} (Pv:Nat->St->Hp->Prop) (h0:Pv 0 σ (upd H D (.lst [])))
   (hs:∀i σ' H',i < n->Pv i σ' H'->g (.int (lo+i)) σ' H' (Yt tt te D (Pv (i+1)))) (hd:∀σ' H',Pv n σ' H'->Q H'):Yy (wY lo n) g tt te D σ H Q:=
 zJ (n:=n) Pv h0 (λi σ' H' hi p=>⟨hi,λx H2 y=>by
   obtain⟨e,y⟩:=y
   subst e y
   exact hs i σ' H2 hi p⟩) λσ' H' p=>⟨Nat.le_refl _,hd σ' H' p⟩
theorem q5 {xs:List V} (Pv:Nat->St->Hp->Prop) (h0:Pv 0 σ (upd H D (.lst []))) (hl:∀i σ' H',i<=xs.length->Pv i σ' H'->SqL K H' a xs)
   (hs:∀i x σ' H',xs[i]?=some x->Pv i σ' H'->g x σ' H' (Yt tt te D (Pv (i+1)))) (hd:∀σ' H',Pv xs.length σ' H'->Q H'):Yy (wZ K a) g tt te D σ H Q:=
 zJ (n:=xs.length) Pv h0 (λi σ' H' hi p=>⟨⟨xs,xs[i],hl i σ' H' (Nat.le_of_lt hi) p,by simp [hi]⟩,λx H2 y=>by
   obtain⟨e,y⟩:=y
   subst e
   exact hs i x σ' _ (y xs (hl i σ' _ (Nat.le_of_lt hi) p)) p⟩) λσ' H' p=>⟨⟨xs,hl _ σ' H' (Nat.le_refl _) p,Nat.le_refl _⟩,hd σ' H' p⟩
theorem Y3 {xs:List V} (Pv:Nat->St->Hp->Prop) (h0:Pv 0 σ (upd H D (.lst []))) (hl:∀i σ' H',i<=xs.length->Pv i σ' H'->Zc K H' a xs)
   (hs:∀i x σ' H',xs[i]?=some x->Pv i σ' H'->g x σ' H' (Yt tt te D (Pv (i+1)))) (hd:∀σ' H',Pv xs.length σ' H'->Q H'):Yy (uk K a) g tt te D σ H Q:=
 zJ (n:=xs.length) Pv h0 (λi σ' H' hi p=>⟨⟨xs,xs[i],hl i σ' H' (Nat.le_of_lt hi) p,by simp [hi]⟩,λx H2 y=>by
   obtain⟨e,y⟩:=y
   subst e
   exact hs i x σ' _ (y xs (hl i σ' _ (Nat.le_of_lt hi) p)) p⟩) λσ' H' p=>⟨⟨xs,hl _ σ' H' (Nat.le_refl _) p,Nat.le_refl _⟩,hd σ' H' p⟩
theorem y3 {x:Str} (Pv:Nat->St->Hp->Prop) (h0:Pv 0 σ (upd H D (.lst [])))
   (hs:∀i c σ' H',x.cps[i]?=some c->Pv i σ' H'->g (.str ⟨#[c]⟩) σ' H' (Yt tt te D (Pv (i+1)))) (hd:∀σ' H',Pv x.cps.size σ' H'->Q H'):Yy (GQ x) g tt te D σ H Q:=
 zJ (n:=x.cps.size) Pv h0 (λi σ' H' hi p=>⟨hi,λv H2 y=>by
   obtain⟨e,c,hc,rfl⟩:=y
   subst e
   exact hs i c σ' _ hc p⟩) λσ' H' p=>⟨rfl,hd σ' H' p⟩
end
section
variable {X:Cx}
theorem zK:∀(bs:List Bool),(List.range bs.length).all (λi=>bs.getD i false)=bs.all id:=by
 intro bs
 induction bs with
 | nil=>rfl
 | cons b bs ih=>
   rw[List.length_cons,List.range_succ_eq_map,List.all_cons,List.all_map,List.all_cons]
   have:((λi=>(b::bs).getD i false) ∘ Nat.succ)=λi=>bs.getD i false:=by
     funext i
     simp [Function.comp]
   rw[this,ih]
   simp
theorem Ym (hc:X.calm=true):jU X (.builtin "all") (λxs H Q=>∃(p:Addr) (bs:List Bool),xs=[.ref p]/\SqL X.K H p (bs.map V.bl)/\Q (.bl (bs.all id)) H):=by
 intro pins s σ H xs us Q I r h
 obtain⟨p,bs,rfl,hq,q⟩:=h
 obtain⟨u,rfl,rx⟩:=Qh r
 cases rx
 obtain⟨its,rv,pl,hz⟩:=I.list hq
 have hlt:p < s.heap.objs.size:=by
   obtain⟨o,n,e,_⟩:=pl
   exact Heap.lt_size e
 have hn:its.toArray.size=bs.length:=by
   have:=rv.length
   rw[List.length_map]at this
   simp only[List.size_toArray]
   omega
 have hh:X.A.in1.handled=none:=I.ok.hd hc
 refine call_all_walk (wpAny_pyIter_list pl.isList ?_)
 refine⟨s.heap.objs.size,[s.heap.objs.size,p],[s.heap.objs.size],its.toArray.size,λi v=>its.toArray[i]?=some v,_,λi=>bs.getD i false,rfl,Walks.list hh s.heap.objs.size p (Nat.ne_of_lt hlt) its.toArray,
   ⟨⟨_,Heap.get?_push_size _ rfl,rfl,rfl⟩,pl.isList.at λo e=>Heap.get?_push_of_some _ e⟩,?_,λh' tk hk=>?_⟩
 . intro i v s' Q' E' hP hQ
   have hi:its[i]?=some v:=by simpa using hP
   have hb:∃b,bs[i]?=some b/\v=Value.bool b:=by
     cases e:bs[i]? with
     | none=>
       exfalso
       have h1:(bs.map V.bl)[i]?=none:=by rw[List.getElem?_map,e];rfl
       rw[qD.none_of rv h1]at hi
       cases hi
     | some b=>
       have h1:(bs.map V.bl)[i]?=some (V.bl b):=by rw[List.getElem?_map,e];rfl
       obtain⟨u,hu,ru⟩:=rv.get h1
       rw[hi]at hu
       cases hu
       exact⟨b,rfl,ru⟩
   obtain⟨b,e,rfl⟩:=hb
   refine wpAny_truthy_bool ?_
   have e2:bs.getD i false=b:=by rw[List.getD_eq_getElem?_getD,e];rfl
   have hQ':Q' (bs.getD i false) s':=hQ
   rw[e2]at hQ'
   exact hQ'
 . rw[hn,zK]
   refine⟨.bl (bs.all id),H,?_,rfl,q⟩
   exact I.kept (h':=h') (t':=tk) λb o e=>hk b o (by
     intro z
     have z':b=s.heap.objs.size:=by simpa using z
     exact absurd (Heap.lt_size e) (by rw[z'];exact Nat.lt_irrefl _)) (Heap.get?_push_of_some _ e)
theorem X9 {ys:List Str}:∀{us:List Value},qD (ys.map V.str) us->StrsAre us ys:=by
 induction ys with
 | nil=>
   intro us r
   rw[List.map_nil]at r
   cases r
   exact .nil
 | cons y ys ih=>
   intro us r
   rw[List.map_cons]at r
   cases r with
   | cons a b=>
     obtain⟨t,rfl⟩:=a
     exact .cons _ _ (ih b)
def uN (K:PySem.W.Frag):V->List V->Hp->VK->Prop:=λx xs H Q=>∃(sep:Str) (p:Addr) (ys:List Str),x=.str sep/\xs=[.ref p]/\SqL K H p (ys.map V.str)/\(ys.map (·.length)).sum+ys.length*sep.length<=16777216/\Q (.str (Txt.join sep ys)) H
theorem yE:KD X "str.join" (uN X.K):=by
 intro pins s σ H x xs v us Q I rx rv h
 obtain⟨sep,p,ys,rfl,rfl,hq,hz,q⟩:=h
 obtain⟨t,rfl⟩:=rx
 obtain⟨u,rfl,ru⟩:=Qh rv
 cases ru
 obtain⟨its,r',pl,_⟩:=I.list hq
 exact join_list pl.isList (by simpa using X9 r') hz λt' k=>⟨.str _,H,I.tok k,⟨t',rfl⟩,q⟩
def yZ:V->Value
 | .ty n=>.type n
 | .ref a=>.ref a
 | _=>.none
def xv:V->Bool
 | .ty _=>true
 | .ref _=>true
 | _=>false
def uQ (K:PySem.W.Frag):List V->Hp->VK->Prop:=λxs H Q=>∃x c t b,xs=[x,c]/\xv c=true/\Zo K H x t/\PySem.W.kitOne K t (yZ c)=some b/\Q (.bl b) H
theorem j2:jU X (.builtin "isinstance") (uQ X.K):=by
 intro pins s σ H xs us Q I r h
 obtain⟨x,c,t,b,rfl,hc,ty,e,q⟩:=h
 obtain⟨u,w',rfl,ru,rw'⟩:=Xd r
 have ew:w'=yZ c:=by
   cases c with
   | ty n=>exact rw'
   | ref a=>exact rw'
   | _=>cases hc
 subst ew
 exact Ub I ru ty e λtk=>⟨.bl b,H,I.tok tk,rfl,q⟩
end
end L2
namespace L2
open PySem PySem.Spec PyProof.Rows
end L2
set_option Elab.async false
set_option linter.all false
set_option maxRecDepth 100000
set_option maxHeartbeats 4000000
namespace L2
open PySem PySem.Spec PyProof.Rows
abbrev uo (rest:List Value):Obj:={cls:=.type "tuple",data:=.seq rest.toArray}
abbrev wN (C t:Addr):Obj:={cls:=.ref C,data:=.fields #[.ref t,.none,.none,.none,.bool false,.none]}
section
variable {prog:Program} {w:World} {A:Around} {E:Value->Shared->Prop} {h:Heap} {g:Array GenState} {d:Drawn} {t:Nat} {os:OsState}
variable {nm q:Str} {C N fI:Addr} {bs bm bmB bmN:List Value} {hdct:Bool} {sn:List Str} {sub:List Value} {ab:Bool} {col:Option Bool} {dd:Option Addr} {k0 k1 k2 k3 k5:Option Value} {B Bn newId nid initId inN:String} {rest:List Value} {oI:Obj}
theorem X0 {Q:Fin->Shared->Prop} (Fn:ExcBaseFacts Bn newId inN bmN) (hBn:bmB.contains (.type Bn)=true)
   (F:ExcBaseFacts B nid initId bmB) (T:OwnTail h bmB bm)
   (hC:h.get? C=some (excClassObj nm q C N bs bm hdct sn sub ab col dd k0 k1 k2 k3 k5 newId))
   (hi:PySem.W.Looks (model prog w) h (typeLookup (.ref C) "__init__") (some (.ref fI))) (hfI:h.get? fI=some oI) (hfc:oI.cls=.type "function")
   (hq:∀h' e,h.objs.size<=e->Heap.MadeExcOf h h' e (.ref C) rest->
     wpAny (model prog w) A (call (.ref fI) (.ref e::rest)) (λr s'=>r=.none/\Q (.done (.ret (.ref e))) s') E ⟨h',g,d,t,os⟩)
   (hz:rest.length<=sizeLine):
   wpAny (model prog w) A (Builtin.«type.__call__» ⟨.ref C::rest,[]⟩) Q E ⟨h,g,d,t,os⟩:=by
 repeat (first
   | with_reducible refine wpAny_loadPart_at hC ?_
   | with_reducible refine wpAny_madeBy_exc hC ?_
   | wp_step)
 refine codeAny_call_builtin_code (Code.quiet_builtin _ Fn.quiet) (wpAny_check_new_subU Fn hBn T hC
   (codeAny_exc_new_subU Fn hBn F T hC ?_ hz))
 show wpAny _ _ _ _ _ _
 have k:∀b o,h.get? b=some o->((h.push (uo rest)).push (wN C h.objs.size)).get? b=some o:=λb o e=>
   Heap.get?_push_of_some _ (Heap.get?_push_of_some _ e)
 have c1:=k _ _ hC
 have f1:=k _ _ hfI
 have i1:=hi.keeps k
 have e1:((h.push (uo rest)).push (wN C h.objs.size)).get? (h.objs.size+1)=some (wN C h.objs.size):=by heap_get
 have hcC:(Value.ref C::bm).contains (.ref C)=true:=by simp
 unfold isInstance
 repeat (first
   | with_reducible refine wpAny_loadPart_at e1 ?_
   | (with_reducible refine wpAny_isSubtype_exc c1 ?_;rw[hcC])
   | wp_step)
 show wpAny _ _ (typeLookup (.ref C) _) _ _ _
 refine i1.at ?_
 refine wpAny_holding (wpAny_bind ?_)
 unfold bindSpecial
 refine wpAny_bind (wpAny_typeOf (T:="function") ⟨_,f1,hfc⟩ ?_)
 rw[if_pos (by decide)]
 refine wpAny_pure (wpAny_bind (jk (hq _ (h.objs.size+1) (Nat.le_succ _) ⟨k,Heap.get?_none_of_le (Nat.le_succ _),h.objs.size,e1,Heap.get?_none_of_le (Nat.le_refl _),?_⟩) λr s' hr=>?_))
 . exact Heap.get?_push_of_some _ (Heap.get?_push_at rfl rfl)
 . obtain⟨rfl,hQ⟩:=hr
   wp_walk
   exact hQ
theorem Uu {Q:Value->Shared->Prop} (Fn:ExcBaseFacts Bn newId inN bmN) (hBn:bmB.contains (.type Bn)=true)
   (F:ExcBaseFacts B nid initId bmB) (T:OwnTail h bmB bm)
   (hC:h.get? C=some (excClassObj nm q C N bs bm hdct sn sub ab col dd k0 k1 k2 k3 k5 newId))
   (hi:PySem.W.Looks (model prog w) h (typeLookup (.ref C) "__init__") (some (.ref fI))) (hfI:h.get? fI=some oI) (hfc:oI.cls=.type "function")
   (hq:∀h' e,h.objs.size<=e->Heap.MadeExcOf h h' e (.ref C) rest->
     wpAny (model prog w) (A.under (.builtin "type.__call__" ⟨.ref C::rest,[]⟩)) (call (.ref fI) (.ref e::rest)) (λr s'=>r=.none/\Q (.ref e) s') E ⟨h',g,d,t,os⟩)
   (hz:rest.length<=sizeLine):
   wpAny (model prog w) A (call (.ref C) rest) Q E ⟨h,g,d,t,os⟩:=by
 have a1:=tc_lookup
 have a2:=tc_bind (.ref C)
 have a3:(⟨h,g,d,t,os⟩:Shared).TypeIs (.ref C) "type":=⟨_,hC,rfl⟩
 refine wpAny_call (codeAny_of_tree ?_)
 show wpAny _ _ (callAny (.ref C) _) _ _ _
 repeat (any_goals (first
   | assumption
   | with_reducible refine wpAny_loadPart_at hC ?_
   | wp_step))
 refine⟨rfl,codeAny_call_builtin_at (Code.quiet_builtin _ (by decide+kernel)) entry_typeCall
   (wpAny_check_type_call_sub hC (X0 Fn hBn F T hC hi hfI hfc (λh' e he hm=>?_) hz))⟩
 exact hq h' e he hm
end
end L2
namespace L2
open PySem PySem.W PyProof.Rows Builtin Builtin.ObjectAttr
structure Ze (K:Frag) (C:Addr) (bm:List Value):Prop where
 ga:findIn K (.ref C) "__getattribute__"=some (some (.builtin "BaseException.__getattribute__"))
 gt:findIn K (.ref C) "__getattr__"=some none
 sa:findIn K (.ref C) "__setattr__"=some (some (.builtin "object.__setattr__"))
 hd:hasDictIn K C=true
 mr:∃cd,clsIn K C=some cd/\cd.mro=.ref C::bm
 mb:mroIn K C (.type "BaseException")=some true
 mo:mroIn K C (.type "object")=some true
 cl:findIn K (.ref C) "__class__"=some (some (.builtin "object.__class__"))
def Wm:List Value->Prop
 | .ref _::r=>Wm r
 | l=>l=[.type "ValueError",.type "Exception",.type "BaseException",.type "object"]
theorem W7 (self:Value):∀{l:List Value},Wm l->refuseLoop self "__setattr__" l=pure ()
 | .ref c::r,e=>by rw[refuseLoop_ref];exact W7 self (l:=r) e
 | [],e=>nomatch (show ([]:List Value)=[.type "ValueError",.type "Exception",.type "BaseException",.type "object"] from e)
 | .type n::r,e=>by
   have e':(Value.type n::r)=[.type "ValueError",.type "Exception",.type "BaseException",.type "object"]:=e
   rw[e'];kernel_rfl
 | .none::r,e=>by have e':(Value.none::r)=[.type "ValueError",.type "Exception",.type "BaseException",.type "object"]:=e;cases e'
 | .bool _::r,e=>by have e':_=[Value.type "ValueError",.type "Exception",.type "BaseException",.type "object"]:=e;cases e'
 | .int _ _::r,e=>by have e':_=[Value.type "ValueError",.type "Exception",.type "BaseException",.type "object"]:=e;cases e'
 | .float _ _::r,e=>by have e':_=[Value.type "ValueError",.type "Exception",.type "BaseException",.type "object"]:=e;cases e'
 | .str _ _::r,e=>by have e':_=[Value.type "ValueError",.type "Exception",.type "BaseException",.type "object"]:=e;cases e'
 | .bytes _ _::r,e=>by have e':_=[Value.type "ValueError",.type "Exception",.type "BaseException",.type "object"]:=e;cases e'
 | .builtin _::r,e=>by have e':_=[Value.type "ValueError",.type "Exception",.type "BaseException",.type "object"]:=e;cases e'
section
variable {prog:Program} {w:World} {A:Around} {E:Value->Shared->Prop} {s:Shared} {K:Frag} {x C:Addr} {ox:Obj} {od:Option Obj} {bm:List Value} {name:Str} {v:Value}
theorem ym {tk:Tok} {R:Result->Shared->Prop} (X:K.In s.heap) (I:InstAt s.heap x ox C od) (c:Ze K C bm) (hb:Wm bm) (ht:findIn K (.ref C) name=some none)
   (h:∀b,wpAny (model prog w) A.in1 (storeInOwnDict (.ref x) (.ref C) (.str name tk) name v b)
     (λfin s'=>match fin with | .done f=>R (.ok f) s' | .again c'=>c'.quiet=true/\codeAny (model prog w) A c' R s') (λe s'=>R (.error e) s') s):
   codeAny (model prog w) A (.call (.builtin "object.__setattr__") ⟨[.ref x,.str name tk,v],[]⟩) R s:=by
 have SF:=PySem.F.store_object
 obtain⟨cd,hc,hm⟩:=c.mr
 have sub:Looks (model prog w) s.heap (isInstance (.ref x) (.type "object")) true:=I.type.andThen (looks_mroIn X c.mo)
 refine codeAny_call_builtin SF.slot.plain SF.entry
   (@check_slot (model prog w) _ _ s "object.__setattr__" "object" "__setattr__" (.ref x) [.str name tk,v] [] _ SF.kind SF.split sub (SF.args (.ref x) (.str name tk) v) ?_)
 have lm:Looks (model prog w) s.heap (mroOf (.ref C)) cd.mro:=(looks_clsIn X hc).andThen .now
 rw[osa_eq,refuse_eq]
 refine wpAny_bind (wpAny_bind (I.type.here (wpAny_bind (lm.here ?_))))
 rw[hm,refuseLoop_ref,W7 _ hb]
 refine wpAny_pure (wpAny_bind (I.type.here (wpAny_bind ((looks_findIn X ht).here ?_))))
 exact wpAny_bind (wpAny_pure (h _))
theorem UR {Q:Unit->Shared->Prop} (X:K.In s.heap) (hx:s.heap.get? x=some ox) (hc:ox.cls=.ref C) (hdc:ox.dict=none) (hda:∃fl,ox.data=.fields fl) (c:Ze K C bm) (hb:Wm bm) (ht:findIn K (.ref C) name=some none)
   (h:∀h' tk,h'.get? x=some {ox with dict:=some s.heap.objs.size}->h'.Ns1 s.heap.objs.size (λy=>if y=name then some v else none)->
     (∀b o,b≠x->s.heap.get? b=some o->h'.get? b=some o)->Q () {s with heap:=h',toks:=tk}):
   wpAny (model prog w) A (setAttr (.ref x) name v) Q E s:=by
 obtain⟨fl,hfl⟩:=hda
 obtain⟨oc,odi,oda,osl⟩:=ox
 dsimp only at hc hdc hfl
 subst hc hdc hfl
 have I:InstAt s.heap x ⟨.ref C,none,.fields fl,osl⟩ C none:=⟨hx,rfl,rfl,trivial⟩
 refine set_plain X I c.sa (ym (s:={s with toks:=s.toks+1}) X I c hb ht λb=>?_)
 obtain⟨cd,hcd,hdd⟩:=any_some c.hd
 refine wpAny_bind (wpAny_pure (wpAny_bind (wpAny_bind (wpAny_loadPart hx (wpAny_bind (Looks.here (s:={s with toks:=s.toks+1}) (looks_clsIn X hcd) ?_))))))
 rw[hdd]
 have hne:x≠s.heap.objs.size:=Nat.ne_of_lt (Heap.lt_size hx)
 have h1:=Heap.get?_push_of_some PySem.W.emptyDict hx
 refine wpAny_bind (wpAny_alloc (wpAny_bind (wpAny_update h1 ?_)))
 generalize hh2:(s.heap.push emptyDict).update x (λo=>{o with dict:=some s.heap.objs.size})=h2
 have e2:h2.get? x=some ⟨.ref C,some s.heap.objs.size,.fields fl,osl⟩:=by rw[<-hh2];exact Heap.get?_update_self _ h1 rfl
 have k2:∀b o,b≠x->(s.heap.push emptyDict).get? b=some o->h2.get? b=some o:=λb o hb e=>by rw[<-hh2,Heap.get?_update_other _ _ (Ne.symm hb)];exact e
 have n0:(s.heap.push emptyDict).Ns s.heap.objs.size (λ_=>none):=⟨emptyDict,#[],_,Heap.get?_push_size s.heap rfl,rfl,(λe he=>absurd he (by simp)),λ_=>rfl⟩
 have n2:h2.Ns1 s.heap.objs.size (λ_=>none):=(Heap.Ns1.of_empty n0).at λo q=>k2 _ o (Ne.symm hne) q
 refine wpAny_pure (a:=some s.heap.objs.size) (wpAny_bind (wpAny_pure (wpAny_bind ?_)))
 refine wpAny_nsSet1 (s:={s with heap:=h2,toks:=s.toks+1}) n2 λh' hn2 hs2=>?_
 obtain⟨oD,esD,epD,hoD,hdD,hcD⟩:=hn2.count (PySem.Within.cons name v PySem.Within.nil)
 refine wpAny_bind (wpAny_lookBehind hoD (by rw[hdD];exact pastItsLine_dict (Nat.le_trans hcD (by show 1<=sizeLine+1;decide))) ?_)
 refine wpAny_pure (h h' (s.toks+1+1) ((hs2.2 x hne).trans e2) hn2 λb o hb e=>?_)
 exact(hs2.2 b (Nat.ne_of_lt (Heap.lt_size e))).trans (k2 b o hb (Heap.get?_push_of_some _ e))
theorem Vm {fill expr:Bool} {tk:Tok} {Q:Value->Shared->Prop} (X:K.In s.heap) (I:InstAt s.heap x ox C od) (c:Ze K C bm)
   (h:wpAny (model prog w) A.in1 (Builtin.«object.__getattribute__» ⟨[.ref x,.str name tk],[]⟩) (λfin s'=>match fin with | .done (.ret u)=>handedIn u=true/\Q u s' | _=>False) (λ_ _=>False) s):
   wpAny (model prog w) A (getAttrBy (.ref x) (.str name tk) fill expr) Q E s:=by
 have ga:=PySem.F.attr_ValueError.ga
 have L1:=looks_findIn (M:=model prog w) X c.ga
 have L2:=looks_findIn (M:=model prog w) X c.gt
 have hk:builtinKind "BaseException.__getattribute__"=some .slot:=by decide+kernel
 have hs:splitId "BaseException.__getattribute__"=some ("BaseException","__getattribute__"):=by decide+kernel
 have sub:Looks (model prog w) s.heap (isInstance (.ref x) (.type "BaseException")) true:=I.type.andThen (looks_mroIn X c.mb)
 unfold getAttrBy
 refine wpAny_holding (wpAny_bind (I.type.here (wpAny_bind (L1.here ?_))))
 dsimp only
 have eb:(Value.builtin "BaseException.__getattribute__"==Value.builtin "object.__getattribute__")=false:=by decide+kernel
 rw[if_neg (by rw[eb,Bool.and_false];decide)]
 unfold getAttrByItsOwn
 refine wpAny_bind (show wpAny _ _ (hookBefore (.ref C)) _ _ _ from L2.here ?_)
 refine wpAny_bind (wpAny_attempt (wpAny_holding ?_))
 unfold callGetattribute
 have e0:(expr&&onTheHeap (Value.builtin "BaseException.__getattribute__"))=false:=by cases expr<;>rfl
 rw[if_neg (by rw[e0];decide)]
 unfold boundAndCalled
 rw[ga.bind]
 refine wpAny_bind (wpAny_pure ?_)
 refine wpAny_call (codeAny_call_builtin ga.plain PySem.F.entry_bexc_ga
   (@check_slot (model prog w) _ _ s "BaseException.__getattribute__" "BaseException" "__getattribute__" (.ref x) [.str name tk] [] _ hk hs sub (PySem.F.args_bexc_ga _ _) ?_))
 refine wpAny_mono h (λfin s' z=>?_) λ_ _ z=>z.elim
 cases fin with
 | again c'=>exact z.elim
 | done f=>
   cases f with
   | next=>exact z.elim
   | brk=>exact z.elim
   | cont=>exact z.elim
   | ret u=>
     obtain⟨hh,q⟩:=z
     show wpAny _ _ (handedOut u) _ _ _
     rw[handedOut_of hh]
     exact wpAny_pure q
theorem yT {expr:Bool} {Q:Value->Shared->Prop} {odd:Obj} (X:K.In s.heap) (I:InstAt s.heap x ox C (some odd)) (c:Ze K C bm) (ha:findIn K (.ref C) name=some none) (hl:lookIn name odd=some (some v)) (hv:handedIn v=true)
   (h:Q v {s with toks:=s.toks+1}):wpAny (model prog w) A (getAttr (.ref x) name expr) Q E s:=by
 have hf:findObj K C (some odd) name=some (.value v):=findObj_own c.hd ha rfl hl
 have LF:=looks_find (M:=model prog w) X I hf
 unfold getAttr
 refine wpAny_bind (wpAny_mkText (Vm (s:={s with toks:=s.toks+1}) X I c ?_))
 unfold Builtin.«object.__getattribute__»
 refine wpAny_bind (wpAny_pure (wpAny_bind (wpAny_pure (wpAny_bind (Looks.here (s:={s with toks:=s.toks+1}) I.type (wpAny_bind (Looks.here (s:={s with toks:=s.toks+1}) LF ?_)))))))
 exact wpAny_pure ⟨hv,h⟩
end
end L2
namespace L2
open PySem PySem.W PyProof.Rows Builtin Builtin.ObjectAttr
section
variable {K:Frag} {x C:Addr} {ox odd:Obj} {bm:List Value}
theorem XA (c:Ze K C bm) (hn:specialIn K (.builtin "object.__class__") "__get__"=some (some (.builtin "getset_descriptor.__get__"))) (htk:takesIn K (.builtin "object.__class__")=some true):
   KitX K (.ref x) (.ref C) (λh=>InstAt h x ox C (some odd)) where
 ty:=λ_ _ _ I=>I.type
 it:=λ_ _ X _=>by
   obtain⟨cd,hcd,_⟩:=any_some c.hd
   unfold clsIn at hcd
   split at hcd
   . rename_i _ _ _ _ ho
     intro A' Q' E' s' k q
     unfold isType loadHead
     exact wpAny_bind (wpAny_loadPart (k _ _ (X _ _ ho)) (wpAny_pure q))
   . cases hcd
 ne:=λh tp dd its n sl X htp=>by
   obtain⟨cd,hcd,_⟩:=any_some c.hd
   refine Bool.eq_false_iff.mpr λq=>?_
   have e:C=tp:=Value.ref.inj (beq_iff_eq.mp q)
   subst e
   unfold clsIn at hcd
   split at hcd
   . rename_i _ _ _ _ ho
     have z:=(X _ _ ho).symm.trans htp
     cases z
   . cases hcd
 ca:=λ{prog w A E Q s} X I k=>by
   have hf:findObj K C (some odd) "__class__"=some (.bind (.builtin "getset_descriptor.__get__") (.builtin "object.__class__")):=
     findObj_data (by obtain⟨cd,hc,_⟩:=any_some c.hd;rw[hc];rfl) c.cl hn htk
   have LF:=looks_find (M:=model prog w) X I hf
   unfold getAttr? getAttrBy?
   refine wpAny_bind (wpAny_mkText (wpAny_bind (wpAny_attempt (Vm (s:={s with toks:=s.toks+1}) X I c ?_))))
   unfold Builtin.«object.__getattribute__»
   refine wpAny_bind (wpAny_pure (wpAny_bind (wpAny_pure (wpAny_bind (Looks.here (s:={s with toks:=s.toks+1}) I.type (wpAny_bind (Looks.here (s:={s with toks:=s.toks+1}) LF ?_)))))))
   dsimp only
   unfold bindTo
   dsimp only
   refine wpAny_bind (wpAny_holding (wpAny_call (class_get (s:={s with toks:=s.toks+1}) X I c.mo ?_)))
   exact wpAny_pure ⟨rfl,wpAny_pure k⟩
end
end L2
set_option Elab.async false
set_option linter.all false
set_option maxRecDepth 100000
set_option maxHeartbeats 4000000
namespace L2
open PySem PySem.Spec PyProof.Rows
def J8 (e C:Addr):HO:=.ext λh=>∃fl,h.get? e=some {cls:=.ref C,data:=.fields fl}/\fl[1]?=some Value.none
def jD (e C dx:Addr) (hd:Value):HO:=.ext λh=>∃fl,h.get? e=some {cls:=.ref C,dict:=some dx,data:=.fields fl}/\fl[1]?=some hd
abbrev QL (e C dx:Addr):HO:=jD e C dx .none
def j4:List Value:=[.type "ValueError",.type "Exception",.type "BaseException",.type "object"]
structure um (K:PySem.W.Frag) (C f:Addr) (bm:List Value):Prop where
 obj:∃nm q N bs hdct sn sub ab col dd k0 k1 k2 k3 k5,K.lookup C=some (excClassObj nm q C N bs bm hdct sn sub ab col dd k0 k1 k2 k3 k5 "ValueError.__new__")
 tail:∀h:Heap,K.In h->OwnTail h j4 bm
 init:PySem.W.findIn K (.ref C) "__init__"=some (some (.ref f))
 fn:PySem.W.isFn K (.ref f)=true
 kp:PySem.W.keepIn K (.ref C)=true
section
variable {P:Program} {w:World} {H:Hp} {h h':Heap} {e C dx:Addr}
theorem yW (he:∃fl,h.get? e=some {cls:=.ref C,data:=.fields fl}/\fl[1]?=some Value.none):qC P w H h e (J8 e C):=by
 obtain⟨fl,q,z⟩:=he
 exact⟨⟨fl,q,z⟩,⟨_,q⟩,λh1 h2 ⟨fl',q',z'⟩ k=>⟨fl',k _ q',z'⟩⟩
theorem Jk {hd:Value} (he:∃fl,h.get? e=some {cls:=.ref C,dict:=some dx,data:=.fields fl}/\fl[1]?=some hd):qC P w H h e (jD e C dx hd):=by
 obtain⟨fl,q,z⟩:=he
 exact⟨⟨fl,q,z⟩,⟨_,q⟩,λh1 h2 ⟨fl',q',z'⟩ k=>⟨fl',k _ q',z'⟩⟩
end
section
variable {X:Cx} {pins:List (Addr×Obj)} {σ:St} {H:Hp} {s:Shared} {e C dx:Addr} {f:Str} {bm:List Value} {y v:V} {u:Value} {A:Around} {E:Value->Shared->Prop}
theorem qw.excSet {h':Heap} {t':Nat} {fs:List (Str×V)} (I:qw X pins σ H s) (hH:H e=some (J8 e C)) (hd:s.heap.objs.size<=dx)
   (h1:∃fl,h'.get? e=some {cls:=.ref C,dict:=some dx,data:=.fields fl}/\fl[1]?=some Value.none) (h2:∃mA,h'.Ns1 dx mA/\∀f,Q4 (fs.lookup f) (mA f))
   (k:∀b o,b≠e->s.heap.get? b=some o->h'.get? b=some o):qw X pins σ (upd (upd H e (QL e C dx)) dx (.xd fs)) {s with heap:=h',toks:=t'}:=by
 have mu:wV (H e):=by rw[hH];exact trivial
 have heo:∃u,h'.get? e=some u:=let ⟨_,q,_⟩:=h1;⟨_,q⟩
 have hn:H dx=none:=I.hok.fresh hd
 have ne:dx≠e:=λz=>by rw[z,hH]at hn;cases hn
 have U:Un X.fs [] H (upd H e (QL e C dx)) s.heap h':=Un.write mu (.inl rfl) k heo
 have W:QZ X.prog X.w (upd H e (QL e C dx)) h':=I.hok.write mu (.inl rfl) k heo (Jk h1)
 have hn2:(upd H e (QL e C dx)) dx=none:=by rw[qf ne];exact hn
 have nb:∀b o,s.heap.get? b=some o->b≠dx:=λb o q=>Nat.ne_of_lt (Nat.lt_of_lt_of_le (Heap.lt_size q) hd)
 refine I.un ⟨U.keep,U.slot,λb o q n hx=>?_,U.there,λb xs q=>?_,λb o z q=>?_,λb ps q=>?_⟩ λb o q=>?_
 . rw[qf (nb b o q)];exact U.free b o q n hx
 . have:=U.tups b xs q
   rw[qf (ql this hn2)];exact this
 . have:=U.frzs b o z q
   rw[qf (ql this hn2)];exact this
 . obtain⟨m,q'⟩:=U.tbls b ps q
   exact⟨m,by rw[qf (ql q' hn2)];exact q'⟩
 . by_cases hb:b=dx
   . subst hb
     rw[qd]at q
     cases q
     exact h2
   . rw[qf hb]at q
     exact(W b o q).stay (λ_ _ _ z=>z) (λc z=>by rw[qf (ql z hn2)];exact z) λc xs z=>by rw[qf (ql z hn2)];exact z
theorem VI {Q:Unit->Shared->Prop} (I:qw X pins σ H s) (hH:H e=some (J8 e C)) (c:Ze X.K C bm) (hb:Wm bm) (n:j9 X.K C f) (ry:qO y u)
   (h:∀dx s',H dx=none->qw X pins σ (upd (upd H e (QL e C dx)) dx (.xd [(f,y)])) s'->Q () s'):wpAny (model X.prog X.w) A (setAttr (.ref e) f u) Q E s:=by
 obtain⟨⟨fl,he,hz⟩,_,_⟩:=(show qC X.prog X.w H s.heap e (J8 e C) from I.hok e _ hH)
 refine UR I.kIn he rfl rfl ⟨fl,rfl⟩ c hb n λh' tk e1 e2 e3=>?_
 refine h s.heap.objs.size _ (I.hok.fresh (Nat.le_refl _)) (I.excSet hH (Nat.le_refl _) ⟨fl,e1,hz⟩ ⟨_,e2,λg=>?_⟩ e3)
 by_cases hg:g=f
 . subst hg
   rw[List.lookup_cons]
   simp only[beq_self_eq_true,if_true]
   exact ry
 . have hb':(g==f)=false:=beq_eq_false_iff_ne.mpr hg
   rw[List.lookup_cons]
   simp only[hb',hg,if_false]
   exact trivial
theorem Ui {b:Bool} {Q:Value->Shared->Prop} {fs:List (Str×V)} {hd:Value} (I:qw X pins σ H s) (hH:H e=some (jD e C dx hd)) (hx:H dx=some (.xd fs)) (c:Ze X.K C bm) (n:j9 X.K C f) (l:fs.lookup f=some v)
   (h:∀u s',qw X pins σ H s'->qO v u->Q u s'):wpAny (model X.prog X.w) A (getAttr (.ref e) f b) Q E s:=by
 obtain⟨⟨fl,he,_⟩,_,_⟩:=(show qC X.prog X.w H s.heap e (jD e C dx hd) from I.hok e _ hH)
 obtain⟨mA,hn,hr⟩:=(show qC X.prog X.w H s.heap dx (.xd fs) from I.hok dx _ hx)
 obtain⟨od,ho,hl⟩:=Jg hn
 have r:=hr f
 rw[l]at r
 obtain⟨u,eu,ru⟩:=Q4.some_of r
 exact yT I.kIn ⟨he,rfl,rfl,ho⟩ c n (by rw[hl,eu]) (Yk ru) (h u _ (I.tok _) ru)
theorem vW {cV:Value} {b:Bool} {Q:Value->Shared->Prop} {fs:List (Str×V)} {hd:Value} (I:qw X pins σ H s) (hH:H e=some (jD e C dx hd)) (hx:H dx=some (.xd fs)) (c:Ze X.K C bm)
   (hn:PySem.W.specialIn X.K (.builtin "object.__class__") "__get__"=some (some (.builtin "getset_descriptor.__get__"))) (htk:PySem.W.takesIn X.K (.builtin "object.__class__")=some true)
   (ek:PySem.W.kitOne X.K (.ref C) cV=some b) (h:∀tk,Q (.bool b) {s with toks:=tk}):wpAny (model X.prog X.w) A (call (.builtin "isinstance") [.ref e,cV]) Q E s:=by
 obtain⟨⟨fl,he,_⟩,_,_⟩:=(show qC X.prog X.w H s.heap e (jD e C dx hd) from I.hok e _ hH)
 obtain⟨mA,hns,hr⟩:=(show qC X.prog X.w H s.heap dx (.xd fs) from I.hok dx _ hx)
 obtain⟨od,ho,hl⟩:=Jg hns
 exact PySem.W.kia_one (XA (ox:={cls:=.ref C,dict:=some dx,data:=.fields fl}) (odd:=od) c hn htk) I.kIn ⟨he,rfl,rfl,ho⟩ ek (λz=>nomatch z) h
end
end L2
namespace L2
open PySem PySem.Spec PyProof.Rows
def Ga (K:PySem.W.Frag) (bm:List Value) (ta tv:TE) (f:Str):TS:=λD σ H=>tv σ H λy H1=>ta σ H1 λx H2=>∃a C,x=.ref a/\H2 a=some (J8 a C)/\Ze K C bm/\Wm bm/\j9 K C f/\
 ∀dx,H2 dx=none->D.nx σ (upd (upd H2 a (QL a C dx)) dx (.xd [(f,y)]))
section
variable {X:Cx} {CX:Yv} {k:Nat} {C fI:Addr} {fd:FuncData} {ps:List Str} {sp:Sp} {E:XK} {x f:Str} {o e value:Expr} {es:List Expr} {p pos pos':Pos} {ta tv:TE} {t:TA} {bm:List Value}
theorem vO (ha:JE X o ta) (hv:JE X value tv) (hs:swapsWith value (some (.Attribute o f pos')) pos.line X.env=pure false):JS X (.Assign [.Attribute o f pos'] value pos) (Ga X.K bm ta tv f):=.of (by
 have ha:=ha.to
 have hv:=hv.to
 intro pins s σ H D I h
 refine plainObj_wpAny_Assign_Attribute (jk (hv pins s σ H _ I h) λu s1 ⟨y,H1,I1,ry,q⟩=>
   jk (ha pins s1 σ H1 _ I1 q) λov s2 ⟨x,H2,I2,rx,a,C,ex,ea,c,hb,n,q2⟩=>?_) hs
 subst ex
 obtain rfl:ov=Value.ref a:=rx
 exact VI I2 ea c hb n ry λdx s3 hdx I3=>⟨σ,_,I3,q2 dx hdx⟩)
theorem VO {pins:List (Addr×Obj)} {σ:St} {H:Hp} {s:Shared} {Q:VK} {us:List Value} {vs:List V} (M:um X.K C fI bm) (F:qu X.prog X.w X.K X.mg X.base CX k fI fd ps sp) (hr:qW (k+1) X.A) (hb:jG X.K fd ps [])
   (hx:jP CX X E) (I:qw X pins σ H s) (r:qD vs us) (hz:us.length<=sizeLine)
   (h:∀x,H x=none->sp (.ref x::vs) (upd H x (J8 x C)) (λv H2=>v=.non/\Q (.ref x) H2) E):
   wpAny (model X.prog X.w) X.A (call (.ref C) us) (EP X pins σ Q) X.xe s:=by
 obtain⟨nm,q,N,bs,hdct,sn,sub,ab,col,dd,k0,k1,k2,k3,k5,hC⟩:=M.obj
 have hfn:PySem.W.typeIn X.K (.ref fI)=some (.type "function"):=beq_iff_eq.mp M.fn
 obtain⟨oI,ho,hoc⟩:=Option.map_eq_some_iff.mp hfn
 have KX:=I.kIn
 obtain⟨hp,g,d,tk,os⟩:=s
 refine Uu PySem.F.excBase_ValueError (by decide+kernel) PySem.F.excBase_ValueError (M.tail _ KX) (KX _ _ hC) (PySem.W.looks_findIn KX M.init) (KX _ _ ho) hoc (λh' ex hle hm=>?_) hz
 obtain⟨t0,ht,_,_⟩:=hm.there
 have I2:qw X pins σ (upd H ex (J8 ex C)) ⟨h',g,d,tk,os⟩:=I.laid (t':=tk) hm.keeps hle (yW ⟨_,ht,rfl⟩)
 have hq:=h ex (I.hok.fresh hle)
 have r2:qD (V.ref ex::vs) (Value.ref ex::us):=.cons rfl r
 have hl:(Value.ref ex::us++[]).length=ps.length:=by
   have e:=r2.length
   rw[F.len _ _ _ _ hq]at e
   rw[List.append_nil]
   exact e.symm
 have bb:=hb ⟨h',g,d,tk,os⟩ (Value.ref ex::us) I2.kIn hl
 rw[List.append_nil]at bb
 refine wpAny_call (codeAny_mono (F.run _ X.stack _ _ ⟨Value.ref ex::us,[]⟩ (Value.ref ex::us) _ _ E (hr.make C us []) (I2.env0.make C us []) bb r2 hq) λr s' hq'=>?_)
 cases r with
 | error z=>exact hx pins σ _ _ z s' I2 hq'
 | ok fl=>
   cases fl with
   | ret u=>
     obtain⟨v,H',I3,rv,ev,q3⟩:=I2.after hq'
     subst ev
     exact⟨rv,⟨V.ref ex,H',I3,rfl,q3⟩⟩
   | next=>exact False.elim hq'
   | brk=>exact False.elim hq'
   | cont=>exact False.elim hq'
theorem J6 (M:um X.K C fI bm) (F:qu X.prog X.w X.K X.mg X.base CX k fI fd ps sp) (hr:qW (k+1) X.A) (hg:Gl X x) (hm:X.mg x=some (.ref C)) (hb:jG X.K fd ps []) (hx:jP CX X E) (ha:JA X (e::es) t) (hz:(e::es).length<=1000:=by decide) (hv:∀vs us,qD vs us->vs.length<=sizeLine->us.length<=sizeLine:=by intro vs us r h;rw[<-r.length];exact h) (hdb:(x==("__debug__":Str))=false:=by decide) (he:starEach (e::es) X.env=(false,eval e X.env)::starEach es X.env:=by rfl) (hpl:(backTo pos (starEach es X.env)).any (·.1)=false:=by rfl):JE X (.Call (.Name x p) (e::es) [] pos) (λσ H Q=>t σ H λvs H1=>vs.length<=sizeLine/\∀x,H1 x=none->sp (.ref x::vs) (upd H1 x (J8 x C)) (λv H2=>v=.non/\Q (.ref x) H2) E):=.of (by
 have ha:=ha.to
 intro pins s σ H Q I h
 refine wpAny_Call_Name_kw (J2 I hg hm ?_ hdb)
 refine PySem.W.callWith_K (h₀:=X.base) I.ok.mod.kin M.kp (jk (ha pos pins s σ H _ I h) λus s1 ⟨vs,H1,I1,r,q⟩=>⟨I1.kIn,?_⟩) he hpl
 exact VO M F hr hb hx I1 r (hv vs us r q.1) q.2)
end
end L2
set_option Elab.async false
set_option linter.all false
set_option maxRecDepth 100000
set_option maxHeartbeats 4000000
namespace L2
open PySem PySem.Spec PyProof.Rows
def neL (xs ys:List V):Bool:=if xs.length=ys.length then !((List.range xs.length).all λj=>yX (xs.getD j .non) (ys.getD j .non)) else true
mutual
inductive DV (K:PySem.W.Frag) (H:Hp):V->PyData->Prop
 | non:DV K H .non .none
 | bl (b:Bool):DV K H (.bl b) (.bool b)
 | int (i:Int):DV K H (.int i) (.int i)
 | str (x:Str):DV K H (.str x) (.str x)
 | lst {a:Addr} {xs:List V} {ds:List PyData}:SqL K H a xs->DVs K H xs ds->DV K H (.ref a) (.list ds)
 | tup {a:Addr} {xs:List V} {ds:List PyData}:Zc K H a xs->DVs K H xs ds->DV K H (.ref a) (.tuple ds)
inductive DVs (K:PySem.W.Frag) (H:Hp):List V->List PyData->Prop
 | nil:DVs K H [] []
 | cons {x:V} {xs:List V} {d:PyData} {ds:List PyData}:DV K H x d->DVs K H xs ds->DVs K H (x::xs) (d::ds)
end
section
variable {X:Cx} {pins:List (Addr×Obj)} {σ:St} {H:Hp} {s:Shared}
mutual
theorem DV.reads (I:qw X pins σ H s):∀{x:V} {d:PyData},DV X.K H x d->∀{u:Value},qO x u->∃as,Reads s.heap u d as
 | _,_,.non,u,r=>by cases (show u=Value.none from r);exact⟨_,.none⟩
 | _,_,.bl b,u,r=>by cases (show u=Value.bool b from r);exact⟨_,.bool b⟩
 | _,_,.int i,u,r=>by obtain⟨t,q⟩:=(show ∃t,u=Value.int i t from r);subst q;exact⟨_,.int i t⟩
 | _,_,.str x,u,r=>by obtain⟨t,q⟩:=(show ∃t,u=Value.str x t from r);subst q;exact⟨_,.str x t⟩
 | _,_,.lst (a:=a) hq hs,u,r=>by
   cases (show u=Value.ref a from r)
   obtain⟨its,rv,⟨o,n,e,hc,hd,hda⟩,hz⟩:=I.list hq
   obtain⟨as,ra⟩:=DVs.reads I hs rv
   exact⟨_,.list e hc hda (by simpa using ra)⟩
 | _,_,.tup (a:=a) hq hs,u,r=>by
   cases (show u=Value.ref a from r)
   obtain⟨its,rv,⟨o,e,hc,n,hda⟩,hz⟩:=I.tuple hq
   obtain⟨as,ra⟩:=DVs.reads I hs rv
   exact⟨_,.tuple e hc hda (by simpa using ra)⟩
theorem DVs.reads (I:qw X pins σ H s):∀{xs:List V} {ds:List PyData},DVs X.K H xs ds->∀{us:List Value},qD xs us->∃as,ReadsAll s.heap us ds as
 | _,_,.nil,_,.nil=>⟨_,.nil⟩
 | _,_,.cons h hs,_,.cons r rs=>by
   obtain⟨as,a⟩:=DV.reads I h r
   obtain⟨bs,b⟩:=DVs.reads I hs rs
   exact⟨_,.cons a b⟩
end
end
end L2
namespace L2
open PySem PySem.Spec PyProof.Rows
end L2
set_option Elab.async false
set_option linter.all false
set_option maxRecDepth 100000
set_option maxHeartbeats 4000000
namespace L2
open PySem PySem.Spec PyProof.Rows
section
variable {X:Cx}
def uR (K:PySem.W.Frag) (k:Bool):R2:=λx y H Q=>∃d,DV K H x d/\DV K H y d/\PySem.SeqAt.shaped d=true/\Q (.bl k) H
theorem JB {d:PyData} (h:PySem.SeqAt.shaped d=true):PyData.eqv d d=true:=PySem.SeqAt.eqv_refl d (PySem.SeqAt.canLay_of_shaped h)
theorem wg (hu:X.A.units+64 < cLine):Zd X (compareOp .Eq) (uR X.K true):=by
 intro pins s σ H x y v u Q I rx ry h
 obtain⟨d,h1,h2,hs,q⟩:=h
 obtain⟨as,ra⟩:=h1.reads I rx
 obtain⟨bs,rb⟩:=h2.reads I ry
 refine eq_dataH ra rb hs hs hu ?_
 rw[JB hs]
 exact⟨.bl true,H,I,rfl,q⟩
theorem Wo (hu:X.A.units+64 < cLine):Zd X (compareOp .NotEq) (uR X.K false):=by
 intro pins s σ H x y v u Q I rx ry h
 obtain⟨d,h1,h2,hs,q⟩:=h
 obtain⟨as,ra⟩:=h1.reads I rx
 obtain⟨bs,rb⟩:=h2.reads I ry
 refine ne_dataH ra rb hs hs hu ?_
 rw[JB hs]
 exact⟨.bl false,H,I,rfl,q⟩
def KI (i j:Int):Prop:=0 < j/\j.natAbs < 2^200
theorem Xr:Zd X (binaryOp .FloorDiv) (rI KI λi j=>.int (i / j)):=uZ λi j _ _ _ _ _ hc q=>by
 have h1:(0:Int) < j:=hc.1
 have h3:j.natAbs.log2 < 200:=(Nat.log2_lt (by omega)).mpr hc.2
 exact floordiv_int (by omega) (by rw[Int.fdiv_eq_ediv_of_nonneg i (by omega)];exact q) (.inl (PyProof.noPylong_of_log2 (Nat.lt_trans h3 (by decide))))
end
section
variable {X:Cx} {tg:Expr}
end
section
variable {X:Cx} {st:Stmt} {rest:List Stmt} {t u:TS}
def KY (t u:TS):TS:=λD σ H=>∃W:St->Hp->Prop,t {D with nx:=W} σ H/\∀σ' H',W σ' H'->u D σ' H'
theorem ZI (h1:JS X st t) (h2:zU X rest u):zU X (st::rest) (KY t u):=.of (by
 have h1:=h1.to
 have h2:=h2.to
 intro pins s σ H D I ⟨W,h,k⟩
 refine wpAny_execs_cons (jk (h1 pins s σ H {D with nx:=W} I h) λf s1 q=>?_)
 cases f with
 | next=>
   obtain⟨σ',H',I',q⟩:=q
   exact h2 pins s1 σ' H' D I' (k σ' H' q)
 | ret v=>exact q
 | brk=>exact q
 | cont=>exact q)
end
end L2
set_option Elab.async false
set_option linter.all false
set_option maxRecDepth 100000
set_option maxHeartbeats 4000000
namespace PySem
section
variable {prog:Program} {w:World} {A:Around} {E:Value->Shared->Prop} {s:Shared}
def Z8 (x n c:Int):Obj:={cls:=.type "range_iterator",data:=.fields #[rawInt x,rawInt n,rawInt c]}
theorem W4 (n:Nat):Builtin.Range.rangeSize 0 n 1=n:=by
 unfold Builtin.Range.rangeSize
 rw[if_pos (by decide)]
 split<;>omega
theorem zH {r:Addr} {a b c:Int} {t u v:Tok} {Q:Value->Shared->Prop} (hr:IsRange s.heap r a b c t u v)
   (hs:(Builtin.Range.rangeFitsLong a&&Builtin.Range.rangeFitsLong b&&Builtin.Range.rangeFitsLong c&&Builtin.Range.rangeFitsLong (-c)&&Builtin.Range.rangeFitsLong (a - c)&&Builtin.Range.rangeFitsLong (Builtin.Range.rangeSize a b c))=true)
   (h:Q (.ref s.heap.objs.size) {s with heap:=s.heap.push (Z8 (a+(Builtin.Range.rangeSize a b c - 1)*c) (Builtin.Range.rangeSize a b c) (-c))}):wpAny (model prog w) A (call (.builtin "range.__reversed__") [.ref r]) Q E s:=by
 have ty:s.TypeIs (.ref r) "range":=⟨_,hr,rfl⟩
 refine wpAny_call_entry F.slot_range_reversed ty F.entry_range_reversed ?_ (F.args_range_reversed_1 _)
 unfold Builtin.«range.__reversed__»
 refine wpAny_bind (wpAny_of_eq (a:=Value.ref r) rfl ?_)
 refine wpAny_bind ?_
 unfold Builtin.Range.rangeFields
 refine wpAny_bind (wpAny_field hr rfl (x:=.int a t) rfl ?_)
 refine wpAny_bind (m:=asInt? (.int a t)) (wpAny_pure ?_)
 refine wpAny_bind (wpAny_field hr rfl (x:=.int b u) rfl ?_)
 refine wpAny_bind (m:=asInt? (.int b u)) (wpAny_pure ?_)
 refine wpAny_bind (wpAny_field hr rfl (x:=.int c v) rfl ?_)
 refine wpAny_bind (m:=asInt? (.int c v)) (wpAny_pure ?_)
 refine wpAny_pure ?_
 dsimp only
 rw[hs]
 simp only[Bool.not_true,Bool.false_eq_true,if_false,if_true]
 first
 | refine wpAny_bind (wpAny_newObj_type (wpAny_pure ⟨_,rfl,h⟩))
 | refine wpAny_bind (wpAny_pure (wpAny_bind (wpAny_newObj_type (wpAny_pure ⟨_,rfl,h⟩))))
theorem Jo {r:Addr} {n:Nat} {t u v:Tok} {Q:Value->Shared->Prop} (hr:IsRange s.heap r 0 n 1 t u v) (hn:n < 1048576)
   (h:Q (.ref s.heap.objs.size) {s with heap:=s.heap.push (Z8 ((n:Int) - 1) n (-1))}):wpAny (model prog w) A (call (.builtin "range.__reversed__") [.ref r]) Q E s:=by
 have f:∀x:Int,-2000000<=x->x<=2000000->Builtin.Range.rangeFitsLong x=true:=λx p q=>by
   unfold Builtin.Range.rangeFitsLong
   simp
   omega
 have e:=W4 n
 have hs:(Builtin.Range.rangeFitsLong 0&&Builtin.Range.rangeFitsLong (n:Int)&&Builtin.Range.rangeFitsLong 1&&Builtin.Range.rangeFitsLong (-1)&&Builtin.Range.rangeFitsLong (0 - 1)&&Builtin.Range.rangeFitsLong (Builtin.Range.rangeSize 0 n 1))=true:=by
   rw[e,f 0 (by omega) (by omega),f n (by omega) (by omega),f 1 (by omega) (by omega),f (-1) (by omega) (by omega),f (0 - 1) (by omega) (by omega)]
   rfl
 refine zH hr hs ?_
 have e2:(0:Int)+(Builtin.Range.rangeSize 0 n 1 - 1)*1=(n:Int) - 1:=by rw[e];omega
 rw[e2,e]
 exact h
end
end PySem
namespace PySem
section
variable {prog:Program} {w:World} {A:Around} {E:Value->Shared->Prop} {s:Shared}
theorem JD {r:Addr} {n:Nat} {t u v:Tok} {Q₁:Value->Shared->Prop} (hr:IsRange s.heap r 0 n 1 t u v) (hn:n < 1048576)
   (h:Q₁ (.ref s.heap.objs.size) {s with heap:=s.heap.push (Z8 ((n:Int) - 1) n (-1))}):
   codeAny (model prog w) A (.call (.builtin "reversed.__new__") ⟨[.type "reversed",.ref r],[]⟩) (wants Q₁ E) s:=by
 have ty:s.TypeIs (.ref r) "range":=⟨_,hr,rfl⟩
 have nn:¬((Value.builtin "range.__reversed__"==Value.none)=true):=Bool.false_ne_true
 refine codeAny_of_tree (show wpAny _ A.in1 (checkBuiltinCall "reversed.__new__" ⟨[.type "reversed",.ref r],[]⟩ >>= λ_=>again (.builtin "reversed.__new__" ⟨[.type "reversed",.ref r],[]⟩)) _ _ s from
   wpAny_bind (wpAny_of_eq (F.newCall_reversed_1 (.ref r)) (wpAny_pure ⟨plainId_quiet F.plain_reversed_new _,codeAny_builtin F.entry_reversed_new ?_⟩)))
 rw[Around.under_plainId F.plain_reversed_new _];unfold Builtin.«reversed.__new__»
 refine wpAny_bind (wpAny_of_eq (newClass_reversed (.ref r)) ?_);dsimp only
 refine wpAny_bind (wpAny_of_eq (a:=()) (by kernel_rfl) (wpAny_bind (wpAny_of_eq (a:=()) (by kernel_rfl) ?_)));try dsimp only
 refine wpAny_bind (wpAny_specialOf ty F.slot_range_reversed.lookup ?_);dsimp only
 refine wpAny_bind (wpAny_of_eq (F.slot_range_reversed.bind _) ?_);dsimp only
 rw[if_neg nn]
 refine wpAny_bind (wpAny_rule (wpAny_bind (m:=runValue (.call (.builtin "range.__reversed__") ⟨[.ref r],[]⟩)) (show wpAny _ _ (call (.builtin "range.__reversed__") [.ref r]) _ _ _ from Jo hr hn ?_)))
 first | exact wpAny_pure h | exact wpAny_bind (wpAny_pure (wpAny_pure h))
theorem ZA:isSubtype (.type "range_iterator") (.type "reversed")=pure false:=by rw[isSubtype_type];kernel_rfl
theorem Jn {r:Addr} {n:Nat} {t u v:Tok} {Q:Value->Shared->Prop} (hr:IsRange s.heap r 0 n 1 t u v) (hn:n < 1048576)
   (h:Q (.ref s.heap.objs.size) {s with heap:=s.heap.push (Z8 ((n:Int) - 1) n (-1))}):wpAny (model prog w) A (call (.type "reversed") [.ref r]) Q E s:=by
 refine callType_other (U:="range_iterator") (Q₁:=λobj s₁=>obj=.ref s.heap.objs.size/\s₁={s with heap:=s.heap.push (Z8 ((n:Int) - 1) n (-1))}) (by decide+kernel) F.create_reversed ⟨_,_,F.mro_reversed⟩ F.made_reversed ZA (F.typeCall_reversed_1 _) (JD hr hn ⟨rfl,rfl⟩) ?_
 rintro obj s₁ ⟨rfl,rfl⟩
 exact⟨⟨_,Heap.get?_push_size _ rfl,rfl⟩,h⟩
theorem YZ {I:Addr} {x left c:Int} {Q:Value->Shared->Prop} (hit:IsRangeIter s.heap I x left c) (h:Q (.int left s.toks) {s with toks:=s.toks+1}):
   wpAny (model prog w) A (call (.builtin "range_iterator.__length_hint__") [.ref I]) Q E s:=by
 have hT:s.TypeIs (.ref I) "range_iterator":=⟨_,hit,rfl⟩
 refine wpAny_call_entry F.slot_range_iterator_length_hint hT F.entry_range_iterator_length_hint ?_ (F.args_range_iterator_length_hint_1 _)
 unfold Builtin.«range_iterator.__length_hint__»
 refine wpAny_bind (wpAny_of_eq (a:=Value.ref I) rfl ?_)
 refine wpAny_bind (wpAny_field hit rfl (x:=rawInt left) rfl ?_)
 show wpAny _ _ (do ret (<-mkInt left)) _ _ _
 exact wpAny_ret_mkInt h
structure WK (P:Program) (w:World) (T:String) (I:Addr) (fp:List Addr) (n:Nat) (V:Nat->Value->Prop) (St:Nat->Heap->Prop):Prop where
 ty:∀z:Shared,St 0 z.heap->z.TypeIs (.ref I) T
 nl:(Value.type T==Value.type "list")=false
 nt:(Value.type T==Value.type "tuple")=false
 walk:∀B:Around,B.handled=none->Walks P w B I fp [I] n V St
 hint:∀(B:Around) (F:Value->Shared->Prop) (z:Shared) (R:Bool->Shared->Prop),St 0 z.heap->(∀k,R false {z with toks:=k})->wpAny (model P w) B (Builtin.List.listLengthHint (.ref I)) R F z
theorem WK.list {P:Program} {T:String} {I:Addr} {fp:List Addr} {n:Nat} {V:Nat->Value->Prop} {St:Nat->Heap->Prop} (J:WK P w T I fp n V St) {B:Around} {F':Value->Shared->Prop} {z:Shared} {R:Value->Shared->Prop}
   (hB:B.handled=none) (st:St 0 z.heap) (mem:I∈fp) (old:∀b∈fp,b < z.heap.objs.size) (hn:n<=1048576)
   (k:∀g tk xs c,(∀b o,b≠I->z.heap.get? b=some o->g.get? b=some o)->g.get? z.heap.objs.size=some (⟨.type "list",none,.seq xs c,#[]⟩:Obj)->ItemsOf V xs n->R (.ref z.heap.objs.size) {z with heap:=g,toks:=tk}):
   wpAny (model P w) B (call (.type "list") [.ref I]) R F' z:=by
 have nI:∀b∈fp,z.heap.objs.size≠b:=λb hb=>Nat.ne_of_gt (old b hb)
 have sI:Builtin.List.listSameRef (.ref z.heap.objs.size) (.ref I)=false:=by unfold Builtin.List.listSameRef;simp [nI I mem]
 refine callType_codes (Q₁:=λob z1=>z1={z with heap:=z.heap.push {cls:=.type "list",data:=.seq #[]}}/\ob=.ref z.heap.objs.size) F.called_list (F.typeCall_list_1 _) F.entry_list_init (code_list_new _ ⟨rfl,rfl⟩) ?_
 rintro ob z1 ⟨rfl,rfl⟩
 have a0:=Heap.get?_push_size z.heap (o:=({cls:=.type "list",data:=.seq #[]}:Obj)) rfl
 refine⟨⟨_,a0,rfl⟩,F.args_list_init_2 _ _,?_⟩
 show wpAny _ _ (Builtin.List.listItems (.ref _) >>= λys=>Builtin.List.listUpdate (.ref _) (λ_=>#[]) >>= λ_=>letGo ys.toList.reverse >>= λ_=>Builtin.List.listExtendWith (.ref _) (.ref I) .none) _ _ _
 refine wpAny_bind (show wpAny _ _ (Builtin.List.listItems (.ref _)) _ _ _ from ?_)
 unfold Builtin.List.listItems
 refine wpAny_bind (wpAny_seqItems a0 rfl (wpAny_pure (wpAny_bind ?_)))
 refine wpAny_updateSeq a0 rfl (wpAny_bind (wpAny_letGo ?_))
 have a1:=Heap.get?_update_self (Obj.mapSeq (λ_=>(#[]:Array Value))) a0 rfl
 have keep1:∀b o,z.heap.get? b=some o->((z.heap.push {cls:=.type "list",data:=.seq #[]}).update z.heap.objs.size (Obj.mapSeq (λ_=>(#[]:Array Value)))).get? b=some o:=λb o e=>
   (Heap.get?_update_other _ _ (Nat.ne_of_gt (Heap.lt_size e))).trans (Heap.get?_push_of_some _ e)
 generalize hg1:(z.heap.push {cls:=.type "list",data:=.seq #[]}).update z.heap.objs.size (Obj.mapSeq (λ_=>(#[]:Array Value)))=g1 at a1 keep1
 have st1:St 0 g1:=(J.walk B hB).frame 0 _ _ st λb _ o e=>keep1 b o e
 unfold Builtin.List.listExtendWith
 refine wpAny_bind (wpAny_typeOf (J.ty {z with heap:=g1} st1) ?_)
 simp only[sI,J.nl,J.nt,Bool.or_false,Bool.false_eq_true,if_false]
 refine wpAny_bind ((J.walk B.in1.in1 hB).self 0 {z with heap:=g1} _ _ st1 ?_)
 refine wpAny_bind (wpAny_holding (J.hint B.in1.in1 _ {z with heap:=g1} _ st1 λtk=>?_))
 have run:∀(g:Heap) (c tk:Nat),St 0 g->(∀b o,z.heap.get? b=some o->g.get? b=some o)->g.get? z.heap.objs.size=some {cls:=.type "list",data:=.seq #[] c}->
     codeAny (model P w) B.in1 (.builtin "list.extend.loop" ⟨[.ref z.heap.objs.size,.ref I,.none],[]⟩) (wants (λr z2=>r=.none/\R (.ref z.heap.objs.size) z2) F') {z with heap:=g,toks:=tk}:=λg c tk sg kg ag=>
   codeAny_extend_loopS (J.walk B.in1.in1 hB).toS (by rw[sizeLine_eq];omega) _ (λq=>nI _ q rfl) .none n 0 _ #[] c rfl (Nat.zero_le _) sg ag (ItemsOf.nil _) λz3 xs c3 mv a3 it=>by
     rw[Moved.eq_with mv]
     refine⟨rfl,k z3.heap z3.toks xs c3 (λb o hb e=>mv.heap b o (λq=>?_) (kg b o e)) a3 it⟩
     rcases List.mem_cons.mp q with q | q
     . exact absurd q (Nat.ne_of_lt (Heap.lt_size e))
     . exact hb (List.mem_singleton.mp q)
 refine wpAny_ite_split (λ_=>?_) (λ_=>wpAny_pure ⟨plainId_quiet F.plain_extend_loop _,run g1 _ tk st1 keep1 a1⟩)
 refine wpAny_bind (wpAny_rule (wpAny_bind (show wpAny _ _ (updateSeq z.heap.objs.size (·.push .none) >>= λ_=>updateSeq z.heap.objs.size (·.pop)) _ _ _ from wpAny_bind (wpAny_updateSeq a1 rfl ?_))))
 have a2:=Heap.get?_update_self (Obj.mapSeq (·.push Value.none)) a1 rfl
 refine wpAny_updateSeq (hz:=by seq_fits) a2 rfl ?_
 have keep3:∀b o,b≠z.heap.objs.size->g1.get? b=some o->((g1.update z.heap.objs.size (Obj.mapSeq (·.push Value.none))).update z.heap.objs.size (Obj.mapSeq (·.pop))).get? b=some o:=λb o hb e=>
   (Heap.get?_update_other _ _ (Ne.symm hb)).trans ((Heap.get?_update_other _ _ (Ne.symm hb)).trans e)
 exact wpAny_pure ⟨plainId_quiet F.plain_extend_loop _,run _ _ tk ((J.walk B hB).frame 0 _ _ st1 λb hb o e=>keep3 b o (λq=>nI b hb q.symm) e) (λb o e=>keep3 b o (Nat.ne_of_lt (Heap.lt_size e)) (keep1 b o e)) (Heap.get?_update_self (Obj.mapSeq (·.pop)) a2 rfl)⟩
theorem VJ {P:Program} {I:Addr} {x c:Int} {n:Nat} (hn:n<=1048576):WK P w "range_iterator" I [I] n (λi v=>∃t,v=.int (x+i*c) t) (λi h=>IsRangeIter h I (x+(i:Nat)*c) ((n:Int) - (i:Nat)) c) where
 ty:=λ_ st=>⟨_,st,rfl⟩
 nl:=by decide
 nt:=by decide
 walk:=λ_ hB=>Walks.range hB I x c n
 hint:=λB G z R st k=>by
   have st':IsRangeIter z.heap I x n c:=by
     have e1:x+((0:Nat):Int)*c=x:=by simp
     have e2:(n:Int) - ((0:Nat):Int)=n:=by simp
     rw[<-e1,<-e2]
     exact st
   have ty:z.TypeIs (.ref I) "range_iterator":=⟨_,st',rfl⟩
   have few:Builtin.List.listTooLong ((n:Int).toNat)=false:=by unfold Builtin.List.listTooLong;rw[Int.toNat_natCast];exact decide_eq_false (by rw[sizeLine_eq];omega)
   unfold Builtin.List.listLengthHint
   refine wpAny_bind (wpAny_specialOf ty F.nolen_ra ?_)
   refine(show wpAny _ B (specialOf (.ref I) (Str.ofString "__length_hint__") >>= _) _ _ _ from wpAny_bind (wpAny_specialOf ty F.hint_ra ?_))
   (generalize hq:("range_iterator.__length_hint__":String)=q0;(fail_if_success (clear hq q0));wp_delta;rw[show splitId q0=some ("range_iterator","__length_hint__") from by subst hq;decide+kernel];subst hq)
   refine wpAny_bind (wpAny_isInstance (b:=true) ty (by rw[isSubtype_type];kernel_rfl) ?_)
   refine(show wpAny _ B (call (.builtin "range_iterator.__length_hint__") [.ref I] >>= _) _ _ _ from wpAny_bind (YZ st' (wpAny_bind (m:=asInt? (.int (n:Int) _)) (wpAny_pure ?_))))
   dsimp only
   rw[if_neg (by rw[few];decide)]
   exact wpAny_pure (k _)
end
end PySem
namespace L2
open PySem PySem.Spec PyProof.Rows
def J9 (n:Nat):List Nat:=(List.range n).reverse
theorem VB {n:Nat} {acc:Array Value} (h:ItemsOf (λi v=>∃t,v=.int ((n:Int) - 1+i*(-1)) t) acc n):qD ((J9 n).map λi=>V.int (i:Nat)) acc.toList:=by
 obtain⟨hz,hv⟩:=h
 have key:∀(xs:List V) (us:List Value),xs.length=us.length->(∀(i:Nat) (x:V) (u:Value),xs[i]?=some x->us[i]?=some u->qO x u)->qD xs us:=by
   intro xs
   induction xs with
   | nil=>intro us hl _;cases us with | nil=>exact .nil | cons _ _=>cases hl
   | cons x xs ih=>
     intro us hl hp
     cases us with
     | nil=>cases hl
     | cons u us=>exact .cons (hp 0 x u rfl rfl) (ih us (by simpa using hl) λi y w h1 h2=>hp (i+1) y w (by simpa using h1) (by simpa using h2))
 refine key _ _ (by simp [J9,hz]) λi x u h1 h2=>?_
 have h2':acc[i]?=some u:=by simpa using h2
 obtain⟨t,rfl⟩:=hv i u h2'
 have hi:i < n:=by
   have:=(Array.getElem?_eq_some_iff.mp h2').1
   omega
 rw[List.getElem?_map,J9,List.getElem?_reverse (by simpa using hi),List.length_range,List.getElem?_range (by omega)]at h1
 simp at h1
 subst h1
 refine⟨t,?_⟩
 congr 1
 omega
section
variable {X:Cx} {e:Expr} {te:TE} {p1 p2 p3 pos1 pos2 pos3:Pos}
theorem UH {M:Model} {A:Around} {E:Value->Shared->Prop} {s:Shared} {env:Env} {e:Expr} {pos:Pos} {R:List Value->Shared->Prop} (hs:starEach [e] env=[(false,eval e env)]) (h:wpAny M A (eval e env) (λv s1=>R [v] s1) E s):
   wpAny M A (spliced (backTo pos (starEach [e] env))) R E s:=by
 rw[hs]
 show wpAny _ _ (spliced ((false,eval e env)::backTo pos [])) _ _ s
 exact Calls.spliced_cons (jk h λu s1 h1=>Calls.spliced_nil h1)
def K0 (te:TE):TE:=λσ H Q=>te σ H λx H1=>∃n:Nat,x=.int n/\n<=1000/\∀l,H1 l=none->Q (.ref l) (upd H1 l (.lst ((J9 n).map λi=>V.int (i:Nat))))
theorem wI (hc:X.calm=true) (g1:Gl X "list") (m1:X.mg "list"=none) (g2:Gl X "reversed") (m2:X.mg "reversed"=none) (g3:Gl X "range") (m3:X.mg "range"=none) (ha:JE X e te) (hs:starEach [e] X.env=[(false,eval e X.env)]:=by rfl) (hs2:starEach [.Call (.Name "range" p3) [e] [] pos3] X.env=[(false,eval (.Call (.Name "range" p3) [e] [] pos3) X.env)]:=by rfl) (hs3:starEach [.Call (.Name "reversed" p2) [.Call (.Name "range" p3) [e] [] pos3] [] pos2] X.env=[(false,eval (.Call (.Name "reversed" p2) [.Call (.Name "range" p3) [e] [] pos3] [] pos2) X.env)]:=by rfl):JE X (.Call (.Name "list" p1) [.Call (.Name "reversed" p2) [.Call (.Name "range" p3) [e] [] pos3] [] pos2] [] pos1) (K0 te):=.of (by
 have ha:=ha.to
 intro pins s σ H Q I h
 refine Call_ (QC I g1 m1 boot_list (PyProof.Rows.callWith_type1 (UH hs3 ?_) (by rw[hs3];rfl) rfl))
 refine Call_ (QC I g2 m2 boot_reversed (PyProof.Rows.callWith_type1 (UH hs2 ?_) (by rw[hs2];rfl) rfl))
 refine Call_ (QC I g3 m3 boot_range (PyProof.Rows.callWith_type1 (UH hs (jk (ha pins s σ H _ I h) λu s1 ⟨x,H1,I1,r1,q1⟩=>?_)) (by rw[hs];rfl) rfl))
 obtain⟨n,rfl,hn,q⟩:=q1
 obtain⟨t,rfl⟩:=r1
 refine call_range_1 ?_
 refine Jn (IsRange.new ..) (by omega) ?_
 refine(VJ (x:=(n:Int) - 1) (c:=-1) (n:=n) (by omega)).list (I1.ok.hd hc) (by
   have e1:(n:Int) - 1+((0:Nat):Int)*(-1)=(n:Int) - 1:=by simp
   have e2:(n:Int) - ((0:Nat):Int)=n:=by simp
   rw[e1,e2]
   exact Heap.get?_push_size _ rfl) (by simp) (λb hb=>by rw[List.mem_singleton.mp hb,Heap.size_push (_:Heap) (Z8 _ _ _)];exact Nat.lt_succ_self _) (by omega) λh' tk acc' c' kp e hi=>?_
 have kk:∀b o,s1.heap.get? b=some o->h'.get? b=some o:=λb o eb=>by
   refine kp b o (Nat.ne_of_lt ?_) (Heap.get?_push_of_some _ (Heap.get?_push_of_some _ eb))
   rw[Heap.size_push]
   exact Nat.lt_succ_of_lt (Heap.lt_size eb)
 have s1z:s1.heap.objs.size<=((s1.heap.push ({cls:=.type "range",data:=.fields #[.int 0 s1.toks,.int n t,.int 1 (s1.toks+1)]}:Obj)).push (Z8 ((n:Int) - 1) n (-1))).objs.size:=by
   rw[Heap.size_push,Heap.size_push]
   omega
 exact⟨.ref _,_,I1.laid (t':=tk) (o:=.lst ((J9 n).map λi=>V.int (i:Nat))) kk s1z ⟨by simp only[List.length_map,J9,List.length_reverse,List.length_range];exact Nat.le_of_lt (qo hn),acc'.toList,c',VB hi,by simpa using e⟩,rfl,q _ (I1.hok.fresh s1z)⟩)
end
end L2
set_option Elab.async false
set_option linter.all false
set_option maxRecDepth 100000
set_option maxHeartbeats 4000000
namespace PySem
namespace F
end F
end PySem
namespace L2
open PySem PySem.Spec PyProof.Rows
theorem VX:∀(xs:List V) (us:List Value),xs.length=us.length->(∀(i:Nat) (x:V) (u:Value),xs[i]?=some x->us[i]?=some u->qO x u)->qD xs us:=by
 intro xs
 induction xs with
 | nil=>intro us hl _;cases us with | nil=>exact .nil | cons _ _=>cases hl
 | cons x xs ih=>
   intro us hl hp
   cases us with
   | nil=>cases hl
   | cons u us=>exact .cons (hp 0 x u rfl rfl) (ih us (by simpa using hl) λi y w h1 h2=>hp (i+1) y w (by simpa using h1) (by simpa using h2))
section
variable {X:Cx} {e:Expr} {te:TE} {p1 p2 pos1 pos2:Pos}
end
end L2
set_option Elab.async false
set_option linter.all false
set_option maxRecDepth 100000
set_option maxHeartbeats 4000000
namespace L2
open PySem PySem.Spec PyProof.Rows
section
variable {X:Cx} {pins:List (Addr×Obj)} {σ:St} {H:Hp} {s:Shared} {h':Heap}
theorem qw.turnLaid {L:List Addr} {T:Addr} {o:HO} {t':Nat} (I:qw X pins σ H s) (k:∀b u,b∉L->s.heap.get? b=some u->h'.get? b=some u) (hf:∀b∈L,JL X pins H b) (hp:s.heap.objs.size<=T)
   (new:qC X.prog X.w (upd H T o) h' T o):qw X pins σ (upd H T o) {s with heap:=h',toks:=t'}:=by
 have hn:H T=none:=I.hok.fresh hp
 have up:∀b u,H b=some u->upd H T o b=some u:=λb u e=>by rw[qf (ql e hn)];exact e
 have nL:∀b u,H b=some u->b∉L:=λb u e z=>by rw[(hf b z).1]at e;cases e
 refine I.step (g':=s.gens) (d':=s.drawn) (ch:=L) (λb hb=>?_) (λb o _ _ hc e _=>k b o hc e) (λb o _ _ hc e _=>⟨o.slots,k b o hc e⟩) (λb ob hc e n=>?_)
   (λb o hc e=>⟨o,k b o hc e⟩) (λb xs e=>up b _ e) (λb o u e=>up b _ e) (λb ps e=>⟨#[],by rw[up b _ e];simp⟩) (λm hm=>?_) (λb u e=>?_) I.bare
 . obtain⟨f0,f1,f2,f3,f4,f5⟩:=hf b hb
   exact⟨f3,f1,f4,f5⟩
 . have:b≠T:=Nat.ne_of_lt (Nat.lt_of_lt_of_le (Heap.lt_size e) hp)
   rw[qf this]
   exact n
 . obtain⟨o,es,ep,ho,r⟩:=hm
   exact⟨o,es,ep,k _ o (λz=>(hf _ z).2.1 rfl) ho,r⟩
 . by_cases hb:b=T
   . subst hb
     rw[qd]at e
     cases e
     exact new
   . rw[qf hb]at e
     refine(I.hok b u e).stay (λc v hc q=>k c v ?_ q) (λc q=>up c _ q) λc xs q=>up c _ q
     rcases hc with z | z
     . rw[z];exact nL b u e
     . exact nL c _ z
theorem qw.turnedL {L:List Addr} {t':Nat} (I:qw X pins σ H s) (k:∀b u,b∉L->s.heap.get? b=some u->h'.get? b=some u) (hf:∀b∈L,JL X pins H b):qw X pins σ H {s with heap:=h',toks:=t'}:=by
 have nL:∀b u,H b=some u->b∉L:=λb u e z=>by rw[(hf b z).1]at e;cases e
 refine I.step (g':=s.gens) (d':=s.drawn) (ch:=L) (λb hb=>?_) (λb o _ _ hc e _=>k b o hc e) (λb o _ _ hc e _=>⟨o.slots,k b o hc e⟩) (λ_ _ _ _ n=>n)
   (λb o hc e=>⟨o,k b o hc e⟩) (λ_ _ e=>e) (λ_ _ _ e=>e) (λb ps e=>⟨#[],by rw[e];simp⟩) (λm hm=>?_) (λb u e=>?_) I.bare
 . obtain⟨f0,f1,f2,f3,f4,f5⟩:=hf b hb
   exact⟨f3,f1,f4,f5⟩
 . obtain⟨o,es,ep,ho,r⟩:=hm
   exact⟨o,es,ep,k _ o (λz=>(hf _ z).2.1 rfl) ho,r⟩
 . refine(I.hok b u e).stay (λc v hc q=>k c v ?_ q) (λ_ q=>q) λ_ _ q=>q
   rcases hc with z | z
   . rw[z];exact nL b u e
   . exact nL c _ z
end
section
variable {X:Cx} {elts:List Expr} {x1:Nat} {tpos:Pos}
end
end L2
set_option Elab.async false
set_option linter.all false
set_option maxRecDepth 100000
set_option maxHeartbeats 4000000
namespace L2
open PySem PySem.Spec PyProof.Rows
section
variable {X:Cx}
theorem Zf:∀{cs:List Addr} {us:List Value},qD (cs.map V.ref) us->us=cs.map Value.ref
 | [],_,.nil=>rfl
 | c::cs,u::us,.cons r t=>by
   obtain rfl:u=Value.ref c:=r
   rw[List.map_cons,Zf t]
end
section
variable {X:Cx} {o e:Expr} {es:List Expr} {ta:TE} {t:TA} {m:Str} {C C' f f':Addr} {fd fd':FuncData} {ps ps':List Str} {k k':Nat} {sp sp':Sp} {apos pos:Pos}
end
section
variable {X:Cx} {e:Expr} {es:List Expr} {te:TE} {t:TA}
end
end L2
set_option Elab.async false
set_option linter.all false
set_option maxRecDepth 100000
set_option maxHeartbeats 4000000
namespace L2
open PySem PySem.Spec PySem.W PyProof.Rows
theorem xp:∀(f n r:Nat),r<=1->minRun' f n r<=n+r
 | 0,n,r,_=>Nat.le_refl _
 | f+1,n,r,hr=>by
   rw[minRun'_succ]
   split
   . exact Nat.le_refl _
   . have h1:max r (n % 2)<=1:=Nat.max_le.mpr ⟨hr,by omega⟩
     have:=xp f (n / 2) (max r (n % 2)) h1
     omega
section
variable {P:Program} {w:World} {B:Around} {F:Value->Shared->Prop} {κ:SortKind} {it:Array Keyed} {z:Shared}
theorem Xo {n:Nat} {R:Nat->Shared->Prop} (hc:∀i,1<=i->i < n->∀C:Bool->Shared->Prop,C false z->kas_cmp P w B κ it i (i - 1) C z) (hR:R n z):
   ∀(f a:Nat),1<=a->a+f=n->(kas_asc (List.toArray (List.range n)) f a).kasWp (kas_cmp P w B κ it) R z
 | 0,a,_,e=>by
   have e':a=n:=by omega
   subst e'
   exact hR
 | f+1,a,h1,e=>by
   have g:∀i,i < n->(List.toArray (List.range n)).getD i 0=i:=λi hi=>by simp [Array.getD,hi]
   show kas_cmp P w B κ it ((List.toArray (List.range n)).getD a 0) ((List.toArray (List.range n)).getD (a - 1) 0) _ z
   rw[g a (by omega),g (a - 1) (by omega)]
   refine hc a h1 (by omega) _ ?_
   show KasT.kasWp _ (if false=true then _ else _) R z
   rw[if_neg Bool.false_ne_true]
   exact Xo hc hR f (a+1) (by omega) (by omega)
theorem VR {n:Nat} {Q:Unit->SortSt->Shared->Prop} (h2:2<=n) (hc:∀i,1<=i->i < n->∀C:Bool->Shared->Prop,C false z->kas_cmp P w B κ it i (i - 1) C z)
   (hQ:∀st,arrOf st=(List.toArray (List.range n)).map (kas_item it)->failedOf st=none->Q () st z):kasC (model P w) B F sortRuns' Q (kas_st κ it (List.toArray (List.range n))) z:=by
 obtain⟨r,rfl⟩:∃r,n=r+2:=⟨n - 2,by omega⟩
 have sz:(List.toArray (List.range (r+2))).size=r+2:=by simp
 have sa:(arrOf (kas_st κ it (List.toArray (List.range (r+2))))).size=r+2:=(Array.size_map ..).trans sz
 have le:=xp (r+2) (r+2) 0 (by decide)
 rw[sortRuns'_eq]
 refine kasC_bind (kasC_get ?_)
 dsimp only
 rw[sa]
 generalize minRun' (r+2) (r+2) 0=M at le
 refine kasC_bind (kasC_range (show kasC _ _ _ (forIn (0::1::List.range' 2 r) _ _) _ _ _ from kasC_cons ?_))
 dsimp only
 rw[if_neg (by omega)]
 simp only[Nat.sub_zero,Nat.zero_add]
 refine kasC_bind (kas_count_ (G:=λq z'=>q=(r+2,List.toArray (List.range (r+2)))/\z'=z) (by omega) (by rw[sz];exact Nat.le_refl _) (λm p' z' _ _ _ hg=>?_) ?_)
 . obtain⟨e,rfl⟩:=hg
   cases e
   dsimp only
   rw[if_neg (by omega)]
   refine kasC_bind (kasC_get ?_)
   rw[show (pendingOf (kas_st κ it (List.toArray (List.range (r+2))))).back?=none from rfl]
   dsimp only
   refine kasC_bind (kasC_modify (kasC_pure (show kasC _ _ _ (forIn (1::List.range' 2 r) _ _) _ _ _ from kasC_cons ?_)))
   dsimp only
   rw[if_pos (Nat.le_refl _)]
   refine kasC_pure ?_
   dsimp only
   refine kasC_bind (kasC_range (show kasC _ _ _ (forIn (0::1::List.range' 2 r) _ _) _ _ _ from kasC_cons (kasC_bind (kasC_get ?_))))
   rw[if_pos (show (pendingOf (setPending (kas_st κ it (List.toArray (List.range (r+2)))) ((pendingOf (kas_st κ it (List.toArray (List.range (r+2))))).push (0,r+2,0)))).size<=1 from Nat.le_refl 1)]
   refine kasC_pure ?_
   dsimp only
   exact kasC_pure (hQ _ rfl rfl)
 . unfold kas_count
   rw[KasT.kasWp_bind]
   refine Xo hc ?_ _ 1 (Nat.le_refl 1) (by omega)
   rw[if_pos (beq_self_eq_true _)]
   exact⟨rfl,rfl⟩
end
def QX (h:Heap) (v:Value) (k:Int×Int):Prop:=∃p o n t u,v=.ref p/\h.get? p=some o/\o.cls=.type "tuple"/\o.data=.seq #[.int k.1 t,.int k.2 u] n
def zq (a b:Int×Int):Prop:=a.1 < b.1\/(a.1=b.1/\a.2 < b.2)
section
variable {P:Program} {w:World} {B:Around} {F:Value->Shared->Prop} {z:Shared}
theorem Xp {v u:Value} {a b:Int×Int} (hv:QX z.heap v b) (hu:QX z.heap u a) (hlt:zq a b) {C:Bool->Shared->Prop} (hC:C false z):wpAny (model P w) B (keyLt' (tuples' true) v u) C (λ_ _=>False) z:=by
 obtain⟨p,o,n,t1,t2,rfl,h1,_,d1⟩:=hv
 obtain⟨p',o',n',t1',t2',rfl,h1',_,d1'⟩:=hu
 refine kat_lt h1 d1 h1' d1' ?_
 show KatLex P w B true _ C [(.int b.1 t1,.int a.1 t1'),(.int b.2 t2,.int a.2 t2')] 0 z
 refine kat_cons (SeqAt.EqAt.int_int b.1 t1 a.1 t1' P w _ _ ?_)
 rcases hlt with h | ⟨h,h'⟩
 . have e:(b.1==a.1)=false:=by
     rw[beq_eq_false_iff_ne]
     omega
   rw[e]
   refine kat_no (show wpAny _ _ (oneLt' true _ _) _ _ _ from oneLt_int ?_)
   rw[decide_eq_false (by omega)]
   exact hC
 . have e:(b.1==a.1)=true:=by rw[h];exact beq_self_eq_true _
   rw[e]
   refine kat_yes (kat_cons (SeqAt.EqAt.int_int b.2 t2 a.2 t2' P w _ _ ?_))
   have e2:(b.2==a.2)=false:=by
     rw[beq_eq_false_iff_ne]
     omega
   rw[e2]
   refine kat_no (show wpAny _ _ (oneLt' false _ _) _ _ _ from kat_one _ _ (lt_int ?_))
   show C (decide (b.2 < a.2)) z
   rw[decide_eq_false (by omega)]
   exact hC
theorem QX.keep {h h':Heap} {v:Value} {k:Int×Int} (x:QX h v k) (kp:∀b o,h.get? b=some o->o.cls=.type "tuple"->h'.get? b=some o):QX h' v k:=by
 obtain⟨p,o,n,t,u,e,h1,c,d⟩:=x
 exact⟨p,o,n,t,u,e,kp p o h1 c,c,d⟩
theorem z9 (vs:List Value):(pairsOf vs).map (·.2)=vs.toArray:=by
 apply Array.ext'
 rw[Array.toList_map,pairsOf_toList,List.map_snd_zip (Nat.le_refl _)]
theorem WQ {h:Heap}:∀(vs:List Value) (ks:List (Int×Int)),vs.length=ks.length->(∀(i:Nat) (v:Value) (k:Int×Int),vs[i]?=some v->ks[i]?=some k->QX h v k)->∃fs,KatTups h vs fs/\fs.length=vs.length/\∀v∈fs,∃i t,v=Value.int i t
 | [],_,_,_=>⟨[],.nil,rfl,λv hv=>(nomatch hv)⟩
 | v::vs,[],hl,_=>by cases hl
 | v::vs,k::ks,hl,hv=>by
   obtain⟨fs,tf,lf,hf⟩:=WQ vs ks (Nat.succ.inj hl) λi u q e1 e2=>hv (i+1) u q (by simpa using e1) (by simpa using e2)
   obtain⟨p,o,n,t,u,rfl,h1,c,d⟩:=hv 0 v k rfl rfl
   refine⟨.int k.1 t::fs,.cons h1 c d rfl tf,by simp [lf],λx hx=>?_⟩
   rcases List.mem_cons.mp hx with e | hx
   . exact⟨_,_,e⟩
   . exact hf x hx
theorem VH {a:Addr} {vs:List Value} {ks:List (Int×Int)} {n:Nat} {R:PySem.Fin->Shared->Prop} (ho:z.heap.get? a=some (seqObj "list" vs.toArray n)) (hl:vs.length=ks.length) (hv:∀(i:Nat) (v:Value) (k:Int×Int),vs[i]?=some v->ks[i]?=some k->QX z.heap v k)
   (hr:∀(i:Nat) (k k':Int×Int),ks[i]?=some k->ks[i+1]?=some k'->zq k k') (hz:vs.length<=100000)
   (k:R (.done (.ret .none)) {z with heap:=sortedHeap z.heap a vs vs.toArray}):wpAny (model P w) B (Builtin.«list.sort» ⟨[.ref a],[]⟩) R F z:=by
 have na:∀b o,z.heap.get? b=some o->o.cls=.type "tuple"->b≠a:=λb o e c q=>by
   rw[q,ho]at e
   cases e
   exact absurd c (show ¬Value.type "list"=Value.type "tuple" by decide)
 rw[list_sort_plain]
 refine wpAny_bind (listItems_at ho rfl (wpAny_bind (listUpdate_at ho rfl ?_)))
 obtain⟨c1,o1⟩:∃c,(z.heap.update a (Obj.mapSeq λ_=>#[])).get? a=some (seqObj "list" #[] c):=⟨_,get?_update_seq ho (λ_=>#[])⟩
 refine wpAny_bind (seqEpoch_at o1 rfl (wpAny_bind (wpAny_newTuple (wpAny_bind (wpAny_newList (wpAny_holding ?_))))))
 have lt:=Heap.lt_size ho
 have o2:(((z.heap.update a (Obj.mapSeq λ_=>#[])).push (seqObj "tuple" vs.toArray 0)).push (seqObj "list" #[] 0)).get? a=some (seqObj "list" #[] c1):=Heap.get?_push_of_some _ (Heap.get?_push_of_some _ o1)
 have kp:∀b o,z.heap.get? b=some o->o.cls=.type "tuple"->(((z.heap.update a (Obj.mapSeq λ_=>#[])).push (seqObj "tuple" vs.toArray 0)).push (seqObj "list" #[] 0)).get? b=some o:=λb o e c=>
   Heap.get?_push_of_some _ (Heap.get?_push_of_some _ ((Heap.get?_update_other _ _ (Ne.symm (na b o e c))).trans e))
 show wpAny (model P w) B _ R F {z with heap:=((z.heap.update a (Obj.mapSeq λ_=>#[])).push (seqObj "tuple" vs.toArray 0)).push (seqObj "list" #[] 0)}
 dsimp only
 have sv:vs.toArray.size=vs.length:=by simp
 have ends:∀st:SortSt,(arrOf st).map (·.2)=vs.toArray->failedOf st=none->wpAny (model P w) B (do
     let touched:=(<-seqEpoch a) != c1
     Builtin.List.listUpdate (.ref a) λ_=>(arrOf st).map (·.2)
     if let some e:=failedOf st then rule "list.sort.comparison-raised";throw e
     if touched then rule "list.sort.modified";raiseError "ValueError" "list modified during sort"
     ret .none) R F {z with heap:=((z.heap.update a (Obj.mapSeq λ_=>#[])).push (seqObj "tuple" vs.toArray 0)).push (seqObj "list" #[] 0)}:=λst e f=>by
   refine wpAny_bind (seqEpoch_at o2 rfl ?_)
   rw[e,f]
   refine wpAny_bind (listUpdate_at o2 rfl ?_ (hsz2:=by rw[sv,sizeLine_eq];omega))
   simp only[bne_self_eq_false,Bool.false_eq_true,if_false]
   exact wpAny_pure k
 by_cases h2:vs.toArray.size < 2
 . rw[if_pos h2,if_pos h2]
   refine wpAny_bind (wpAny_pure ?_)
   rw[StateT.run_pure]
   refine wpAny_bind (wpAny_pure ?_)
   exact ends (SortSt.mk' general' (vs.toArray.zip vs.toArray) #[] 7 none) (z9 vs) rfl
 . rw[if_neg h2,if_neg h2]
   have l2:2<=vs.length:=by omega
   have hv':∀(i:Nat) (v:Value) (q:Int×Int),vs[i]?=some v->ks[i]?=some q->QX (((z.heap.update a (Obj.mapSeq λ_=>#[])).push (seqObj "tuple" vs.toArray 0)).push (seqObj "list" #[] 0)) v q:=λi v q e1 e2=>(hv i v q e1 e2).keep kp
   obtain⟨fs,tf,lf,hf⟩:=WQ vs ks hl hv'
   refine wpAny_bind (kat_kind (T:=.type "int") tf (by omega) (λv q=>?_) rfl ?_)
   . obtain⟨i,t,rfl⟩:=hf v q
     exact Looks.of_pure rfl
   . have e:vs.toArray.zip vs.toArray=(List.toArray (List.range vs.length)).map (kas_item (pairsOf vs)):=by
       have:=kas_range (pairsOf vs)
       rw[pairsOf_size]at this
       exact this.symm
     rw[e]
     have run:kasC (model P w) B F sortRuns' (λ_ st z'=>z'={z with heap:=((z.heap.update a (Obj.mapSeq λ_=>#[])).push (seqObj "tuple" vs.toArray 0)).push (seqObj "list" #[] 0)}/\(arrOf st).map (·.2)=vs.toArray/\failedOf st=none)
         (kas_st (tuples' true) (pairsOf vs) (List.toArray (List.range vs.length))) {z with heap:=((z.heap.update a (Obj.mapSeq λ_=>#[])).push (seqObj "tuple" vs.toArray 0)).push (seqObj "list" #[] 0)}:=by
       refine VR l2 (λi i1 i2 C hC=>?_) λst e1 e2=>⟨rfl,by rw[e1,<-e];exact z9 vs,e2⟩
       unfold kas_cmp
       rw[kas_item_eq,kas_item_eq]
       have g:∀j,j < vs.length->vs[j]?=some (vs.getD j Value.none):=λj hj=>by simp [hj]
       have gk:∀j,j < vs.length->∃q,ks[j]?=some q:=λj hj=>⟨_,List.getElem?_eq_getElem (by omega)⟩
       obtain⟨q1,eq1⟩:=gk i i2
       obtain⟨q0,eq0⟩:=gk (i - 1) (by omega)
       have eq1':ks[i - 1+1]?=some q1:=by rw[show i - 1+1=i by omega];exact eq1
       exact Xp (hv' i _ q1 (g i i2) eq1) (hv' (i - 1) _ q0 (g (i - 1) (by omega)) eq0) (hr (i - 1) q0 q1 eq0 eq1') hC
     refine wpAny_bind (wpAny_mono run (λr z' h3=>?_) λ_ _ x=>x)
     obtain⟨⟨⟩,st⟩:=r
     obtain⟨rfl,e1,e2⟩:=h3
     exact ends st e1 e2
end
end L2
set_option Elab.async false
set_option linter.all false
set_option maxRecDepth 100000
set_option maxHeartbeats 4000000
namespace PySem
def RawD (h:Heap) (d:Addr) (es:Array DictEntry) (ep:Nat):Prop:=∃o,h.get? d=some o/\o.ExactDict/\o.data=.dict es ep
theorem RawD.keep {h h':Heap} {d:Addr} {es:Array DictEntry} {ep:Nat} (x:RawD h d es ep) (k:∀o,h.get? d=some o->h'.get? d=some o):RawD h' d es ep:=let ⟨o,e,r⟩:=x;⟨o,k o e,r⟩
section
variable {P:Program} {w:World} {B:Around} {F':Value->Shared->Prop} {z:Shared} {d I:Addr} {es:Array DictEntry} {ep i:Nat}
theorem RawD.ty (x:RawD z.heap d es ep):z.TypeIs (.ref d) "dict":=let ⟨o,e,c,_⟩:=x;⟨o,e,c.1⟩
theorem U6 {R:Value->Shared->Prop} (hd:(d==sysModules)=false) (x:RawD z.heap d es ep)
   (k:R (.ref z.heap.objs.size) {z with heap:=z.heap.push {cls:=.type "dict_keyiterator",data:=.fields #[.ref d,.int 0 0,.int es.size 0,.int ep 0]}}):wpAny (model P w) B (pyIter (.ref d)) R F' z:=by
 have ty:=x.ty
 obtain⟨o,ho,_,dat⟩:=x
 refine wpAny_pyIter_slot ty F.slot_dict_iter (wpAny_call_entry F.slot_dict_iter ty F.entry_dict_iter ?_ (F.args_dict_iter_1 _))
 unfold Builtin.«dict.__iter__»
 refine wpAny_bind (show wpAny _ _ (Builtin.Dict.dictSlotNone _ _) _ _ _ from ?_)
 unfold Builtin.Dict.dictSlotNone
 refine wpAny_bind (wpAny_notOrdered_dict ty (show wpAny _ _ (pure (Value.ref d)) _ _ z from wpAny_pure ?_))
 refine(show wpAny _ _ (Builtin.Dict.showsAll d >>= _) _ _ z from ?_)
 unfold Builtin.Dict.showsAll
 rw[if_neg (by rw[hd];exact Bool.false_ne_true)]
 refine wpAny_bind (wpAny_pure (wpAny_bind (wpAny_dictEntries ho dat (wpAny_bind (wpAny_dictEpoch ho dat ?_)))))
 exact wpAny_bind (wpAny_newObj_type (wpAny_pure ⟨_,rfl,"dict_keyiterator",_,⟨_,Heap.get?_push_size _ rfl,rfl⟩,F.slot_dict_keyiterator_next.lookup,by simpa [rawInt] using k⟩))
theorem U5 {R:Option Value->Shared->Prop} (hit:z.heap.IsKeyIter I d i es.size ep) (x:RawD z.heap d es ep) (hi:i < es.size)
   (k:∀h',h'.IsKeyIter I d (i+1) es.size ep->Heap.SameBut I z.heap h'->R (some es[i].key) {z with heap:=h'}):wpAny (model P w) B (pyNext (.ref I)) R F' z:=by
 obtain⟨o,ho,hc,hd⟩:=id hit
 obtain⟨od,hod,_,dat⟩:=x
 have ty:=hit.typeIs
 unfold pyNext
 refine wpAny_bind (wpAny_attempt (wpAny_callSpecial?_slot (name:=Str.ofString "__next__") ty F.slot_dict_keyiterator_next (wpAny_call_entry F.slot_dict_keyiterator_next ty F.entry_dict_keyiterator_next ?_ (F.args_dict_keyiterator_next_1 _))))
 refine wpAny_bind (wpAny_pure (wpAny_bind (wpAny_bind (wpAny_bind ?_))))
 first | refine wpAny_typeNameOfWhole_keyiter ty (wpAny_pure (wpAny_bind (wpAny_fieldsOf ho hd ?_))) | refine wpAny_typeNameOf_keyiter ty (wpAny_pure (wpAny_bind (wpAny_fieldsOf ho hd ?_)))
 have own:Builtin.Dict_items.ownsTuple "dict_keyiterator"=false:=by decide
 simp only[own,Bool.false_eq_true,if_false]
 show wpAny _ _ (if (Value.ref d==Value.none)=true then _ else _) _ _ z
 rw[if_neg (show ¬((Value.ref d==Value.none)=true) from Bool.false_ne_true)]
 refine wpAny_bind (wpAny_pure (wpAny_bind (wpAny_dictEntries hod dat ?_)))
 rw[if_neg (by simp)]
 refine wpAny_bind (wpAny_pure (wpAny_bind (wpAny_dictEpoch hod dat ?_)))
 rw[if_neg (by simp)]
 refine wpAny_pure ?_
 simp only[show ¬((i:Int) < 0) from by omega,if_false,Int.toNat_natCast,Array.getElem?_eq_getElem hi]
 refine wpAny_bind (wpAny_bind ?_)
 first | refine wpAny_typeNameOfWhole_keyiter ty (wpAny_pure (wpAny_bind (wpAny_isOneOf_keyiter ty ?_))) | refine wpAny_typeNameOf_keyiter ty (wpAny_pure (wpAny_bind (wpAny_isOneOf_keyiter ty ?_)))
 refine(show wpAny _ _ (setField (.ref I) 1 (rawInt ((i:Int)+1)) >>= _) _ _ z from wpAny_bind (wpAny_setField ho hd (by simp) ?_))
 have hit':(z.heap.update I (Obj.mapFields (·.setIfInBounds 1 (rawInt ((i:Int)+1))))).IsKeyIter I d (i+1) es.size ep:=
   ⟨_,Heap.get?_update_self _ ho (Obj.isFreed_of_fields (Obj.data_mapFields hd _)),(Obj.cls_mapFields ..).trans hc,by rw[Obj.data_mapFields hd];simp [rawInt]⟩
 refine wpAny_bind (wpAny_holding (wpAny_bind (wpAny_isOneOf_keyiter (s:={z with heap:=z.heap.update I (Obj.mapFields (·.setIfInBounds 1 (rawInt ((i:Int)+1))))}) hit'.typeIs ?_)))
 refine(show wpAny _ _ (pure es[i].key) _ _ _ from wpAny_pure (wpAny_pure ⟨_,rfl,wpAny_pure (k _ hit' (Heap.SameBut.update ..))⟩))
theorem yh {R:Option Value->Shared->Prop} (hB:B.handled=none) (hit:z.heap.IsKeyIter I d i es.size ep) (x:RawD z.heap d es ep) (hi:es.size<=i)
   (k:∀h',Heap.ExtBut I z.heap h'->R none {z with heap:=h'}):wpAny (model P w) B (pyNext (.ref I)) R F' z:=by
 obtain⟨o,ho,hc,hd⟩:=id hit
 obtain⟨od,hod,_,dat⟩:=x
 have ty:=hit.typeIs
 unfold pyNext
 refine wpAny_bind (wpAny_attempt (wpAny_callSpecial?_slot (name:=Str.ofString "__next__") ty F.slot_dict_keyiterator_next (wpAny_call_entry F.slot_dict_keyiterator_next ty F.entry_dict_keyiterator_next ?_ (F.args_dict_keyiterator_next_1 _))))
 refine wpAny_bind (wpAny_pure (wpAny_bind (wpAny_bind (wpAny_bind ?_))))
 first | refine wpAny_typeNameOfWhole_keyiter ty (wpAny_pure (wpAny_bind (wpAny_fieldsOf ho hd ?_))) | refine wpAny_typeNameOf_keyiter ty (wpAny_pure (wpAny_bind (wpAny_fieldsOf ho hd ?_)))
 have own:Builtin.Dict_items.ownsTuple "dict_keyiterator"=false:=by decide
 simp only[own,Bool.false_eq_true,if_false]
 show wpAny _ _ (if (Value.ref d==Value.none)=true then _ else _) _ _ z
 rw[if_neg (show ¬((Value.ref d==Value.none)=true) from Bool.false_ne_true)]
 refine wpAny_bind (wpAny_pure (wpAny_bind (wpAny_dictEntries hod dat ?_)))
 rw[if_neg (by simp)]
 refine wpAny_bind (wpAny_pure (wpAny_bind (wpAny_dictEpoch hod dat ?_)))
 rw[if_neg (by simp)]
 refine wpAny_pure ?_
 simp only[show ¬((i:Int) < 0) from by omega,if_false,Int.toNat_natCast,Array.getElem?_eq_none hi]
 refine wpAny_bind (wpAny_bind ?_)
 first | refine wpAny_typeNameOfWhole_keyiter ty (wpAny_pure ?_) | refine wpAny_typeNameOf_keyiter ty (wpAny_pure ?_)
 refine(show wpAny _ _ (setField (.ref I) 0 .none >>= _) _ _ z from wpAny_bind (wpAny_setField ho hd (by simp) ?_))
 refine(show wpAny _ _ (newExc (.type "StopIteration") [] >>= _) _ _ _ from wpAny_bind ?_)
 simp only[newExc,newTuple]
 refine wpAny_bind (wpAny_newObj_type (wpAny_bind (m:=firstArgMember _ _) (wpAny_of_eq (a:=Value.none) (by first | rfl | (simp only[firstArgMember];rfl)) (wpAny_newObj_type ?_ (by size_fits)))) (by size_fits))
 simp only[raiseNew]
 refine wpAny_bind (wpAny_handled ?_)
 rw[show B.in1.handled=none from hB]
 refine wpAny_bind (wpAny_pure (wpAny_throw ?_))
 refine wpAny_bind (wpAny_isInstance (T:="StopIteration") (b:=true) ⟨_,Heap.get?_push_size _ rfl,rfl⟩ isSubtype_stop ?_)
 exact wpAny_pure (k _ ((((Heap.SameBut.update ..).extBut).push _).push _))
end
end PySem
namespace PySem
open PySem.W
section
variable {P:Program} {w:World} {d:Addr} {es:Array DictEntry} {ep:Nat}
theorem VS {B:Around} (hB:B.handled=none) (I:Addr) (hne:d≠I):Walks P w B I [I,d] [I] es.size (λi v=>∃h:i < es.size,v=es[i].key) (λi h=>h.IsKeyIter I d i es.size ep/\RawD h d es ep) where
 sub:=λb hb=>by simp at hb;simp [hb]
 frame:=λ_ _ _ st k=>⟨st.1.at λo e=>k I (by simp) o e,st.2.keep λo e=>k d (by simp) o e⟩
 item:=λi z R G hi st q=>U5 st.1 st.2 hi λh' it' sb=>q _ h' z.toks ⟨hi,rfl⟩ ⟨it',st.2.keep λo e=>sb.extBut d o hne e⟩ λb o hb e=>sb.extBut b o (λx=>hb (by simp [x])) e
 done:=λz R G st q=>yh hB st.1 st.2 (Nat.le_refl _) λh' eb=>q h' z.toks λb o hb e=>eb b o (λx=>hb (by simp [x])) e
 self:=λ_ _ _ _ st q=>wpAny_pyIter_keyiter st.1 q
theorem yg (hd:(d==sysModules)=false):KdlSrc P w "dict" d d es.size (λi v=>∃h:i < es.size,v=es[i].key) (λh=>RawD h d es ep) where
 type:=λz x=>x.ty
 there:=λh x=>let ⟨o,e,_⟩:=x;⟨Heap.lt_size e,Heap.lt_size e⟩
 keep:=λh h' x k=>x.keep λo e=>k d (.inl rfl) o e
 notList:=by decide
 notTuple:=by decide
 hint:=λ_ _ _ _ x q=>kdl_hint_dict x.ty q
 iter:=λA z hh x=>⟨_,_,λE Q q=>U6 hd x q,VS hh _ (let ⟨o,e,_⟩:=x;Nat.ne_of_lt (Heap.lt_size e)),⟨⟨_,Heap.get?_push_size _ rfl,rfl,rfl⟩,x.keep λo e=>Heap.get?_push_of_some _ e⟩⟩
end
end PySem
namespace L2
open PySem PySem.Spec PySem.W PyProof.Rows
theorem Qa {α β:Type} {G:α->β->Prop}:∀{l:List α} {m:List β},Paired G l m->∀{i:Nat} {a:α},l[i]?=some a->∃b,m[i]?=some b/\G a b
 | _,_,.nil,i,a,e=>by simp at e
 | _,_,.cons r t,0,a,e=>by cases e;exact⟨_,rfl,r⟩
 | _,_,.cons r t,i+1,a,e=>by
   obtain⟨b,eb,g⟩:=Qa t (by simpa using e)
   exact⟨b,by simpa using eb,g⟩
section
variable {X:Cx}
def Zs (k:Int×Int):List qN:=[Sum.inl k.1,Sum.inl k.2]
def x4:List V->Hp->VK->Prop:=λxs H Q=>∃(a:Addr) (kvs:List (List qN×V)) (ks:List (Int×Int)),xs=[.ref a]/\H a=some (.dT kvs)/\kvs.map (·.1)=ks.map Zs/\(∀(i:Nat) (k k':Int×Int),ks[i]?=some k->ks[i+1]?=some k'->zq k k')/\kvs.length<=1000/\
 ∀(l:Addr) (ps:List Addr),H l=none->ps.length=ks.length->(∀(i:Nat) (p:Addr) (k:Int×Int),ps[i]?=some p->ks[i]?=some k->H p=some (.tup [.int k.1,.int k.2]))->Q (.ref l) (upd H l (.lst (ps.map V.ref)))
theorem Xc:∀(ps:List Addr),qD (ps.map V.ref) (ps.map Value.ref)
 | []=>.nil
 | p::ps=>.cons rfl (Xc ps)
theorem WH (hc:X.calm=true):jU X (.builtin "sorted") x4:=by
 intro pins s σ H xs us Q I r h
 obtain⟨a,kvs,ks,rfl,ea,eks,hr,hz,q⟩:=h
 obtain⟨u,rfl,ru⟩:=Qh r
 cases ru
 obtain⟨_,hsys,ys,pr,o,es,ep,eo,ex,dat,ents,_⟩:=(show qC X.prog X.w H s.heap a (.dT kvs) from I.hok a _ ea)
 have ly:kvs.length=ys.length:=Paired.length pr
 have lk:kvs.length=ks.length:=by simpa using congrArg List.length eks
 have se:es.size=ys.length:=by rw[<-Array.length_toList,ents,List.length_map]
 have key:∀i (hi:i < es.size),es[i].key=.ref ((ys.map (·.2.1)).getD i 0):=λi hi=>by
   have e1:es.toList[i]?=some es[i]:=by simp [hi]
   have hy:i < ys.length:=by omega
   rw[ents,List.getElem?_map,List.getElem?_eq_getElem hy]at e1
   have e2:=(Option.some.inj e1).symm
   rw[e2]
   show Value.ref ys[i].2.1=_
   simp [hy]
 have tup:∀(i:Nat) (p:Addr) (k:Int×Int),(ys.map (·.2.1))[i]?=some p->ks[i]?=some k->H p=some (.tup [.int k.1,.int k.2]):=λi p k e1 e2=>by
   rw[List.getElem?_map]at e1
   cases ey:ys[i]? with
   | none=>rw[ey]at e1;cases e1
   | some y=>
     rw[ey]at e1
     have ep':y.2.1=p:=Option.some.inj e1
     have hi:i < kvs.length:=by
       have:=(List.getElem?_eq_some_iff.mp ey).1
       omega
     obtain⟨y',ey',g1,g2,_⟩:=Qa pr (List.getElem?_eq_getElem hi)
     rw[ey]at ey'
     cases ey'
     have ek:kvs[i].1=Zs k:=by
       have h1:(kvs.map (·.1))[i]?=some kvs[i].1:=by rw[List.getElem?_map,List.getElem?_eq_getElem hi];rfl
       rw[eks,List.getElem?_map,e2]at h1
       exact(Option.some.inj h1).symm
     rw[ek,ep']at g2
     exact g2
 have hh:X.A.in1.handled=none:=I.ok.hd hc
 refine Calls.call_function_entry kind_sorted plain_sorted entry_sorted (args_sorted1 _) ?_
 unfold Builtin.«sorted»
 refine wpAny_bind (m:=checkCount "sorted" 1 1 _) (wpAny_pure ?_)
 refine wpAny_bind (kdu_collect (yg (es:=es) (ep:=ep) hsys) hh ⟨o,eo,ex,dat⟩ (by rw[se,sizeLine_eq];omega) λh1 tk acc k1 it=>?_)
 have eacc:acc.toList=(ys.map (·.2.1)).map Value.ref:=by
   refine List.ext_getElem? λi=>?_
   by_cases hi:i < es.size
   . have ha:i < acc.size:=by rw[it.1];exact hi
     have e1:acc[i]?=some acc[i]:=Array.getElem?_eq_getElem ha
     obtain⟨h',e2⟩:=it.2 i _ e1
     rw[Array.getElem?_toList,e1,e2,key i hi,List.getElem?_map]
     have hy:i < (ys.map (·.2.1)).length:=by rw[List.length_map];omega
     rw[List.getElem?_eq_getElem hy]
     simp [List.getD_eq_getElem?_getD,List.getElem?_eq_getElem hy]
   . rw[List.getElem?_eq_none (by rw[Array.length_toList,it.1];omega),List.getElem?_eq_none (by rw[List.length_map,List.length_map];omega)]
 rw[eacc]
 generalize hps:ys.map (·.2.1)=ps at eacc tup key
 have lp:ps.length=ks.length:=by rw[<-hps,List.length_map];omega
 refine wpAny_bind (wpAny_newList ?_)
 have I1:qw X pins σ H {s with heap:=h1,toks:=tk}:=I.kept (t':=tk) k1
 show wpAny _ _ _ _ _ {s with heap:=h1.push (seqObj "list" (ps.map Value.ref).toArray 0),toks:=tk}
 have oL:(h1.push (seqObj "list" (ps.map Value.ref).toArray 0)).get? h1.objs.size=some (seqObj "list" (ps.map Value.ref).toArray 0):=Heap.get?_push_size _ rfl
 have pa:∀(i:Nat) (v:Value) (k:Int×Int),(ps.map Value.ref)[i]?=some v->ks[i]?=some k->QX (h1.push (seqObj "list" (ps.map Value.ref).toArray 0)) v k:=λi v k e1 e2=>by
   rw[List.getElem?_map]at e1
   cases ep1:ps[i]? with
   | none=>rw[ep1]at e1;cases e1
   | some p=>
     rw[ep1]at e1
     obtain rfl:=(Option.some.inj e1).symm
     obtain⟨its,rv,⟨ob,eb,cb,nb,db⟩,_⟩:=I1.tuple (.of (tup i p k ep1 e2):Zc X.K H p _)
     cases rv with
     | cons r1 rv=>
       cases rv with
       | cons r2 rv=>
         cases rv
         obtain⟨t1,rfl⟩:=r1
         obtain⟨t2,rfl⟩:=r2
         exact⟨p,ob,nb,t1,t2,rfl,Heap.get?_push_of_some _ eb,cb,db⟩
 refine wpAny_bind (wpAny_holding (wpAny_call_entry slot_list_sort ⟨_,oL,rfl⟩ entry_list_sort (VH oL (by rw[List.length_map];exact lp) pa hr (by rw[List.length_map];omega) ⟨_,rfl,?_⟩) (args_list_sort _)))
 refine wpAny_pure ⟨_,rfl,?_⟩
 have lne:∀b o,h1.get? b=some o->b≠h1.objs.size:=λb o e=>Nat.ne_of_lt (Heap.lt_size e)
 have kf:∀b o,h1.get? b=some o->(sortedHeap (h1.push (seqObj "list" (ps.map Value.ref).toArray 0)) h1.objs.size (ps.map Value.ref) (ps.map Value.ref).toArray).get? b=some o:=λb o e=>by
   unfold sortedHeap
   rw[Heap.get?_update_other _ _ (Ne.symm (lne b o e))]
   exact Heap.get?_push_of_some _ (Heap.get?_push_of_some _ ((Heap.get?_update_other _ _ (Ne.symm (lne b o e))).trans (Heap.get?_push_of_some _ e)))
 obtain⟨c2,o2⟩:∃c,((h1.push (seqObj "list" (ps.map Value.ref).toArray 0)).update h1.objs.size (Obj.mapSeq λ_=>#[])).get? h1.objs.size=some (seqObj "list" #[] c):=⟨_,get?_update_seq oL (λ_=>#[])⟩
 obtain⟨c3,o3⟩:∃c,(sortedHeap (h1.push (seqObj "list" (ps.map Value.ref).toArray 0)) h1.objs.size (ps.map Value.ref) (ps.map Value.ref).toArray).get? h1.objs.size=some (seqObj "list" (ps.map Value.ref).toArray c):=
   ⟨_,get?_update_seq (Heap.get?_push_of_some _ (Heap.get?_push_of_some _ o2)) (λ_=>(ps.map Value.ref).toArray)⟩
 refine⟨.ref h1.objs.size,_,I1.laid (t':=tk) (o:=.lst (ps.map V.ref)) kf (Nat.le_refl _) ⟨by rw[List.length_map,lp,<-lk];exact Nat.le_of_lt (qo hz),_,c3,Xc ps,o3⟩,rfl,?_⟩
 exact q _ ps (I1.hok.fresh (Nat.le_refl _)) lp tup
end
end L2
set_option Elab.async false
set_option linter.all false
set_option maxRecDepth 100000
set_option maxHeartbeats 4000000
namespace L2
open PySem PySem.Spec PySem.W PyProof.Rows
section
variable {X:Cx}
def Gb:V->Option Int->Option Int->Hp->VK->Prop:=λx lo hi H Q=>∃(z:Str) (j:Int),x=.str z/\lo=none/\hi=some j/\z.length<=1000/\Q (.str (Txt.slice z none (some j))) H
theorem UQ:Gz X Gb:=by
 intro pins s σ H x v vl vu lo hi sl Q I rx hs pl pu h
 obtain⟨z,j,rfl,rfl,rfl,hz,q⟩:=h
 obtain⟨t,rfl⟩:=rx
 refine⟨"str",_,PySem.F.slot_str_getitem.lookup,typeIs_str _ _ _,?_⟩
 cases pl
 cases pu
 exact wpAny_getItem_str_slice (l:=none) (u:=some (j,_)) (st:=none) hs rfl (post_val_or_str ⟨Nat.le_trans (Txt.slice_le z none (some j)) (Nat.le_of_lt (qo hz)),λt' k=>⟨.str _,H,I.tok k,⟨t',rfl⟩,q⟩⟩)
theorem Z0 (z:Str) (j:Nat):(Txt.slice z none (some (j:Int))).cps.toList=z.cps.toList.take j:=by
 have hl:z.cps.toList.length=z.length:=Array.length_toList
 have idx:Builtin.Str.strSliceIndices none (some (j:Int)) 1 z.length=(List.range (min j z.length)).map (0+·):=by
   have e:Builtin.Str.strSliceIndices none (some (j:Int)) 1 z.length=sliceRange ((0:Nat):Int) ((min j z.length:Nat):Int) 1:=by
     unfold Builtin.Str.strSliceIndices
     simp only[show (1:Int) > 0 by decide,if_true,show ¬((j:Int) < 0) by omega,if_false]
     congr 1
     omega
   rw[e,sliceRange_one]
   rfl
 unfold Txt.slice
 rw[idx]
 split
 . rename_i h
   have hm:min j z.length=z.length:=by simpa using h
   rw[List.take_of_length_le]
   omega
 . rw[pick_run]
   show (z.cps.toList.drop 0).take (min j z.length)=_
   rw[List.drop_zero]
   by_cases hj:j<=z.length
   . rw[Nat.min_eq_left hj]
   . rw[Nat.min_eq_right (by omega),List.take_of_length_le (by omega),List.take_of_length_le (by omega)]
def xc (n:Nat):List V:=(List.range n).map λi=>V.int (i:Nat)
def tLr (te:TE):TE:=λσ H Q=>te σ H λx H1=>∃n:Nat,x=.int n/\n<=1000/\∀l,H1 l=none->Q (.ref l) (upd H1 l (.lst (xc n)))
theorem kM {n:Nat} {acc:Array Value} (h:ItemsOf (λi v=>∃t,v=.int (0+i*1) t) acc n):qD (xc n) acc.toList:=by
 obtain⟨hz,hv⟩:=h
 refine VX _ _ (by simp [xc,hz]) λi x u h1 h2=>?_
 have h2':acc[i]?=some u:=by simpa using h2
 obtain⟨t,rfl⟩:=hv i u h2'
 have hi:i < n:=by
   have:=(Array.getElem?_eq_some_iff.mp h2').1
   omega
 unfold xc at h1
 rw[List.getElem?_map,List.getElem?_range hi]at h1
 obtain rfl:=(Option.some.inj h1).symm
 refine⟨t,?_⟩
 congr 1
 omega
variable {e:Expr} {te:TE} {p1 p3 pos1 pos3:Pos}
theorem Kp (hc:X.calm=true) (g1:Gl X "list") (m1:X.mg "list"=none) (g3:Gl X "range") (m3:X.mg "range"=none) (ha:JE X e te) (hs:starEach [e] X.env=[(false,eval e X.env)]:=by rfl) (hs2:starEach [.Call (.Name "range" p3) [e] [] pos3] X.env=[(false,eval (.Call (.Name "range" p3) [e] [] pos3) X.env)]:=by rfl):JE X (.Call (.Name "list" p1) [.Call (.Name "range" p3) [e] [] pos3] [] pos1) (tLr te):=.of (by
 have ha:=ha.to
 intro pins s σ H Q I h
 refine Call_ (QC I g1 m1 boot_list (PyProof.Rows.callWith_type1 (UH hs2 ?_) (by rw[hs2];rfl) rfl))
 refine Call_ (QC I g3 m3 boot_range (PyProof.Rows.callWith_type1 (UH hs (jk (ha pins s σ H _ I h) λu s1 ⟨x,H1,I1,r1,q1⟩=>?_)) (by rw[hs];rfl) rfl))
 obtain⟨n,rfl,hn,q⟩:=q1
 obtain⟨t,rfl⟩:=r1
 refine call_range_1 ?_
 refine call_list_range (n:=n) (I1.ok.hd hc) (IsRange.new ..) (small_one (by omega) (by omega) (by omega) (by omega)) (W4 n) (by omega) λh' tk acc' c' kp e hi=>?_
 have s1z:s1.heap.objs.size<=(s1.heap.push ({cls:=.type "range",data:=.fields #[.int 0 s1.toks,.int n t,.int 1 (s1.toks+1)]}:Obj)).objs.size:=by
   rw[Heap.size_push]
   omega
 exact⟨.ref _,_,I1.laid (t':=tk) (o:=.lst (xc n)) (λb o eb=>kp b o (Heap.get?_push_of_some _ eb)) s1z ⟨by simp only[xc,List.length_map,List.length_range];exact Nat.le_of_lt (qo hn),acc'.toList,c',kM hi,by simpa using e⟩,rfl,q _ (I1.hok.fresh s1z)⟩)
theorem Ur (hc:X.calm=true):jU X (.type "set") (λxs H Q=>∃(p:Addr) (ns:List Int),xs=[.ref p]/\SqL X.K H p (ns.map V.int)/\ns.length<=1000/\∀l S,H l=none->Q (.ref l) (upd H l (.set S (firstMet (λi=>ns.getD i 0) ns.length).length))):=by
 intro pins s σ H xs us Q I r h
 obtain⟨p,ns,rfl,hq,hz,q⟩:=h
 obtain⟨u,rfl,ru⟩:=Qh r
 cases ru
 obtain⟨its,rv,pl,_⟩:=I.list hq
 have hl:=rv.length
 rw[List.length_map]at hl
 have hsz:its.toArray.size=ns.length:=by rw[List.size_toArray,<-hl]
 refine call_set_list (ns:=ns) (I.ok.hd hc) pl.isList (by simpa using Wx rv) (by rw[hsz];show ns.length+1 < 4096;omega) λh' tk so kp=>?_
 rw[hsz]at so
 exact⟨.ref s.heap.objs.size,_,I.laid (t':=tk) (o:=.set _ _) (λb o e=>kp b o (Heap.lt_size e) e) (Nat.le_refl _) so,rfl,q _ _ (I.hok.fresh (Nat.le_refl _))⟩
theorem XM:jU X (.builtin "len") (λxs H Q=>∃a S n,xs=[V.ref a]/\H a=some (.set S n)/\Q (.int (n:Nat)) H):=by
 intro pins s σ H xs us Q I r h
 obtain⟨a,S,n,rfl,ea,q⟩:=h
 obtain⟨u,rfl,ru⟩:=Qh r
 cases ru
 obtain⟨o,es,ep,t,e1,e2,e3,_,_,b,f,rfl⟩:=(show qC X.prog X.w H s.heap a (.set S n) from I.hok a _ ea)
 refine call_len_set e1 e2 e3 f (by have:es.size < 4096:=b;omega) ⟨.int _,H,I.tok _,⟨_,rfl⟩,q⟩
end
end L2
set_option Elab.async false
set_option linter.all false
set_option maxRecDepth 100000
set_option maxHeartbeats 4000000
namespace L2
open PySem PySem.Spec PyProof.Rows
def ul (K:PySem.W.Frag) (a:Addr):It:=⟨λi H=>∃xs x,SqL K H a xs/\xs[i]?=some x,
 λi H v H'=>∃p,H p=none/\v=.ref p/\∀xs x,SqL K H a xs->xs[i]?=some x->H'=upd H p (.tup [.int (i:Nat),x]),
 λi H=>∃xs,SqL K H a xs/\xs.length<=i⟩
theorem VD {P:Program} {w:World} {K:PySem.W.Frag} {elts:List Expr} {x1:Nat} {tpos:Pos} (a e it:Addr) (hne:e≠it):
   XR P w K (.Tuple elts x1 tpos) (ul K a) [e,it] e (λi h=>(∃old,IsEnum h e it i old)/\h.IsListIter it a i) where
 mem:=by simp
 obj:=λi h st c hc=>by
   obtain⟨⟨old,he⟩,⟨o1,e1,c1,d1⟩⟩:=st
   simp only[List.mem_cons,List.mem_nil_iff,or_false]at hc
   rcases hc with rfl | rfl
   . exact⟨_,he,λv z=>by cases z⟩
   . exact⟨o1,e1,λv z=>by rw[d1]at z;cases z⟩
 keep:=λi h h' st k=>by
   obtain⟨⟨old,he⟩,h1⟩:=st
   exact⟨⟨old,k e (by simp) _ he⟩,h1.at λo e=>k it (by simp) o e⟩
 item:=by
   intro X hP hw hK hc i pins s σ H E I hf st hg
   subst hP hw hK
   obtain⟨⟨old,he⟩,h1⟩:=st
   obtain⟨xs,x,qa,hx⟩:=hg
   obtain⟨its,rv,p,_⟩:=I.list qa
   obtain⟨u,hu,ru⟩:=rv.get hx
   refine wpAny_pyNext_enum_item he h1 p.isList (x:=u) (by simpa using hu) hne λh' z1 z2 z3 z4 kk=>⟨_,rfl,?_⟩
   refine wpAny_letOwnedTupleGo_enum z1 λh'' z1' sb=>?_
   have nT:∀c o,s.heap.get? c=some o->s.heap.objs.size≠c:=λc o e=>Nat.ne_of_gt (Heap.lt_size e)
   have kT:∀c o,c≠e->h'.get? c=some o->h''.get? c=some o:=λc o hc e=>(sb.2 c hc).trans e
   have I1:qw X pins σ (upd H s.heap.objs.size (.tup [.int (i:Nat),x])) {s with heap:=h'',toks:=s.toks+1}:=I.turnLaid (L:=[e,it]) (t':=s.toks+1)
     (λc o hc e=>kT c o (λz=>hc (by simp [z])) (kk c o (λz=>hc (by simp [z])) (λz=>hc (by simp [z])) e)) hf (Nat.le_refl _)
     ⟨by show 2<=sizeLine;decide,[.int i s.toks,u],.cons ⟨_,rfl⟩ (.cons ru .nil),⟨_,kT _ _ (nT _ _ he) z3,rfl,_,rfl⟩⟩
   refine⟨.ref s.heap.objs.size,_,I1,rfl,⟨s.heap.objs.size,I.hok.fresh (Nat.le_refl _),rfl,λxs' x' qa' hx'=>?_⟩,⟨⟨_,z1'⟩,z2.at λo e=>kT _ o (Ne.symm hne) e⟩,λc hc=>?_⟩
   . rw[I.list_inj qa' qa,hx]at hx'
     cases hx'
     rfl
   . have h0:=(hf c hc).1
     by_cases ec:c=s.heap.objs.size
     . subst ec
       obtain⟨o1,e1,_⟩:=h1
       simp only[List.mem_cons,List.mem_nil_iff,or_false]at hc
       rcases hc with e | e
       . exact absurd e (nT _ _ he)
       . exact absurd e (nT _ _ e1)
     . rw[qf ec];exact h0
 done:=by
   intro X hP hw hK hc i pins s σ H E I hf st hg
   subst hP hw hK
   obtain⟨⟨old,he⟩,h1⟩:=st
   obtain⟨xs,qa,hl⟩:=hg
   obtain⟨its,rv,p,_⟩:=I.list qa
   have l1:=rv.length
   exact wpAny_pyNext_enum_end (I.ok.hd hc) he h1 p.isList (by simp;omega) λh' kk=>⟨rfl,I.turnedL (L:=[e,it]) (t':=s.toks) (λc o hc e=>kk c o (λz=>hc (by simp [z])) e) hf⟩
 self:=λ_ _ _ _ _ st h=>let ⟨⟨_,he⟩,_⟩:=st;wpAny_pyIter_enum he h
section
variable {X:Cx} {elts:List Expr} {x1:Nat} {tpos:Pos}
def xx (K:PySem.W.Frag) (ta:TA):TI:=λσ H R=>ta σ H λvs H1=>∃a,vs=[.ref a]/\(∃xs,SqL K H1 a xs)/\R (ul K a) H1
theorem ZM {a:Expr} {ta:TA} {p pos:Pos} (hg:Gl X "enumerate") (hm:X.mg "enumerate"=none) (ha:JA X [a] ta) (hs:starEach [a] X.env=[(false,eval a X.env)]:=by rfl):JI X (.Tuple elts x1 tpos) (.Call (.Name "enumerate" p) [a] [] pos) (xx X.K ta):=.of (by
 have ha:=ha.to
 intro pins s σ H R I h
 refine Call_ (QC I hg hm boot_enumerate (PyProof.Rows.callWith_type1 (jk (ha pos pins s σ H _ I h) λus s1 ⟨vs,H1,I1,r1,q1⟩=>?_) (by rw[hs];rfl) rfl))
 obtain⟨l,e,⟨xs,qa⟩,q⟩:=q1
 subst e
 cases r1 with
 | cons r rr=>
   cases rr
   cases r
   obtain⟨its,rv,p,_⟩:=I1.list qa
   refine call_enumerate_list p.isList λh' z1 z2 z3 kk=>?_
   refine wpAny_pyIter_enum z1 ?_
   have I2:qw X pins σ H1 {s1 with heap:=h'}:=I1.kept (t':=s1.toks) kk
   have fr:∀c,s1.heap.objs.size<=c->JL X pins H1 c:=λc hc=>I1.fpOk hc (I1.hok.fresh hc)
   refine⟨s1.heap.objs.size+1,[s1.heap.objs.size+1,s1.heap.objs.size],_,_,H1,rfl,I2,VD l (s1.heap.objs.size+1) s1.heap.objs.size (Nat.succ_ne_self _),⟨⟨_,z1⟩,z2⟩,λc hc=>?_,q⟩
   simp only[List.mem_cons,List.mem_nil_iff,or_false]at hc
   rcases hc with e | e<;>rw[e]<;>first | exact fr _ (Nat.le_add_right _ _) | exact fr _ (Nat.le_refl _))
end
theorem zE {K:PySem.W.Frag} {a:Addr} {xs:List V} {g:TG} {tb:TS} {D:QF} {σ:St} {H:Hp} (Pv:Nat->St->Hp->Prop) (h0:Pv 0 σ H) (hl:∀i σ H,i<=xs.length->Pv i σ H->SqL K H a xs)
   (hs:∀i x σ H p,xs[i]?=some x->H p=none->Pv i σ H->g (.ref p) σ (upd H p (.tup [.int (i:Nat),x])) λσ2 H2=>tb {D with nx:=Pv (i+1),ct:=Pv (i+1),bk:=D.nx} σ2 H2) (hd:∀σ H,Pv xs.length σ H->D.nx σ H):
   ∃W:Nat->Nat->St->Hp->Prop,(∃m,W 0 m σ H)/\∀i m σ H,W i m σ H->
    ((ul K a).stop i H/\D.nx σ H)\/((ul K a).go i H/\∃N:St->Hp->Prop,(∀σ' H',N σ' H'->∃m',m' < m/\W (i+1) m' σ' H')/\∀x H',(ul K a).yld i H x H'->g x σ H' λσ2 H2=>tb {D with nx:=N,ct:=N,bk:=D.nx} σ2 H2):=by
 refine⟨λi m σ H=>m=xs.length - i/\i<=xs.length/\Pv i σ H,⟨xs.length,by simp,Nat.zero_le _,h0⟩,?_⟩
 rintro i m σ H ⟨rfl,hi,p⟩
 have qa:=hl i σ H hi p
 by_cases hlt:i < xs.length
 . have ex:xs[i]?=some xs[i]:=List.getElem?_eq_getElem hlt
   refine .inr ⟨⟨xs,_,qa,ex⟩,Pv (i+1),λσ' H' p'=>⟨xs.length - (i+1),by omega,rfl,hlt,p'⟩,λx H' yl=>?_⟩
   obtain⟨pp,hp,rfl,e⟩:=yl
   rw[e xs _ qa ex]
   exact hs i _ σ H pp ex hp p
 . have e:i=xs.length:=by omega
   subst e
   exact .inl ⟨⟨xs,qa,Nat.le_refl _⟩,hd σ H p⟩
theorem Q6 (ns:List Nat):∀i,i<=ns.length->preSum (λj=>((ns.getD j 0:Nat):Int)) i=(((ns.take i).sum:Nat):Int)
 | 0,_=>by simp [preSum]
 | i+1,h=>by
   have hi:i < ns.length:=h
   show preSum _ i+_=_
   rw[Q6 ns i (Nat.le_of_lt hi),List.take_add_one,List.getElem?_eq_getElem hi,List.sum_append]
   simp [List.getD_eq_getElem?_getD,List.getElem?_eq_getElem hi]
theorem Zr (ns:List Nat) (i:Nat):(ns.take i).sum<=ns.sum:=by
 have h:(ns.take i++ns.drop i).sum=ns.sum:=by rw[List.take_append_drop]
 rw[List.sum_append]at h
 omega
theorem XC (ns:List Nat) (i:Nat):ns.getD i 0<=ns.sum:=by
 have h:=Zr ns (i+1)
 rw[List.take_add_one,List.sum_append]at h
 rw[List.getD_eq_getElem?_getD]
 cases e:ns[i]? with
 | none=>exact Nat.zero_le _
 | some x=>
   rw[e]at h
   simp at h ⊢
   omega
section
variable {X:Cx}
theorem Zn (hc:X.calm=true):jU X (.builtin "sum") (λxs H Q=>∃(p:Addr) (ns:List Nat),xs=[.ref p]/\SqL X.K H p (ns.map λn=>V.int ((n:Nat):Int))/\ns.sum < 2^62/\Q (.int (ns.sum:Nat)) H):=by
 intro pins s σ H xs us Q I r h
 obtain⟨p,ns,rfl,hq,hs,q⟩:=h
 obtain⟨u,rfl,rx⟩:=Qh r
 cases rx
 obtain⟨its,rv,pl,hz⟩:=I.list hq
 have hlt:p < s.heap.objs.size:=by
   obtain⟨o,n,e,_⟩:=pl
   exact Heap.lt_size e
 have hn:its.toArray.size=ns.length:=by
   have:=rv.length
   rw[List.length_map]at this
   simp only[List.size_toArray]
   omega
 have hh:X.A.in1.handled=none:=I.ok.hd hc
 refine call_sum_walk (wpAny_pyIter_list pl.isList ?_)
 refine⟨s.heap.objs.size,[s.heap.objs.size,p],[s.heap.objs.size],its.toArray.size,λi v=>its.toArray[i]?=some v,_,λj=>((ns.getD j 0:Nat):Int),rfl,Walks.list hh s.heap.objs.size p (Nat.ne_of_lt hlt) its.toArray,
   ⟨⟨_,Heap.get?_push_size _ rfl,rfl,rfl⟩,pl.isList.at λo e=>Heap.get?_push_of_some _ e⟩,?_,?_,?_,λh' tk t' hk=>?_⟩
 . intro b hb
   show b < (s.heap.push _).objs.size
   rw[Heap.size_push]
   simp only[List.mem_cons,List.mem_nil_iff,or_false]at hb
   rcases hb with e | e
   . rw[e];exact Nat.lt_succ_self _
   . rw[e];exact Nat.lt_succ_of_lt hlt
 . intro i v hP
   have hi:its[i]?=some v:=by simpa using hP
   cases e:ns[i]? with
   | none=>
     exfalso
     have h1:(ns.map λn=>V.int ((n:Nat):Int))[i]?=none:=by rw[List.getElem?_map,e];rfl
     rw[qD.none_of rv h1]at hi
     cases hi
   | some b=>
     have h1:(ns.map λn=>V.int ((n:Nat):Int))[i]?=some (V.int b):=by rw[List.getElem?_map,e];rfl
     obtain⟨u,hu,ru⟩:=rv.get h1
     rw[hi]at hu
     cases hu
     obtain⟨t,rfl⟩:=ru
     refine⟨t,?_⟩
     show Value.int b t=.int ((ns.getD i 0:Nat):Int) t
     rw[List.getD_eq_getElem?_getD,e]
     rfl
 . intro j hj
   rw[hn]at hj
   have h1:=XC ns j
   have h2:=Zr ns (j+1)
   have h3:=Q6 ns (j+1) hj
   refine⟨⟨?_,?_⟩,⟨?_,?_⟩⟩
   . show -(2^63)<=((ns.getD j 0:Nat):Int)
     omega
   . show ((ns.getD j 0:Nat):Int) < 2^63
     omega
   . rw[h3];omega
   . rw[h3];omega
 . rw[hn,Q6 ns _ (Nat.le_refl _),List.take_of_length_le (Nat.le_refl _)]
   refine⟨.int (ns.sum:Nat),H,?_,⟨_,rfl⟩,q⟩
   exact I.kept (h':=h') (t':=tk) λb o e=>hk b o (by
     intro z
     have z':b=s.heap.objs.size:=by simpa using z
     exact absurd (Heap.lt_size e) (by rw[z'];exact Nat.lt_irrefl _)) (Heap.get?_push_of_some _ e)
end
end L2
set_option Elab.async false
set_option linter.all false
set_option maxRecDepth 100000
set_option maxHeartbeats 4000000
namespace L2
open PySem PySem.Spec PyProof.Rows
structure WM (fs:List Addr) (ex:List Addr) (h h':Heap):Prop where
 keep:∀b o,b∉fs->b∉ex->h.get? b=some o->h'.get? b=some o
 slot:∀b o,b∈fs->b∉ex->h.get? b=some o->∃sl,h'.get? b=some {o with slots:=sl}
def kz (T:Addr) (fl:Value) (h:Heap):Prop:=∃ts,h.get? T=some {cls:=.type "traceback",data:=.fields ts}/\ts[3]?=some fl
section
variable {M:Model} {A:Around} {E:Value->Shared->Prop} {s:Shared} {base:Heap} {env:Env} {outer:List Env} {L e:Addr} {cl head:Value} {d:Option Addr} {vs:Array Value} {had:Bool} {Q:Unit->Shared->Prop}
theorem UB (fr:A.frames=some (env::outer)) (ff:s.heap.FunFrames base (env::outer)) (fm:env.frame=some L)
   (he:s.heap.get? e=some {cls:=cl,dict:=d,data:=.fields vs}) (sz:1 < vs.size)
   (k:∀h' T,s.heap.objs.size<=T->WM (Zv (env::outer)) [e] s.heap h'->h'.get? e=some {cls:=cl,dict:=d,data:=.fields (vs.setIfInBounds 1 (.ref T))}->kz T (rawInt L) h'->Q () {s with heap:=h'}):
   wpAny M A (frameOf env >>= λa=>entryPlaceOf L had >>= λpl=>EntryCells.newEntry head a .none (rawInt L) .none pl >>= λb=>setField (.ref e) 1 b) Q E s:=by
 have out:e∉Zv (env::outer):=λz=>by
   obtain⟨_,o,ho,nf⟩:=ff.mem z
   rw[he]at ho
   cases ho
   exact nf vs rfl
 refine wpAny_bind (wpAny_frameOf_fun fr ff fm λh1 so=>?_)
 refine wpAny_bind (wpAny_entryPlaceOf λpl ip=>?_)
 have e1:h1.get? e=some {cls:=cl,dict:=d,data:=.fields vs}:=(so.2.1 e out).trans he
 unfold EntryCells.newEntry newFields
 refine wpAny_bind (wpAny_newObj_type ?_ (ip.sizeOk5 _ _ _ _ _))
 have ne:e≠h1.objs.size:=Nat.ne_of_lt (Heap.lt_size e1)
 refine wpAny_setField (Heap.get?_push_of_some _ e1) rfl sz (k _ h1.objs.size (Nat.le_of_eq so.1.symm) ⟨λb o n1 n2 q=>?_,λb o n1 n2 q=>?_⟩ ?_ ⟨_,(Heap.get?_update_other _ _ ne).trans (Heap.get?_push_size _ rfl),?_⟩)
 . have n3:b≠e:=λz=>n2 (by simp [z])
   rw[Heap.get?_update_other _ _ (Ne.symm n3)]
   exact Heap.get?_push_of_some _ ((so.2.1 b n1).trans q)
 . have n3:b≠e:=λz=>n2 (by simp [z])
   obtain⟨sl,r⟩:=so.2.2 b o q
   exact⟨sl,by rw[Heap.get?_update_other _ _ (Ne.symm n3)];exact Heap.get?_push_of_some _ r⟩
 . exact Heap.get?_update_self _ (Heap.get?_push_of_some _ e1) rfl
 . rcases ip with rfl | ⟨_,_,_,_,_,_,_,rfl⟩<;>simp
theorem Xu (fr:A.frames=some (env::outer)) (ff:s.heap.FunFrames base (env::outer)) (fm:env.frame=some L)
   (he:s.heap.get? e=some {cls:=cl,dict:=d,data:=.fields vs}) (h1:vs[1]?=some .none)
   (k:∀h' T,s.heap.objs.size<=T->WM (Zv (env::outer)) [e] s.heap h'->h'.get? e=some {cls:=cl,dict:=d,data:=.fields (vs.setIfInBounds 1 (.ref T))}->kz T (rawInt L) h'->Q () {s with heap:=h'}):
   wpAny M A (noteFrame (.ref e) env) Q E s:=by
 unfold noteFrame
 simp only[fm]
 refine wpAny_bind (wpAny_field he rfl h1 ?_)
 rw[if_neg (show ¬((Value.none != Value.none)=true) by decide)]
 exact UB fr ff fm he (Array.getElem?_eq_some_iff.mp h1).1 k
theorem V3 {T:Addr} (fm:env.frame=some L) (he:s.heap.get? e=some {cls:=cl,dict:=d,data:=.fields vs}) (h1:vs[1]?=some (.ref T)) (st:kz T (rawInt L) s.heap) (k:Q () s):
   wpAny M A (noteFrame (.ref e) env) Q E s:=by
 obtain⟨ts,ht,h3⟩:=st
 unfold noteFrame
 simp only[fm]
 refine wpAny_bind (wpAny_field he rfl h1 ?_)
 rw[if_pos (show (Value.ref T != Value.none)=true by simp)]
 refine wpAny_bind (wpAny_field ht rfl h3 ?_)
 rw[if_pos (show (rawInt L==rawInt L)=true by simp [rawInt])]
 exact wpAny_pure k
theorem YL {T:Addr} (fr:A.frames=some (env::outer)) (ff:s.heap.FunFrames base (env::outer)) (fm:env.frame=some L)
   (he:s.heap.get? e=some {cls:=cl,dict:=d,data:=.fields vs}) (h1:vs[1]?=some (.ref T)) (st:kz T .none s.heap) (ne:T≠e)
   (k:∀h' T',s.heap.objs.size<=T'->WM (Zv (env::outer)) [e,T] s.heap h'->(∃o,h'.get? T=some o)->h'.get? e=some {cls:=cl,dict:=d,data:=.fields (vs.setIfInBounds 1 (.ref T'))}->kz T' (rawInt L) h'->Q () {s with heap:=h'}):
   wpAny M A (noteFrame (.ref e) env) Q E s:=by
 obtain⟨ts,ht,h3⟩:=st
 unfold noteFrame
 simp only[fm]
 refine wpAny_bind (wpAny_field he rfl h1 ?_)
 rw[if_pos (show (Value.ref T != Value.none)=true by simp)]
 refine wpAny_bind (wpAny_field ht rfl h3 ?_)
 rw[if_neg (show ¬((Value.none==rawInt L)=true) by simp [rawInt])]
 refine wpAny_bind (wpAny_setField ht rfl (Array.getElem?_eq_some_iff.mp h3).1 ?_)
 have oth:∀b,b≠T->(s.heap.update T (Obj.mapFields (·.setIfInBounds 3 Value.none))).get? b=s.heap.get? b:=λb n=>Heap.get?_update_other _ _ (Ne.symm n)
 have tno:T∉Zv (env::outer):=λz=>by
   obtain⟨_,o,ho,nf⟩:=ff.mem z
   rw[ht]at ho
   cases ho
   exact nf ts rfl
 refine UB fr (ff.of_keeps λb o hb nf=>⟨o,(oth b λz=>?_).trans hb,rfl⟩) fm ((oth e (Ne.symm ne)).trans he) (Array.getElem?_eq_some_iff.mp h1).1 λh' T' hT F q1 q2=>?_
 . rw[z,ht]at hb
   cases hb
   exact nf ts rfl
 . have upT:=Heap.get?_update_self (Obj.mapFields (·.setIfInBounds 3 Value.none)) ht rfl
   refine k h' T' (Nat.le_trans (Nat.le_of_eq (by simp)) hT) ⟨λb o n1 n2 q=>?_,λb o n1 n2 q=>?_⟩ ⟨_,F.keep T _ tno (by simp [ne]) upT⟩ q1 q2
   . simp only[List.mem_cons,List.not_mem_nil,or_false,not_or]at n2
     exact F.keep b o n1 (by simp [n2.1]) ((oth b n2.2).trans q)
   . simp only[List.mem_cons,List.not_mem_nil,or_false,not_or]at n2
     exact F.slot b o n1 (by simp [n2.1]) ((oth b n2.2).trans q)
theorem QV {T:Addr} {fl:Value} {fs:List Addr} (he:s.heap.get? e=some {cls:=cl,dict:=d,data:=.fields vs}) (h1:vs[1]?=some (.ref T)) (st:kz T fl s.heap)
   (k:∀h',WM fs [T] s.heap h'->kz T .none h'->Q () {s with heap:=h'}):wpAny M A (setFlight (.ref e) none) Q E s:=by
 obtain⟨ts,ht,h3⟩:=st
 have lt:=(Array.getElem?_eq_some_iff.mp h3).1
 refine wpAny_setFlight_none he rfl h1 ht rfl lt (k _ ⟨λb o _ n q=>?_,λb o _ n q=>⟨o.slots,?_⟩⟩ ⟨_,Heap.get?_update_self _ ht rfl,by simp [lt]⟩)
 all_goals
   rw[Heap.get?_update_other _ _ λz=>n (by simp [z])]
   exact q
end
structure zM (ex:List Addr) (n:Nat) (H H':Hp):Prop where
 ext:∀b∈ex,∃φ,H b=some (.ext φ)
 same:∀b o,b∉ex->H b=some o->H' b=some o
 no:∀b,b < n->H b=none->H' b=none
section
variable {P:Program} {w:World} {fs ex:List Addr} {H H':Hp} {h h':Heap}
theorem zM.out {n:Nat} (t:zM ex n H H') {b:Addr} {o:HO} (q:H b=some o) (hn:∀φ,o≠.ext φ):b∉ex:=λz=>by
 obtain⟨φ,e⟩:=t.ext b z
 rw[q]at e
 cases e
 exact hn φ rfl
theorem zM.out0 {n:Nat} (t:zM ex n H H') {b:Addr} (q:H b=none):b∉ex:=λz=>by
 obtain⟨φ,e⟩:=t.ext b z
 rw[q]at e
 cases e
theorem Un.fly (F:WM fs ex h h') (t:zM ex h.objs.size H H') (th:∀b∈ex,∃o,h'.get? b=some o):Un fs [] H H' h h' where
 keep b o q n hf _:=F.keep b o hf (t.out0 n) q
 slot b o q n hf _:=F.slot b o hf (t.out0 n) q
 free b o q n _:=t.no b (Heap.lt_size q) n
 there b o q _:=by
   by_cases hb:b∈ex
   . exact th b hb
   . by_cases hf:b∈fs
     . obtain⟨sl,r⟩:=F.slot b o hf hb q
       exact⟨_,r⟩
     . exact⟨o,F.keep b o hf hb q⟩
 tups b xs q:=t.same b _ (t.out q (by intro φ z;cases z)) q
 frzs b o u q:=t.same b _ (t.out q (by intro φ z;cases z)) q
 tbls b ps q:=⟨#[],by simpa using t.same b _ (t.out q (by intro φ z;cases z)) q⟩
theorem QZ.fly (ok:QZ P w H h) (F:WM fs ex h h') (t:zM ex h.objs.size H H') (fr:∀b∈fs,H b=none) (new:∀b o,H' b=some o->(H b=none\/b∈ex)->qC P w H' h' b o):QZ P w H' h':=λb o q=>by
 by_cases hb:b∈ex
 . exact new b o q (.inr hb)
 cases e:H b with
 | none=>exact new b o q (.inl e)
 | some u=>
   have r:=t.same b u hb e
   rw[q]at r
   cases r
   refine(ok b o e).stay (λc v hc g=>F.keep c v ?_ ?_ g) (λc z=>t.same c _ (t.out z (by intro φ z;cases z)) z) λc xs z=>t.same c _ (t.out z (by intro φ z;cases z)) z
   . intro z
     have n:=fr c z
     rcases hc with rfl | hc
     . rw[e]at n;cases n
     . rw[hc]at n;cases n
   . rcases hc with rfl | hc
     . exact hb
     . exact t.out hc (by intro φ z;cases z)
end
end L2
namespace L2
open PySem PySem.Spec PyProof.Rows
def zP (T:Addr) (fl:Value):HO:=.ext (kz T fl)
theorem Jv {P:Program} {w:World} {H:Hp} {h:Heap} {T:Addr} {fl:Value} (x:kz T fl h):qC P w H h T (zP T fl):=by
 obtain⟨ts,q,z⟩:=x
 exact⟨⟨ts,q,z⟩,⟨_,q⟩,λh1 h2 ⟨ts',q',z'⟩ k=>⟨ts',k _ q',z'⟩⟩
def Qv (P:Program) (w:World):Yv:=λouter H s E e s'=>∃a C dx T Hx H',e=.ref a/\s'.os=s.os/\AllBare s'.gens/\Un (Zv outer) [] H H' s.heap s'.heap/\QZ P w H' s'.heap/\
 H' a=some (jD a C dx (.ref T))/\H' T=some (zP T .none)/\Hx T=none/\Hx a=some (QL a C dx)/\(∀b o,b≠a->Hx b=some o->H' b=some o)/\E (.ref C) (some dx) Hx
def Y6 (X:Cx) (E:XK):Prop:=∀(pins:List (Addr×Obj)) (σ:St) (H:Hp) (s:Shared) (a C dx:Addr),qw X pins σ H s->H a=some (QL a C dx)->E (.ref C) (some dx) H->X.xe (.ref a) s
section
variable {X:Cx} {pins:List (Addr×Obj)} {σ:St} {H H':Hp} {s:Shared} {h':Heap} {ex:List Addr}
theorem qw.flown (I:qw X pins σ H s) (F:WM (Zv X.stack) ex s.heap h') (t:zM ex s.heap.objs.size H H') (th:∀b∈ex,∃o,h'.get? b=some o)
   (new:∀b o,H' b=some o->(H b=none\/b∈ex)->qC X.prog X.w H' h' b o):qw X pins σ H' {s with heap:=h'}:=
 I.call (g':=s.gens) (t':=s.toks) (d':=s.drawn) (ch:=[]) (Un.fly F t th) (QZ.fly I.hok F t I.stkFree new) I.bare λb z=>absurd z (by simp)
theorem WM.then {fs ex:List Addr} {h h1 h2:Heap} {T:Addr} (F:WM fs ex h h1) (G:WM fs [T] h1 h2) (hT:h.objs.size<=T):WM fs ex h h2 where
 keep b o n1 n2 q:=G.keep b o n1 (by simp;exact Nat.ne_of_lt (Nat.lt_of_lt_of_le (Heap.lt_size q) hT)) (F.keep b o n1 n2 q)
 slot b o n1 n2 q:=by
   obtain⟨sl,r⟩:=F.slot b o n1 n2 q
   obtain⟨sl',r'⟩:=G.slot b _ n1 (by simp;exact Nat.ne_of_lt (Nat.lt_of_lt_of_le (Heap.lt_size q) hT)) r
   exact⟨sl',r'⟩
end
section
variable {P:Program} {w:World} {K:PySem.W.Frag} {mg:Str->Option Value} {base:Heap} {N:List Str} {qual:Str} {scope:Scope} {f:Addr} {cd:Value} {A:Around} {outer:List Env} {s₀:Shared} {H₀:Hp} {E:XK}
theorem Je:Y6 (jS (Qv P w) P w K mg base N qual scope f cd A outer s₀ H₀ E) E:=by
 intro pins σ H s a C dx I ha hE
 obtain⟨⟨fl,he,hz⟩,_,_⟩:=(show qC P w H s.heap a (jD a C dx .none) from I.hok a _ ha)
 have fr:=I.ok.frames
 have ff:=I.stack
 show wpAny _ _ (leaving _ _) _ _ s
 unfold leaving
 refine wpAny_bind (Xu fr ff rfl he hz λh1 T hT F q1 q2=>?_)
 have lt:=(Array.getElem?_eq_some_iff.mp hz).1
 have g1:(fl.setIfInBounds 1 (Value.ref T))[1]?=some (.ref T):=by simp [lt]
 have nT:T≠a:=λz=>by
   obtain⟨ts,q,_⟩:=q2
   rw[z,q1]at q
   cases q
 refine QV (fs:=Zv (jS (Qv P w) P w K mg base N qual scope f cd A outer s₀ H₀ E).stack) q1 g1 q2 λh2 F2 st=>?_
 have anf:a∉Zv (jS (Qv P w) P w K mg base N qual scope f cd A outer s₀ H₀ E).stack:=λz=>by
   have:=I.stkFree a z
   rw[ha]at this
   cases this
 have hTn:H T=none:=I.hok.fresh hT
 have q3:=F2.keep a _ anf (by simp [Ne.symm nT]) q1
 have I2:=I.flown (H':=upd (upd H a (jD a C dx (.ref T))) T (zP T .none)) (WM.then F F2 hT) ⟨λb hb=>by cases List.mem_singleton.mp hb;exact⟨_,ha⟩,λb o hb q=>by
     rw[qf (ql q hTn),qf λz=>hb (by simp [z])];exact q,λb hb q=>by
     rw[qf (Nat.ne_of_lt (Nat.lt_of_lt_of_le hb hT)),qf λz=>by rw[z,ha]at q;cases q];exact q⟩ (λb hb=>by cases List.mem_singleton.mp hb;exact⟨_,q3⟩) λb o q hb=>by
   by_cases e1:b=T
   . subst e1
     rw[qd]at q
     cases q
     exact Jv st
   . rw[qf e1]at q
     by_cases e2:b=a
     . subst e2
       rw[qd]at q
       cases q
       exact Jk ⟨_,q3,g1⟩
     . rw[qf e2]at q
       rcases hb with hb | hb
       . rw[q]at hb;cases hb
       . exact absurd (List.mem_singleton.mp hb) e2
 exact⟨a,C,dx,T,H,_,rfl,I2.os,I2.bare,I2.base,I2.hok,by rw[qf (Ne.symm nT),qd],qd ..,hTn,ha,λb o nb q=>by rw[qf (ql q hTn),qf nb];exact q,hE⟩
theorem Qn:jP (Qv P w) (jS (Qv P w) P w K mg base N qual scope f cd A outer s₀ H₀ E) E:=by
 intro pins σ H s e s' I0 hc
 obtain⟨a,C,dx,T,Hx,H1,rfl,os,bare,un,hok,ha,ht,hxT,hxa,hx,hE⟩:=hc
 have I:qw (jS (Qv P w) P w K mg base N qual scope f cd A outer s₀ H₀ E) pins σ H1 s':=I0.call' os un hok bare λb z=>absurd z (by simp)
 obtain⟨⟨fl,he,hz⟩,_,_⟩:=(show qC P w H1 s'.heap a (jD a C dx (.ref T)) from I.hok a _ ha)
 obtain⟨st0,_,_⟩:=(show qC P w H1 s'.heap T (zP T .none) from I.hok T _ ht)
 have fr:=I.ok.frames
 have ff:=I.stack
 have nT0:T≠a:=λz=>by
   obtain⟨ts,q,_⟩:=st0
   rw[z,he]at q
   cases q
 show wpAny _ _ (leaving _ _) _ _ s'
 unfold leaving
 refine wpAny_bind (YL fr ff rfl he hz st0 nT0 λh1 T' hT F tT q1 q2=>?_)
 have lt:=(Array.getElem?_eq_some_iff.mp hz).1
 have g1:(fl.setIfInBounds 1 (Value.ref T'))[1]?=some (.ref T'):=by simp [lt]
 have nT:T'≠a:=λz=>by
   obtain⟨ts,q,_⟩:=q2
   rw[z,q1]at q
   cases q
 refine QV (fs:=Zv (jS (Qv P w) P w K mg base N qual scope f cd A outer s₀ H₀ E).stack) q1 g1 q2 λh2 F2 st=>?_
 have anf:∀b o,H1 b=some o->b∉Zv (jS (Qv P w) P w K mg base N qual scope f cd A outer s₀ H₀ E).stack:=λb o q z=>by
   have:=I.stkFree b z
   rw[q]at this
   cases this
 have hTn:H1 T'=none:=I.hok.fresh hT
 have nTT:T'≠T:=(ql ht hTn).symm
 have q3:=F2.keep a _ (anf a _ ha) (by simp [Ne.symm nT]) q1
 obtain⟨oT,hoT⟩:=tT
 have q4:=F2.keep T _ (anf T _ ht) (by simp [Ne.symm nTT]) hoT
 have I2:=I.flown (H':=upd (upd (upd H1 a (jD a C dx (.ref T'))) T (.ext λh=>∃o,h.get? T=some o)) T' (zP T' .none)) (WM.then F F2 hT) ⟨λb hb=>by
     simp only[List.mem_cons,List.not_mem_nil,or_false]at hb
     rcases hb with rfl | rfl
     . exact⟨_,ha⟩
     . exact⟨_,ht⟩,λb o hb q=>by
     simp only[List.mem_cons,List.not_mem_nil,or_false,not_or]at hb
     rw[qf (ql q hTn),qf hb.2,qf hb.1];exact q,λb hb q=>by
     rw[qf (Nat.ne_of_lt (Nat.lt_of_lt_of_le hb hT)),qf (λz=>by rw[z,ht]at q;cases q),qf (λz=>by rw[z,ha]at q;cases q)];exact q⟩ (λb hb=>by
     simp only[List.mem_cons,List.not_mem_nil,or_false]at hb
     rcases hb with rfl | rfl
     . exact⟨_,q3⟩
     . exact⟨_,q4⟩) λb o q hb=>by
   by_cases e1:b=T'
   . subst e1
     rw[qd]at q
     cases q
     exact Jv st
   . rw[qf e1]at q
     by_cases e2:b=T
     . subst e2
       rw[qd]at q
       cases q
       exact⟨⟨_,q4⟩,⟨_,q4⟩,λh1 h2 ⟨u,z⟩ k=>⟨u,k u z⟩⟩
     . rw[qf e2]at q
       by_cases e3:b=a
       . subst e3
         rw[qd]at q
         cases q
         exact Jk ⟨_,q3,g1⟩
       . rw[qf e3]at q
         rcases hb with hb | hb
         . rw[q]at hb;cases hb
         . simp only[List.mem_cons,List.not_mem_nil,or_false]at hb
           exact(hb.elim e3 e2).elim
 refine⟨a,C,dx,T',Hx,_,rfl,I2.os,I2.bare,I2.base,I2.hok,by rw[qf (Ne.symm nT),qf (Ne.symm nT0),qd],qd ..,?_,hxa,λb o nb q=>?_,hE⟩
 . cases e:Hx T' with
   | none=>rfl
   | some o=>
     have:=hx T' o nT e
     rw[hTn]at this
     cases this
 . have n1:b≠T:=λz=>by rw[z,hxT]at q;cases q
   have q':=hx b o nb q
   rw[qf (ql q' hTn),qf n1,qf nb]
   exact q'
end
end L2
set_option Elab.async false
set_option linter.all false
set_option maxRecDepth 100000
set_option maxHeartbeats 4000000
namespace L2
open PySem PySem.Spec PyProof.Rows
section
variable {M:Model} {A:Around} {E:Value->Shared->Prop} {s:Shared} {env:Env} {C:Addr}
theorem VU {oC:Obj} {x:Sem Value} {Q:Flow->Shared->Prop} (hh:A.handled=none) (hcl:oC.cls=.type "type")
   (hs:∀(h:Heap) (g d t os) (Q:Bool->Shared->Prop),h.get? C=some oC->Q true ⟨h,g,d,t,os⟩->wpAny M A (isSubtype (.ref C) (.type "BaseException")) Q E ⟨h,g,d,t,os⟩)
   (h:wpAny M A x (λv s₁=>∃e dx fl,v=.ref e/\s₁.heap.get? C=some oC/\s₁.heap.get? e=some {cls:=.ref C,dict:=some dx,data:=.fields fl}/\fl[1]?=some Value.none/\E (.ref e) s₁) E s):
   wpAny M A (raiseStmt env (some x) none) Q E s:=by
 unfold raiseStmt
 refine wpAny_bind (jk h λv s₁ h₁=>?_)
 obtain⟨e,dx,fl,rfl,hC,he,hz,hE⟩:=h₁
 obtain⟨hp,g,d,tk,os⟩:=s₁
 repeat (first | with_reducible refine wpAny_loadPart_at he ?_ | with_reducible refine wpAny_loadPart_at hC ?_ | with_reducible refine hs _ _ _ _ _ _ hC ?_ | wp_step)
 rw[hz]
 refine wpAny_pure ?_
 rw[if_neg (show ¬((Value.none != Value.none)=true) by decide)]
 exact wpAny_pure (wpAny_raiseNew_none hh hE)
end
def wS (K:PySem.W.Frag) (C:Addr):Prop:=∃f bm,um K C f bm/\bm.contains (.type "BaseException")=true
def UW (K:PySem.W.Frag) (E:XK) (te:TE):TS:=λD σ H=>te σ H λv H1=>∃a C dx,v=.ref a/\H1 a=some (QL a C dx)/\wS K C/\E (.ref C) (some dx) H1
section
variable {X:Cx} {E:XK} {e:Expr} {te:TE} {pos:Pos}
theorem J4 (hc:X.calm=true) (hx:Y6 X E) (he:JE X e te):JS X (.Raise (some e) none pos) (UW X.K E te):=.of (by
 have he:=he.to
 intro pins s σ H D I h
 have key:∀x:Sem Value,wpAny (model X.prog X.w) X.A x (λu s1=>∃v H1,qw X pins σ H1 s1/\qO v u/\∃a C dx,v=.ref a/\H1 a=some (QL a C dx)/\wS X.K C/\E (.ref C) (some dx) H1) X.xe s->
     wpAny (model X.prog X.w) X.A (raiseStmt X.env (some x) none) (SP X pins D) X.xe s:=λx hw=>by
   unfold raiseStmt
   refine wpAny_bind (jk hw λu s1 ⟨v,H1,I1,rv,a,C,dx,ev,ha,⟨f,bm,em,hb⟩,hE⟩=>?_)
   subst ev
   obtain rfl:u=Value.ref a:=rv
   obtain⟨nm,q,N,bs,hdct,sn,sub,ab,col,dd,k0,k1,k2,k3,k5,hC⟩:=em.obj
   obtain⟨⟨fl,ho,hz⟩,_,_⟩:=(show qC X.prog X.w H1 s1.heap a (jD a C dx .none) from I1.hok a _ ha)
   have hC':=I1.kIn _ _ hC
   have r:=VU (M:=model X.prog X.w) (A:=X.A) (E:=X.xe) (s:=s1) (env:=X.env) (C:=C) (x:=pure (.ref a)) (Q:=SP X pins D) (I1.ok.hd hc) rfl (λh g d t os Q z k=>wpAny_isSubtype_exc z (by
     rw[show (Value.ref C::bm).contains (.type "BaseException")=true by rw[List.contains_cons,hb,Bool.or_true]];exact k)) (wpAny_pure ⟨a,dx,fl,rfl,hC',ho,hz,hx pins σ H1 s1 a C dx I1 ha hE⟩)
   exact r
 rw[arm_exec_Raise]
 exact wpAny_bind (wpAny_standAt (key _ (wpAny_bind (jk (he pins s σ H _ I h) λu s1 q=>wpAny_bind (wpAny_standAt (wpAny_pure q)))))))
end
end L2
set_option Elab.async false
set_option linter.all false
set_option maxRecDepth 100000
set_option maxHeartbeats 4000000
namespace L2
open PySem PySem.Spec PyProof.Rows
section
variable {M:Model} {A:Around} {E:Value->Shared->Prop}
theorem Ul {h:Heap} {g:Array GenState} {d:Drawn} {t:Nat} {os:OsState} {e C D:Addr} {oe oC:Obj} {ddc:Option Addr} {sld:Array (Option Value)} {cdd} {bC bD:List Value} {Q:Bool->Shared->Prop}
   (he:h.get? e=some oe) (hcls:oe.cls=.ref C) (hC:h.get? C=some oC) (hD:h.get? D=some ⟨.type "type",ddc,.cls cdd,sld⟩)
   (sC:∀(T:Value) (Q:Bool->Shared->Prop),Q (bC.contains T) ⟨h,g,d,t,os⟩->wpAny M A (isSubtype (.ref C) T) Q E ⟨h,g,d,t,os⟩)
   (sD:∀(T:Value) (Q:Bool->Shared->Prop),Q (bD.contains T) ⟨h,g,d,t,os⟩->wpAny M A (isSubtype (.ref D) T) Q E ⟨h,g,d,t,os⟩)
   (hB:bD.contains (.type "BaseException")=true)
   (hq:Q (bC.contains (.ref D)) ⟨h,g,d,t,os⟩):wpAny M A (excMatches (.ref e) (.ref D)) Q E ⟨h,g,d,t,os⟩:=by
 have f:=tc_notTuple
 unfold excMatches
 repeat (first | (with_reducible refine wpAny_loadPart_at he ?_;rw[hcls]) | with_reducible refine wpAny_loadPart_at hD ?_ | (with_reducible refine sC _ _ ?_) | (with_reducible refine sD _ _ ?_;rw[hB]) | wp_step)
 cases hb:bC.contains (.ref D)<;>(rw[hb]at hq;wp_walk;exact hq)
end
end L2
set_option Elab.async false
set_option linter.all false
set_option maxRecDepth 100000
set_option maxHeartbeats 4000000
namespace L2
open PySem PySem.Spec PyProof.Rows
def ZV (CX:Yv) (X:Cx) (E:St->XK):Prop:=∀(pins:List (Addr×Obj)) (σ:St) (H:Hp) (s:Shared) (e:Value) (s':Shared),qw X pins σ H s->CX X.stack H s (E σ) e s'->X.xe e s'
section
variable {X:Cx} {CX:Yv} {k:Nat} {f C:Addr} {fd:FuncData} {ps:List Str} {sp:Sp} {dvs:List V} {ds:List Value} {E:St->XK} {x m:Str} {p pos apos:Pos} {e o:Expr} {es:List Expr} {ta:TE} {t:TA}
theorem yf {pins:List (Addr×Obj)} {σ:St} {H:Hp} {s:Shared} {Q:VK} {us:List Value} {vs:List V} (F:qu X.prog X.w X.K X.mg X.base CX k f fd ps sp) (hr:qW k X.A) (hb:jG X.K fd ps ds) (hd:qD dvs ds) (hx:ZV CX X E)
   (I:qw X pins σ H s) (r:qD vs us) (h:sp (vs++dvs) H Q (E σ)):wpAny (model X.prog X.w) X.A (call (.ref f) us) (EP X pins σ Q) X.xe s:=by
 have rr:qD (vs++dvs) (us++ds):=r.append hd
 have ll:(us++ds).length=ps.length:=rr.length.symm.trans (F.len _ _ _ _ h)
 have run:=F.run X.A X.stack s H ⟨us,[]⟩ (us++ds) (vs++dvs) Q (E σ) hr I.env0 (hb s us I.kIn ll) rr h
 refine wpAny_call (codeAny_mono run λz s' q=>?_)
 match z,q with
 | .error y,q=>exact hx pins σ H s y s' I q
 | .ok (.ret u),q=>exact I.after q
end
end L2
set_option Elab.async false
set_option linter.all false
set_option maxRecDepth 100000
set_option maxHeartbeats 4000000
namespace L2
open PySem PySem.Spec PyProof.Rows
section
variable {X:Cx} {pins:List (Addr×Obj)} {σ:St} {H:Hp} {s:Shared} {a b:Addr} {kvs more:List (qN×V)} {A:Around} {E:Value->Shared->Prop}
end
section
variable {X:Cx} {o e:Expr} {apos cpos:Pos} {td ty:TE}
end
theorem Gs {us:List Value} (h:us.length=0):us=[]:=List.eq_nil_of_length_eq_zero h
theorem yI {us:List Value} {n:Nat} (h:us.length=n+1):∃a r,us=a::r/\r.length=n:=by
 cases us with
 | nil=>cases h
 | cons a r=>exact⟨a,r,rfl,Nat.succ.inj h⟩
theorem J1 {us:List Value} (h:us.length=1):∃a,us=[a]:=by
 obtain⟨a,r,rfl,h'⟩:=yI h
 exact⟨a,by rw[Gs h']⟩
theorem Zl {us:List Value} (h:us.length=2):∃a b,us=[a,b]:=by
 obtain⟨a,r,rfl,h'⟩:=yI h
 obtain⟨b,rfl⟩:=J1 h'
 exact⟨a,b,rfl⟩
theorem vG {us:List Value} (h:us.length=3):∃a b c,us=[a,b,c]:=by
 obtain⟨a,r,rfl,h'⟩:=yI h
 obtain⟨b,c,rfl⟩:=Zl h'
 exact⟨a,b,c,rfl⟩
theorem wz {us:List Value} (h:us.length=4):∃a b c d,us=[a,b,c,d]:=by
 obtain⟨a,r,rfl,h'⟩:=yI h
 obtain⟨b,c,d,rfl⟩:=vG h'
 exact⟨a,b,c,d,rfl⟩
end L2
set_option Elab.async false
set_option linter.all false
set_option maxRecDepth 100000
set_option maxHeartbeats 4000000
namespace L2
open PySem PySem.Spec PyProof.Rows
abbrev Cx.suite (X:Cx) (a:Value) (E:Value->Shared->Prop):Cx:={X with A:=X.A.mark (some a),calm:=false,xe:=E}
abbrev Cx.tried (X:Cx) (pn:List (Addr×Obj)) (E:Value->Shared->Prop):Cx:={X with xe:=E,pn:=pn}
section
variable {X:Cx} {pins:List (Addr×Obj)} {σ:St} {H:Hp} {s:Shared} {E:Value->Shared->Prop} {a:Value}
theorem Cx.Ok.suite (o:X.Ok) (a:Value) (E:Value->Shared->Prop):(X.suite a E).Ok:=⟨o.mod,o.kind,o.glob,o.blt,o.above,o.inj,o.has,o.cab,λz=>Bool.noConfusion z,o.frames,o.stk,o.exf,o.bs,o.bsz,o.noex,o.exfs,o.funs,o.frf⟩
theorem Cx.Ok.tried (o:X.Ok) (pn:List (Addr×Obj)) (E:Value->Shared->Prop):(X.tried pn E).Ok:=⟨o.mod,o.kind,o.glob,o.blt,o.above,o.inj,o.has,o.cab,o.hd,o.frames,o.stk,o.exf,o.bs,o.bsz,o.noex,o.exfs,o.funs,o.frf⟩
theorem qw.suite (I:qw X pins σ H s) (a:Value) (E:Value->Shared->Prop):qw (X.suite a E) pins σ H s:=⟨I.ok.suite a E,I.os,I.bare,I.base,I.loc,I.cell,I.free,I.freeC,I.pin,I.hok,I.len⟩
theorem qw.unsuite {σ0:St} {H0:Hp} {s0:Shared} (I0:qw X pins σ0 H0 s0) (I:qw (X.suite a E) pins σ H s):qw X pins σ H s:=⟨I0.ok,I.os,I.bare,I.base,I.loc,I.cell,I.free,I.freeC,I.pin,I.hok,I.len⟩
theorem qw.tried (I:qw X pins σ H s) (E:Value->Shared->Prop):qw (X.tried (X.pn++pins) E) [] σ H s:=⟨I.ok.tried _ E,I.os,I.bare,I.base,I.loc,I.cell,I.free,I.freeC,λp hp=>I.pin p (by simpa using hp),I.hok,I.len⟩
theorem qw.untried {pins':List (Addr×Obj)} {σ0:St} {H0:Hp} {s0:Shared} (I0:qw X pins σ0 H0 s0) (I:qw (X.tried (X.pn++pins) E) pins' σ H s):qw X pins σ H s:=⟨I0.ok,I.os,I.bare,I.base,I.loc,I.cell,I.free,I.freeC,λp hp=>I.pin p (List.mem_append_left _ hp),I.hok,I.len⟩
theorem ZR {M:Model} {A:Around} {F:Value->Shared->Prop} {i:Nat} {x:Str} {pos:Pos} {Q:Unit->Shared->Prop} (I:qw X pins σ H s) (hN:X.N.Nodup) (hi:X.N[i]?=some x) (hk:X.env.scope.names.lookup x=some .local)
   (h:∀s',qw X pins (σ.set i none) H s'->Q () s'):wpAny M A (do bindName X.env x .none;unbindBehindTheSuite X.env x pos) Q F s:=by
 obtain⟨m,hn,hl⟩:=id I.loc
 have hcls:(X.env.scope.kind==.class || (X.env.scope.kind==.module&&X.env.locals != X.env.globals))=false:=by rw[I.ok.kind];rfl
 have hiσ:i < σ.length:=by rw[I.len];exact(List.getElem?_eq_some_iff.mp hi).1
 have cne:=I.cne
 have tracked:∀{a:Addr} {h':Heap},(∃o,s.heap.get? a=some o/\H a=none)->Heap.SameBut a s.heap h'->QZ X.prog X.w H h':=λ{a h'} ha hs b ob e=>by
   obtain⟨_,_,hfree⟩:=ha
   refine(I.hok b ob e).stay (λc w' hc q=>(hs.2 c ?_).trans q) (λ_ q=>q) λ_ _ q=>q
   rintro rfl
   rcases hc with rfl | hc
   . rw[hfree]at e;cases e
   . rw[hfree]at hc;cases hc
 refine wpAny_nameGoes_keeps hk hn hcls λh' v0 hn' hs=>?_
 obtain⟨oL,_,_,hoL,_⟩:=id hn
 refine h _ ⟨I.ok,I.os,I.bare,⟨λb o e n hb hx=>?_,λb o e n hb hx=>?_,I.base.free,λb o e hx=>?_,I.base.tups,I.base.frzs,I.base.tbls⟩,⟨_,hn',λj y v' e1 e2 e3=>?_⟩,λy c e=>?_,I.free,I.freeC,λp hp=>?_,tracked ⟨oL,hoL,I.free⟩ hs,by simpa using I.len⟩
 . exact(hs.2 b (Nat.ne_of_lt (Nat.lt_of_lt_of_le (Heap.lt_size e) I.ok.above))).trans (I.base.keep b o e n hb hx)
 . obtain⟨sl,e1⟩:=I.base.slot b o e n hb hx
   exact⟨sl,(hs.2 b (Nat.ne_of_lt (Nat.lt_of_lt_of_le (Heap.lt_size e) I.ok.above))).trans e1⟩
 . obtain⟨o',e1⟩:=I.base.there b o e hx
   exact⟨o',(hs.2 b (Nat.ne_of_lt (Nat.lt_of_lt_of_le (Heap.lt_size e) I.ok.above))).trans e1⟩
 . by_cases hj:j=i
   . subst hj
     rw[List.getElem?_set_self hiσ]at e2
     cases e2
   . rw[List.getElem?_set_ne (Ne.symm hj)]at e2
     obtain⟨u',r',q⟩:=hl j y v' e1 e2 e3
     refine⟨u',r',?_⟩
     rcases q with ⟨k,e⟩ | ⟨k,c,e,z⟩
     . refine .inl ⟨k,?_⟩
       have:y≠x:=λe=>hj (zk hN e1 (e▸hi))
       simp [this,e]
     . exact .inr ⟨k,c,e,z.sameBut hs (cne y c e)⟩
 . obtain⟨w',z⟩:=I.cell y c e
   exact⟨w',z.sameBut hs (cne y c e)⟩
 . obtain⟨e,n,ne,nf,d⟩:=I.pin p hp
   exact⟨(hs.2 p.1 ne).trans e,n,ne,nf,d⟩
end
abbrev TH:=Addr->Addr->Addr->TS
def PH (X:Cx) (hs:List ExceptHandler) (t:TH):Prop:=
 ∀(pins:List (Addr×Obj)) (s:Shared) (σ:St) (H:Hp) (D:QF) (a C dx T:Addr),qw X pins σ H s->H a=some (jD a C dx (.ref T))->H T=some (zP T .none)->t C a dx D σ H->
   wpAny (model X.prog X.w) X.A (handleBy (.ref a) X.env hs) (SP X pins D) X.xe s
def kh:TH:=λ_ _ _ _ _ _=>False
theorem V4 {X:Cx} {hs:List ExceptHandler}:PH X hs kh:=λ_ _ _ _ _ _ _ _ _ _ _ _ h=>h.elim
def QF.gone (D:QF) (j:Nat):QF:={nx:=λσ H=>D.nx (σ.set j none) H,rt:=D.rt,bk:=λσ H=>D.bk (σ.set j none) H,ct:=λσ H=>D.ct (σ.set j none) H}
def WT (K:PySem.W.Frag) (Cl:Addr) (j:Nat) (ts:TS) (tr:TH):TH:=λC a dx D σ H=>∃f bm,um K C f bm/\
 if (Value.ref C::bm).contains (.ref Cl)=true then ts (D.gone j) (σ.set j (some (.ref a))) H else tr C a dx D σ H
def xa (K:PySem.W.Frag) (C:Addr):Prop:=∃bm,(∃nm q N bs hdct sn sub ab col dd k0 k1 k2 k3 k5,K.lookup C=some (excClassObj nm q C N bs bm hdct sn sub ab col dd k0 k1 k2 k3 k5 "ValueError.__new__"))/\bm.contains (.type "BaseException")=true
theorem WF {X:Cx} {x n:Str} {p pos:Pos} {j:Nat} {b₀:Stmt} {suite:List Stmt} {rest:List ExceptHandler} {ts:TS} {tr:TH} {Cl:Addr} (hg:Gl X x) (hm:X.mg x=some (.ref Cl)) (hD:xa X.K Cl) (hN:X.N.Nodup) (hj:X.N[j]?=some n)
   (hl:X.env.scope.names.lookup n=some .local) (hs:∀v E,kG (X.suite v E) (b₀::suite) ts) (hr:PH X rest tr) (hdb:(x==("__debug__":Str))=false:=by decide):PH X (.ExceptHandler (some (.Name x p)) (some n) (b₀::suite) pos::rest) (WT X.K Cl j ts tr):=by
 intro pins s σ H D a C dx T I ha hT h
 obtain⟨f,bm,em,h⟩:=h
 obtain⟨bm',em',hB⟩:=hD
 refine wpAny_handleBy_cons (codeAny_handlers_test ?_) (by intro q;cases q)
 refine wpAny_mono (Vb (X:=X.suite (.ref a) _) (v:=.ref Cl) hg hm rfl hdb pins s σ H (λv H'=>v=.ref Cl/\H'=H) (I.suite _ _) ⟨rfl,rfl⟩) (λc s₁ q=>?_) (λ_ _ z=>z)
 obtain⟨v,H',I1,rv,rfl,rfl⟩:=q
 obtain rfl:c=Value.ref Cl:=rv
 have I2:qw X pins σ H' s₁:=I.unsuite I1
 obtain⟨nm,q,N,bs,hdct,sn,sub,ab,col,dd,k0,k1,k2,k3,k5,hC⟩:=em.obj
 obtain⟨nm',q',N',bs',hdct',sn',sub',ab',col',dd',k0',k1',k2',k3',k5',hC'⟩:=em'
 obtain⟨⟨fl,he,hz⟩,_,_⟩:=(show qC X.prog X.w H' s₁.heap a (jD a C dx (.ref T)) from I2.hok a _ ha)
 obtain⟨st,_,_⟩:=(show qC X.prog X.w H' s₁.heap T (zP T .none) from I2.hok T _ hT)
 have gC:=I2.kIn _ _ hC
 have gD:=I2.kIn _ _ hC'
 obtain⟨hp,g,d,tk,os⟩:=s₁
 refine Ul (bC:=Value.ref C::bm) (bD:=Value.ref Cl::bm') he rfl gC gD (λT Q k=>wpAny_isSubtype_exc gC k) (λT Q k=>wpAny_isSubtype_exc gD k) (by rw[List.contains_cons,hB,Bool.or_true]) ?_
 cases hb:(Value.ref C::bm).contains (.ref Cl) with
 | false=>
   rw[hb,if_neg Bool.false_ne_true]at h
   exact hr pins _ σ H' D a C dx T I2 ha hT h
 | true=>
   rw[hb,if_pos rfl]at h
   refine(show codeAny _ _ _ _ _ from codeAny_handlers_suite_as ?_)
   refine QV (fs:=Zv X.stack) he hz st λh' F st'=>?_
   have I3:qw X pins σ H' {heap:=h',gens:=g,drawn:=d,toks:=tk,os:=os}:=I2.flown (H':=H') F ⟨λb hb'=>by cases List.mem_singleton.mp hb';exact⟨_,hT⟩,λb o _ z=>z,λb _ z=>z⟩ (λb hb'=>by cases List.mem_singleton.mp hb';obtain⟨ts',z,_⟩:=st';exact⟨_,z⟩) λb o z hb'=>by
     rcases hb' with hb' | hb'
     . rw[z]at hb';cases hb'
     . cases List.mem_singleton.mp hb'
       rw[hT]at z
       cases z
       exact Jv st'
   refine ZX I3 hN hj (.inl hl) (v:=.ref a) rfl (λs' I4=>?_) (.inr hl)
   refine wpAny_mono (hs (.ref a) _ pins s' _ H' (D.gone j) (I4.suite _ _) h) (λfl s3 q=>?_) (λ_ _ z=>z)
   cases fl with
   | next=>
     obtain⟨σ3,H3,I5,q⟩:=q
     exact ZR (I.unsuite I5) hN hj hl λs4 I6=>⟨_,_,I6,q⟩
   | brk=>
     obtain⟨σ3,H3,I5,q⟩:=q
     exact ZR (I.unsuite I5) hN hj hl λs4 I6=>⟨_,_,I6,q⟩
   | cont=>
     obtain⟨σ3,H3,I5,q⟩:=q
     exact ZR (I.unsuite I5) hN hj hl λs4 I6=>⟨_,_,I6,q⟩
   | ret u=>
     obtain⟨v,σ3,H3,I5,r,q⟩:=q
     exact ZR (I.unsuite I5) hN hj hl λs4 I6=>⟨v,_,_,I6,r,q⟩
def uF (tb:(St->XK)->TS) (th:TH):TS:=λD σ H=>∃R:Addr->Addr->Hp->Prop,tb (λσ' c d Hx=>σ'=σ/\∃C dx,c=.ref C/\d=some dx/\R C dx Hx) D σ H/\
 ∀(a C dx T:Addr) (Hx H':Hp),R C dx Hx->Hx a=some (QL a C dx)->(∀b o,b≠a->Hx b=some o->H' b=some o)->H' a=some (jD a C dx (.ref T))->th C a dx D σ H'
theorem kQ {X:Cx} {body:List Stmt} {h0:ExceptHandler} {hs:List ExceptHandler} {tb:(St->XK)->TS} {th:TH} {pos:Pos} (hst:X.stack=X.env::X.outer) (hfm:X.env.frame=some X.env.locals)
   (hb:∀(pn:List (Addr×Obj)) (W:Value->Shared->Prop) (E:St->XK),ZV (Qv X.prog X.w) (X.tried pn W) E->kG (X.tried pn W) body (tb E)) (hh:PH X (h0::hs) th):PS X (.Try body (h0::hs) [] [] pos) (uF tb th):=by
 intro pins s σ H D I h
 obtain⟨R,hbd,hx⟩:=h
 refine wpAny_Try_except ?_
 refine wpAny_mono (hb (X.pn++pins) (λe s₁=>wpAny (model X.prog X.w) X.A (noteFrame e X.env) (λ_ s₂=>wpAny (model X.prog X.w) X.A (setFlight e none) (λ_ s₃=>wpAny (model X.prog X.w) X.A (handleBy e X.env (h0::hs)) (SP X pins D) X.xe s₃) X.xe s₂) X.xe s₁) _ ?_ [] s σ H D (I.tried _) hbd) (λf s1 q=>?_) (λ_ _ z=>z)
 . intro pins' σ' H1 s1 e s' I1 hc
   obtain⟨a,C,dx,T,Hx,H2,rfl,os,bare,un,hok,ha,ht,hxT,hxa,hxs,rfl,C',dx',eC,eD,hR⟩:=hc
   cases eC
   cases eD
   have I2:qw X pins σ' H2 s':=I.untried (I1.call' os un hok bare λb z=>absurd z (by simp))
   obtain⟨⟨fl,he,hz⟩,_,_⟩:=(show qC X.prog X.w H2 s'.heap a (jD a C dx (.ref T)) from I2.hok a _ ha)
   obtain⟨st0,_,_⟩:=(show qC X.prog X.w H2 s'.heap T (zP T .none) from I2.hok T _ ht)
   have nT0:T≠a:=λz=>by
     obtain⟨ts,q,_⟩:=st0
     rw[z,he]at q
     cases q
   have fr:=I2.ok.frames
   have ff:=I2.stack
   rw[hst]at fr ff
   refine YL fr ff hfm he hz st0 nT0 λh1 T' hT F tT q1 q2=>?_
   have lt:=(Array.getElem?_eq_some_iff.mp hz).1
   have g1:(fl.setIfInBounds 1 (Value.ref T'))[1]?=some (.ref T'):=by simp [lt]
   have nT:T'≠a:=λz=>by
     obtain⟨ts,q,_⟩:=q2
     rw[z,q1]at q
     cases q
   refine QV (fs:=Zv X.stack) q1 g1 q2 λh2 F2 stt=>?_
   have anf:∀b o,H2 b=some o->b∉Zv X.stack:=λb o q z=>by
     have:=I2.stkFree b z
     rw[q]at this
     cases this
   have hTn:H2 T'=none:=I2.hok.fresh hT
   have nTT:T'≠T:=(ql ht hTn).symm
   have q3:=F2.keep a _ (anf a _ ha) (by simp [Ne.symm nT]) q1
   obtain⟨oT,hoT⟩:=tT
   have q4:=F2.keep T _ (anf T _ ht) (by simp [Ne.symm nTT]) hoT
   rw[<-hst]at F
   have I3:=I2.flown (H':=upd (upd (upd H2 a (jD a C dx (.ref T'))) T (.ext λh=>∃o,h.get? T=some o)) T' (zP T' .none)) (WM.then F F2 hT) ⟨λb hb=>by
       simp only[List.mem_cons,List.not_mem_nil,or_false]at hb
       rcases hb with rfl | rfl
       . exact⟨_,ha⟩
       . exact⟨_,ht⟩,λb o hb q=>by
       simp only[List.mem_cons,List.not_mem_nil,or_false,not_or]at hb
       rw[qf (ql q hTn),qf hb.2,qf hb.1];exact q,λb hb q=>by
       rw[qf (Nat.ne_of_lt (Nat.lt_of_lt_of_le hb hT)),qf (λz=>by rw[z,ht]at q;cases q),qf (λz=>by rw[z,ha]at q;cases q)];exact q⟩ (λb hb=>by
       simp only[List.mem_cons,List.not_mem_nil,or_false]at hb
       rcases hb with rfl | rfl
       . exact⟨_,q3⟩
       . exact⟨_,q4⟩) λb o q hb=>by
     by_cases e1:b=T'
     . subst e1
       rw[qd]at q
       cases q
       exact Jv stt
     . rw[qf e1]at q
       by_cases e2:b=T
       . subst e2
         rw[qd]at q
         cases q
         exact⟨⟨_,q4⟩,⟨_,q4⟩,λh1 h2 ⟨u,z⟩ k=>⟨u,k u z⟩⟩
       . rw[qf e2]at q
         by_cases e3:b=a
         . subst e3
           rw[qd]at q
           cases q
           exact Jk ⟨_,q3,g1⟩
         . rw[qf e3]at q
           rcases hb with hb | hb
           . rw[q]at hb;cases hb
           . simp only[List.mem_cons,List.not_mem_nil,or_false]at hb
             exact(hb.elim e3 e2).elim
   have ea:upd (upd (upd H2 a (jD a C dx (.ref T'))) T (.ext λh=>∃o,h.get? T=some o)) T' (zP T' .none) a=some (jD a C dx (.ref T')):=by rw[qf (Ne.symm nT),qf (Ne.symm nT0),qd]
   refine hh pins _ σ' _ D a C dx T' I3 ea qd (hx a C dx T' Hx _ hR hxa (λb o nb q=>?_) ea)
   have n1:b≠T:=λz=>by rw[z,hxT]at q;cases q
   have q':=hxs b o nb q
   rw[qf (ql q' hTn),qf n1,qf nb]
   exact q'
 . cases f with
   | next=>
     obtain⟨σ',H',I',q⟩:=q
     exact wpAny_execs_nil ⟨σ',H',I.untried I',q⟩
   | brk=>
     obtain⟨σ',H',I',q⟩:=q
     exact⟨σ',H',I.untried I',q⟩
   | cont=>
     obtain⟨σ',H',I',q⟩:=q
     exact⟨σ',H',I.untried I',q⟩
   | ret u=>
     obtain⟨v,σ',H',I',r,q⟩:=q
     exact⟨v,σ',H',I.untried I',r,q⟩
@[irreducible] def JH (X:Cx) (hs:List ExceptHandler) (t:TH):Prop:=PH X hs t
theorem JH.of {X:Cx} {hs:List ExceptHandler} {t:TH} (h:PH X hs t):JH X hs t:=by unfold JH;exact h
theorem JH.to {X:Cx} {hs:List ExceptHandler} {t:TH} (h:JH X hs t):PH X hs t:=by unfold JH at h;exact h
theorem vQ {X:Cx} {hs:List ExceptHandler}:JH X hs kh:=.of V4
theorem vR {X:Cx} {x n:Str} {p pos:Pos} {j:Nat} {b₀:Stmt} {suite:List Stmt} {rest:List ExceptHandler} {ts:TS} {tr:TH} {Cl:Addr} (hg:Gl X x) (hm:X.mg x=some (.ref Cl)) (hD:xa X.K Cl) (hN:X.N.Nodup) (hj:X.N[j]?=some n)
   (hl:X.env.scope.names.lookup n=some .local) (hs:∀v E,zU (X.suite v E) (b₀::suite) ts) (hr:JH X rest tr) (hdb:(x==("__debug__":Str))=false:=by decide):JH X (.ExceptHandler (some (.Name x p)) (some n) (b₀::suite) pos::rest) (WT X.K Cl j ts tr):=
 .of (WF hg hm hD hN hj hl (λv E=>(hs v E).to) hr.to hdb)
theorem wE {X:Cx} {body:List Stmt} {h0:ExceptHandler} {hs:List ExceptHandler} {tb:(St->XK)->TS} {th:TH} {pos:Pos} (hst:X.stack=X.env::X.outer) (hfm:X.env.frame=some X.env.locals)
   (hb:∀(pn:List (Addr×Obj)) (W:Value->Shared->Prop) (E:St->XK),ZV (Qv X.prog X.w) (X.tried pn W) E->zU (X.tried pn W) body (tb E)) (hh:JH X (h0::hs) th):JS X (.Try body (h0::hs) [] [] pos) (uF tb th):=
 .of (kQ hst hfm (λpn W E h=>(hb pn W E h).to) hh.to)
def uu (K:PySem.W.Frag) (bm:List Value) (ta:TE) (f:Str):TE:=λσ H Q=>ta σ H λx H1=>∃a C dx hd fs v,x=.ref a/\H1 a=some (jD a C dx hd)/\H1 dx=some (.xd fs)/\Ze K C bm/\j9 K C f/\fs.lookup f=some v/\Q v H1
def x6 (K:PySem.W.Frag) (bm:List Value):List V->Hp->VK->Prop:=λxs H Q=>∃a C dx hd fs c b,xs=[.ref a,c]/\xv c=true/\H a=some (jD a C dx hd)/\H dx=some (.xd fs)/\Ze K C bm/\PySem.W.kitOne K (.ref C) (yZ c)=some b/\Q (.bl b) H
section
variable {X:Cx} {f:Str} {e:Expr} {pos:Pos} {ta:TE} {bm:List Value}
theorem yO (he:JE X e ta) (hb:attributeBase e f X.env (eval e X.env)=eval e X.env):JE X (.Attribute e f pos) (uu X.K bm ta f):=.of (by
 have he:=he.to
 intro pins s σ H Q I h
 refine Vu hb (jk (he pins s σ H _ I h) λu s1 z=>?_)
 obtain⟨x,H1,I1,rx,a,C,dx,hd,fs,v,ex,ea,ed,c,n,l,q⟩:=z
 subst ex
 obtain rfl:u=Value.ref a:=rx
 exact Ui I1 ea ed c n l λu' s2 I2 ru=>⟨v,H1,I2,ru,q⟩)
theorem Jd (hn:PySem.W.specialIn X.K (.builtin "object.__class__") "__get__"=some (some (.builtin "getset_descriptor.__get__"))) (htk:PySem.W.takesIn X.K (.builtin "object.__class__")=some true):jU X (.builtin "isinstance") (x6 X.K bm):=by
 intro pins s σ H xs us Q I r h
 obtain⟨a,C,dx,hd,fs,c,b,rfl,hc,ha,hdx,ec,ek,q⟩:=h
 obtain⟨u,w',rfl,ru,rw'⟩:=Xd r
 have ew:w'=yZ c:=by
   cases c with
   | ty n=>exact rw'
   | ref z=>exact rw'
   | _=>cases hc
 subst ew
 cases ru
 exact vW I ha hdx ec hn htk ek λtk=>⟨.bl b,H,I.tok tk,rfl,q⟩
end
end L2
set_option Elab.async false
set_option linter.all false
set_option maxRecDepth 100000
set_option maxHeartbeats 4000000
namespace PySem
open PySem.Spec
namespace F
theorem plain_dupd_loop:plainId "dict.update.loop"=true:=by decide+kernel
theorem entry_dupd_loop:entryFor table "dict.update.loop"=some Builtin.«dict.update.loop»:=entryFor_of_fast (by kernel_rfl)
end F
theorem Heap.DictOf.keepsAt {prog:Program} {w:World} {κ:Type} [DecidableEq κ] {knd:KeyKind prog w κ} {h h':Heap} {a:Addr} {kvs:List (κ×Value)} (hm:h.DictOf knd a kvs) (k:∀o,h.get? a=some o->h'.get? a=some o):h'.DictOf knd a kvs:=
 let ⟨o,es,ep,ho,r⟩:=hm;⟨o,es,ep,k o ho,r⟩
section
variable {prog:Program} {w:World} {A:Around} {R:Result->Shared->Prop} {I:Addr} {fp wr:List Addr} {n:Nat} {P:Nat->Value->Prop} {St:Nat->Heap->Prop} {κ:Type} [DecidableEq κ] {knd:KeyKind prog w κ}
def wT (knd:KeyKind prog w κ) (h:Heap) (wr:List Addr) (d:Addr) (v:Value) (kv:κ×Value):Prop:=∃p o c k,v=.ref p/\h.get? p=some o/\o.cls=.type "tuple"/\o.data=.seq #[k,kv.2] c/\knd.is kv.1 k=true/\p∉wr/\p≠d
theorem Za (W:Walks prog w A.in1 I fp wr n P St) (kv:Nat->κ×Value) (d:Addr) (hdf:d∉fp) (hn:n<=1000):
   ∀(k i:Nat) (s:Shared) (t:Tok) (kvs:List (κ×Value)),n - i=k->i<=n->St i s.heap->s.heap.DictOf knd d kvs->kvs.length<=i->(∀j v,P j v->wT knd s.heap wr d v (kv j))->
   (∀h' tk,h'.DictOf knd d (merged kvs (((List.range n).drop i).map kv))->(∀b o,b∉wr->b≠d->s.heap.get? b=some o->h'.get? b=some o)->R (.ok (.ret .none)) {s with heap:=h',toks:=tk})->
   codeAny (model prog w) A (.builtin "dict.update.loop" ⟨[.ref d,.ref I,.int i t,.none],[]⟩) R s:=by
 have hdw:d∉wr:=λh=>hdf (W.sub _ h)
 intro k
 induction k with
 | zero=>
   intro i s t kvs hk hi hst hd hl hp hR
   have hin:i=n:=by omega
   subst hin
   refine codeAny_builtin F.entry_dupd_loop ?_
   rw[Around.under_plainId F.plain_dupd_loop _]
   show wpAny _ A.in1 (pyNext (.ref I) >>= _) _ _ s
   refine wpAny_bind (W.done s _ _ hst λh' tk hk'=>?_)
   show wpAny _ A.in1 (Builtin.Dict.addKeywords d [] >>= _) _ _ _
   refine wpAny_bind (wpAny_pure (wpAny_pure (hR h' tk ?_ λb o hb _ e=>hk' b o hb e)))
   rw[List.drop_of_length_le (by simp)]
   exact hd.keepsAt λo e=>hk' d o hdw e
 | succ k ih=>
   intro i s t kvs hk hi hst hd hl hp hR
   have hlt:i < n:=by omega
   refine codeAny_builtin F.entry_dupd_loop ?_
   rw[Around.under_plainId F.plain_dupd_loop _]
   show wpAny _ A.in1 (pyNext (.ref I) >>= _) _ _ s
   refine wpAny_bind (W.item i s _ _ hlt hst λv h' tk hP hst' hk'=>?_)
   obtain⟨p,o,c,key,rfl,ho,hc,hdat,hkey,hpw,hpd⟩:=hp i v hP
   have ho':=hk' p o hpw ho
   have hd':h'.DictOf knd d kvs:=hd.keepsAt λo e=>hk' d o hdw e
   have ty:(⟨h',s.gens,s.drawn,tk,s.os⟩:Shared).TypeIs (.ref p) "tuple":=⟨o,ho',hc⟩
   refine wpAny_bind (wpAny_holding (wpAny_bind (wpAny_tryCatch ?_)))
   unfold Builtin.Dict.pairItems
   refine wpAny_bind (wpAny_typeOf ty ?_)
   rw[if_pos (by decide)]
   refine wpAny_bind (wpAny_seqItems ho' hdat (wpAny_pure ?_))
   refine(show wpAny _ _ (holding [key,(kv i).2] (dictSet d key (kv i).2)) _ _ _ from wpAny_holding (wpAny_dictSet_pairs hkey hd' (λh'' dd hs=>?_) (by rw[sizeLine_eq];omega)))
   refine wpAny_pure ⟨plainId_quiet F.plain_dupd_loop _,?_⟩
   have keep:∀b o,b∉wr->b≠d->s.heap.get? b=some o->h''.get? b=some o:=λb o hb hbd e=>(hs.2 b hbd).trans (hk' b o hb e)
   have len:(stored kvs (kv i).1 (kv i).2).length<=i+1:=by
     have:=stored_length_le kvs (kv i).1 (kv i).2
     omega
   refine ih (i+1) _ _ (stored kvs (kv i).1 (kv i).2) (by omega) hlt (W.frame _ _ _ hst' λb hb o e=>(hs.2 b (λz=>hdf (z▸hb))).trans e) dd len (λj v hj=>?_) λh3 tk3 d3 k3=>?_
   . obtain⟨p,o,c,k,e1,e2,r⟩:=hp j v hj
     exact⟨p,o,c,k,e1,keep p o r.2.2.2.1 r.2.2.2.2 e2,r⟩
   . refine hR h3 tk3 ?_ λb o hb hbd e=>k3 b o hb hbd (keep b o hb hbd e)
     have e:(List.range n).drop i=i::(List.range n).drop (i+1):=by
       rw[List.drop_eq_getElem_cons (by simpa using hlt)]
       simp
     rw[e]
     exact d3
end
section
variable {prog:Program} {w:World} {A:Around} {E:Value->Shared->Prop} {s:Shared} {κ:Type} [DecidableEq κ] {knd:KeyKind prog w κ}
theorem YM:typeLookup (.type "list") "keys"=pure none:=by rw[typeLookup_type,builtinLookup_eq_fast];kernel_rfl
theorem YN {a:Addr} {o:Obj} {xs:Array Value} {k:Nat} {Q:Option Value->Shared->Prop} (hx:s.heap.get? a=some o) (hc:o.cls=.type "list") (hdat:o.data=.seq xs k) (hd:o.dict=none) (hA:A.handled=none)
   (h:∀h' tk,(∀b o,s.heap.get? b=some o->h'.get? b=some o)->Q none {s with heap:=h',toks:=tk}):wpAny (model prog w) A (getAttr? (.ref a) "keys") Q E s:=by
 obtain⟨c,dct,dat,sl⟩:=o
 simp only at hc hdat hd
 subst hc hdat hd
 obtain⟨hp,g,d,tk,os⟩:=s
 have hT:∀tk',(⟨hp,g,d,tk',os⟩:Shared).TypeIs (.ref a) "list":=λ_=>⟨_,hx,rfl⟩
 have f1:=sub_AttributeError
 have f3:=F.slot_list_getattribute.lookup
 have f4:=F.slot_list_getattribute.bind (.ref a)
 have f5:=am_list_getattr_none
 unfold getAttr? getAttrBy? getAttrBy
 repeat (any_goals (first | assumption | exact hT _ | ((with_reducible show wpAny _ _ (call (Value.builtin "list.__getattribute__") _ _) _ _ _);refine call_meets F.slot_list_getattribute (hT _) am_entry_list_getattribute (F.args_list_getattribute_2 _ _) (meets_getattribute_miss_list a xs k sl "keys" _ YM (by decide+kernel)) ⟨hx,hA,λh' tk' e hx'=>?_⟩) | wp_step))
 obtain⟨t',u',he⟩:=hx'.there
 show wpAny _ _ (getattributeRaised _ _ _ _ _ _ _) _ _ _
 unfold getattributeRaised
 repeat (any_goals (first | assumption | wp_step))
 exact h _ _ hx'.of.keeps
theorem ZC {src:Addr} {items:Array Value} {kv:Nat->κ×Value} {Q:Value->Shared->Prop} (pl:PlainL s.heap src items) (hp:∀j v,items[j]?=some v->∃p o c key,v=.ref p/\s.heap.get? p=some o/\o.cls=.type "tuple"/\o.data=.seq #[key,(kv j).2] c/\knd.is (kv j).1 key=true)
   (hn:items.size<=1000) (hA:A.handled=none)
   (h:∀h' tk,h'.DictOf knd s.heap.objs.size (merged [] ((List.range items.size).map kv))->(∀b o,s.heap.get? b=some o->h'.get? b=some o)->Q (.ref s.heap.objs.size) {s with heap:=h',toks:=tk}):
   wpAny (model prog w) A (call (.type "dict") [.ref src]) Q E s:=by
 refine callType_codes (Q₁:=λobj s₁=>obj=.ref s.heap.objs.size/\s₁={s with heap:=s.heap.push {cls:=.type "dict",data:=.dict #[]}}) F.kt_called_dict (F.kt_typeCall_dict_1 _) F.entry_dict_init (kt_code_dict_new _ ⟨rfl,rfl⟩) ?_
 rintro obj s₁ ⟨rfl,rfl⟩
 have hnew:(s.heap.push {cls:=.type "dict",data:=.dict #[]}).DictOf knd s.heap.objs.size []:=Heap.DictOf.new s.heap
 have hp0:∀b o,s.heap.get? b=some o->(s.heap.push {cls:=.type "dict",data:=.dict #[]}).get? b=some o:=λb o e=>Heap.get?_push_of_some _ e
 obtain⟨ol,nl,ho,hc,hd,hdat⟩:=id pl
 have ty:(⟨s.heap.push {cls:=.type "dict",data:=.dict #[]},s.gens,s.drawn,s.toks,s.os⟩:Shared).TypeIs (.ref src) "list":=⟨ol,hp0 _ _ ho,hc⟩
 refine⟨hnew.typeIs,F.args_dict_init_2 _ _,?_⟩
 unfold Builtin.«dict.__init__»
 refine wpAny_bind ?_
 unfold Builtin.Dict.selfAndRest
 refine wpAny_bind (wpAny_notOrdered_dict hnew.typeIs ?_)
 show wpAny _ _ (pure (s.heap.objs.size,[Value.ref src])) _ _ _
 refine wpAny_pure ?_
 show wpAny _ _ (Builtin.Dict.updateFrom "dict.__init__" s.heap.objs.size (.ref src) [] .none) _ _ _
 unfold Builtin.Dict.updateFrom
 refine wpAny_bind (wpAny_typeOf ty ?_)
 rw[if_pos (by decide)]
 refine wpAny_bind (YN (hp0 _ _ ho) hc hdat hd hA λh1 tk1 k1=>?_)
 rw[if_pos (show (none:Option Value).isNone=true from rfl)]
 refine wpAny_bind (wpAny_rule ?_)
 have pl1:PlainL h1 src items:=⟨ol,nl,k1 _ _ (hp0 _ _ ho),hc,hd,hdat⟩
 have hlt:src < h1.objs.size:=Heap.lt_size (k1 _ _ (hp0 _ _ ho))
 have hnew1:h1.DictOf knd s.heap.objs.size []:=hnew.keepsAt λo e=>k1 _ o e
 have hld:s.heap.objs.size < h1.objs.size:=by
   obtain⟨o,_,_,e,_⟩:=hnew1
   exact Heap.lt_size e
 refine wpAny_bind (wpAny_pyIter_list pl1.isList ?_)
 refine wpAny_pure ⟨plainId_quiet F.plain_dupd_loop _,?_⟩
 have W:=Walks.list (prog:=prog) (w:=w) (A:=A.in1.in1) hA h1.objs.size src (Nat.ne_of_lt hlt) items
 have nsrc:s.heap.objs.size≠src:=Ne.symm (Nat.ne_of_lt (Heap.lt_size ho))
 refine Za (A:=A.in1) W kv s.heap.objs.size (by simp only[List.mem_cons,List.mem_nil_iff,or_false,not_or];exact⟨Nat.ne_of_lt hld,nsrc⟩) hn items.size 0 _ _ [] (by omega) (Nat.zero_le _)
   ⟨⟨_,Heap.get?_push_size _ rfl,rfl,rfl⟩,pl1.isList.at λo e=>Heap.get?_push_of_some _ e⟩ (hnew1.push _) (Nat.zero_le _) (λj v hj=>?_) λh2 tk2 d2 k2=>⟨rfl,h h2 tk2 d2 λb o e=>?_⟩
 . obtain⟨p,o,c,key,e1,e2,e3,e4,e5⟩:=hp j v hj
   have e2':=k1 _ _ (hp0 _ _ e2)
   refine⟨p,o,c,key,e1,Heap.get?_push_of_some _ e2',e3,e4,e5,?_,Nat.ne_of_lt (Heap.lt_size e2)⟩
   simp only[List.mem_cons,List.mem_nil_iff,or_false]
   exact Nat.ne_of_lt (Heap.lt_size e2')
 . have e':=k1 _ _ (hp0 _ _ e)
   refine k2 b o ?_ (Nat.ne_of_lt (Heap.lt_size e)) (Heap.get?_push_of_some _ e')
   simp only[List.mem_cons,List.mem_nil_iff,or_false]
   exact Nat.ne_of_lt (Heap.lt_size e')
end
end PySem
namespace L2
open PySem PySem.Spec PyProof.Rows
section
variable {X:Cx} {pins:List (Addr×Obj)} {σ:St} {H:Hp} {s:Shared}
def Wj (K:PySem.W.Frag):List V->Hp->VK->Prop:=λxs H Q=>∃(p:Addr) (ps:List Addr) (kvs:List (qN×V)),xs=[.ref p]/\SqL K H p (ps.map V.ref)/\ps.length=kvs.length/\(∀(i:Nat) (a:Addr) (kv:qN×V),ps[i]?=some a->kvs[i]?=some kv->Zc K H a [kV kv.1,kv.2])/\kvs.length<=1000/\
 ∀d,H d=none->Q (.ref d) (upd H d (.dK (Qg [] kvs)))
theorem zg (I:qw X pins σ H s):∀(ps:List Addr) (kvs:List (qN×V)),ps.length=kvs.length->(∀(i:Nat) (a:Addr) (kv:qN×V),ps[i]?=some a->kvs[i]?=some kv->Zc X.K H a [kV kv.1,kv.2])->
   ∃rs:List (qN×Value),KV kvs rs/\rs.length=ps.length/\∀(i:Nat) (a:Addr),ps[i]?=some a->∃kv o c key,rs[i]?=some kv/\s.heap.get? a=some o/\o.cls=.type "tuple"/\o.data=.seq #[key,kv.2] c/\(qY X.prog X.w).is kv.1 key=true
 | [],[],_,_=>⟨[],.nil,rfl,λi a e=>by simp at e⟩
 | [],_::_,h,_=>by cases h
 | _::_,[],h,_=>by cases h
 | a::ps,kv::kvs,h,k=>by
   obtain⟨rs,r1,r2,r3⟩:=zg I ps kvs (Nat.succ.inj h) λi a' kv' e1 e2=>k (i+1) a' kv' (by simpa using e1) (by simpa using e2)
   obtain⟨its,rv,⟨o,e,c1,n1,d1⟩,_⟩:=I.tuple (k 0 a kv rfl rfl)
   cases rv with
   | cons ra rt=>
     cases rt with
     | cons rb rn=>
       cases rn
       rename_i u1 u2
       refine⟨(kv.1,u2)::rs,.cons ⟨rfl,rb⟩ r1,by simp [r2],λi a' e'=>?_⟩
       cases i with
       | zero=>
         cases e'
         exact⟨_,o,n1,u1,rfl,e,c1,d1,zv ra⟩
       | succ i=>exact r3 i a' (by simpa using e')
theorem JK (hc:X.calm=true):jU X (.type "dict") (Wj X.K):=by
 intro pins s σ H xs us Q I r h
 obtain⟨p,ps,kvs,rfl,hl,le,hps,hz,q⟩:=h
 obtain⟨u,rfl,ru⟩:=Qh r
 cases ru
 obtain⟨its,rv,pl,_⟩:=I.list hl
 obtain rfl:=Zf rv
 obtain⟨rs,r1,r2,r3⟩:=zg I ps kvs le hps
 have hsz:(ps.map Value.ref).toArray.size=rs.length:=by simp [r2]
 have hR:(List.range (ps.map Value.ref).toArray.size).map (λj=>(rs[j]?).getD (Sum.inl 0,Value.none))=rs:=by
   rw[hsz]
   refine List.ext_getElem? λi=>?_
   rw[List.getElem?_map]
   by_cases hi:i < rs.length
   . rw[List.getElem?_range hi,List.getElem?_eq_getElem hi]
     simp [hi]
   . rw[List.getElem?_eq_none (by rw[List.length_range];omega),List.getElem?_eq_none (by omega)]
     rfl
 refine ZC (knd:=qY X.prog X.w) (kv:=λj=>(rs[j]?).getD (Sum.inl 0,Value.none)) pl (λj v hj=>?_) (by rw[hsz,r2,le];exact hz) (I.ok.hd hc) λh' tk dd kp=>?_
 . have hj':(ps.map Value.ref)[j]?=some v:=by simpa using hj
   rw[List.getElem?_map]at hj'
   cases e:ps[j]? with
   | none=>rw[e]at hj';cases hj'
   | some a=>
     rw[e]at hj'
     obtain⟨kv,o,c,key,f1,f2,f3,f4,f5⟩:=r3 j a e
     refine⟨a,o,c,key,(Option.some.inj hj').symm,f2,f3,?_,?_⟩
     . show o.data=.seq #[key,((rs[j]?).getD (Sum.inl 0,Value.none)).2] c
       rw[f1]
       exact f4
     . show (qY X.prog X.w).is ((rs[j]?).getD (Sum.inl 0,Value.none)).1 key=true
       rw[f1]
       exact f5
 . rw[hR]at dd
   have hn:=I.hok.fresh (Nat.le_refl s.heap.objs.size)
   have big:(s.heap.objs.size==sysModules)=false:=beq_eq_false_iff_ne.mpr (Ne.symm (Nat.ne_of_lt I.big))
   have hlen:(Qg [] kvs).length<=sizeLine:=by
     have:=QB kvs []
     rw[List.length_nil]at this
     rw[sizeLine_eq]
     omega
   exact⟨.ref s.heap.objs.size,_,I.laid (a:=s.heap.objs.size) (o:=.dK (Qg [] kvs)) (h':=h') (t':=tk) kp (Nat.le_refl _) (WE hlen big (r1.merge .nil) dd),rfl,q _ hn⟩
end
end L2
set_option Elab.async false
set_option linter.all false
set_option maxRecDepth 100000
set_option maxHeartbeats 4000000
namespace L2
open PySem PySem.Spec PySem.W PyProof.Rows
theorem wn {α:Type} {l:List α} (nd:l.Nodup) {i j:Nat} {hi:i < l.length} {hj:j < l.length} (e:l[i]=l[j]):i=j:=by
 have h:=List.pairwise_iff_getElem.mp nd
 rcases Nat.lt_trichotomy i j with c | c | c
 . exact absurd e (h i j hi hj c)
 . exact c
 . exact absurd e.symm (h j i hj hi c)
section
variable {α β:Type} {lt:Nat->Nat->Bool} {n:Nat}
def evT (lt:Nat->Nat->Bool):KasT α->α
 | .ret a=>a
 | .ask i j k=>evT lt (k (lt i j))
end
def ltS (zs:List Str) (i j:Nat):Bool:=decide ((zs.getD i "").cps.toList < (zs.getD j "").cps.toList)
def srt (zs:List Str):List Nat:=if zs.length < 2 then List.range zs.length else (evT (ltS zs) (kas_sort zs.length)).toList
section
variable {P:Program} {w:World} {B:Around} {F:Value->Shared->Prop} {z:Shared}
end
section
variable {X:Cx} {o:Expr} {td:TE} {p1 p2 pos1 pos2 ap cp:Pos}
end
section
variable {X:Cx}
def uS (K:PySem.W.Frag):R2:=λx y H Q=>∃a b xs ys,x=.ref a/\y=.ref b/\SqL K H a xs/\SqL K H b ys/\xs.length+ys.length<=sizeLine/\∀l,H l=none->Q (.ref l) (upd H l (.lst (xs++ys)))
theorem Paired.app {α β:Type} {G:α->β->Prop}:∀{l m:List α} {l' m':List β},Paired G l l'->Paired G m m'->Paired G (l++m) (l'++m')
 | _,_,_,_,.nil,h=>h
 | _,_,_,_,.cons a r,h=>.cons a (Paired.app r h)
theorem YJ:Zd X (binaryOp .Add) (uS X.K):=by
 intro pins s σ H x y v u Q I rx ry h
 obtain⟨a,b,xs,ys,rfl,rfl,ha,hb,hz,q⟩:=h
 cases rx
 cases ry
 obtain⟨its,rv,pl,_⟩:=I.list ha
 obtain⟨its2,rv2,pl2,_⟩:=I.list hb
 have l1:=rv.length
 have l2:=rv2.length
 obtain⟨⟨cls,dd,data,sl⟩,ho,hc,n,hd⟩:=id pl.isList
 obtain⟨⟨cls2,dd2,data2,sl2⟩,ho2,hc2,n2,hd2⟩:=id pl2.isList
 simp only at hc hd hc2 hd2
 subst hc hd hc2 hd2
 have e:its.toArray++its2.toArray=(its++its2).toArray:=by simp
 refine concat_meets ⟨_,ho,rfl⟩ ⟨_,ho2,rfl⟩ noFill_list_add seq_list_add PySem.F.slot_list_add PySem.F.entry_list_add (PySem.F.args_list_add_2 _ _) (list_addW a b its.toArray its2.toArray n n2 dd dd2 sl sl2 (by simp only[List.size_toArray];omega)) ⟨ho,ho2,?_⟩
 rw[e]
 exact⟨.ref s.heap.objs.size,_,I.laid (t':=s.toks) (o:=.lst (xs++ys)) (λb u h=>Heap.get?_push_of_some _ h) (Nat.le_refl _) ⟨by rw[List.length_append];exact hz,its++its2,_,Paired.app rv rv2,Heap.get?_push_size _ rfl⟩,rfl,q _ (I.hok.fresh (Nat.le_refl _))⟩
end
end L2
set_option Elab.async false
set_option linter.all false
set_option maxRecDepth 100000
set_option maxHeartbeats 4000000
namespace L2
open PySem PySem.Spec PySem.W PyProof.Rows
section
variable {X:Cx}
def uM (K:PySem.W.Frag):R2:=λx y H Q=>∃(a b:Addr) (xs:List V),x=.ref a/\y=.ref b/\SqL K H a xs/\SqL K H b []/\Q (.bl (!xs.isEmpty)) H
theorem yn (hu:X.A.units < cLine):Zd X (compareOp .NotEq) (uM X.K):=by
 intro pins s σ H x y v u Q I rx ry h
 obtain⟨a,b,xs,rfl,rfl,ha,hb,q⟩:=h
 cases rx
 cases ry
 obtain⟨its,rv,pl,_⟩:=I.list ha
 obtain⟨its2,rv2,pl2,_⟩:=I.list hb
 have l2:its2=[]:=List.eq_nil_of_length_eq_zero rv2.length.symm
 subst l2
 cases xs with
 | nil=>
   have l1:its=[]:=List.eq_nil_of_length_eq_zero rv.length.symm
   subst l1
   exact EqBoolInt.of_rcne (SeqAt.RcNeAt.lists (e:=λ_=>true) pl.isList pl2.isList rfl hu λj h1 h2=>absurd h1 (Nat.not_lt_zero j)) ⟨.bl _,H,I,rfl,q⟩
 | cons x xs=>
   cases its with
   | nil=>cases rv
   | cons u' us'=>exact EqBoolInt.of_rcne (SeqAt.RcNeAt.lists_lengths pl.isList pl2.isList (by simp) hu) ⟨.bl true,H,I,rfl,q⟩
end
end L2
set_option Elab.async false
set_option linter.all false
set_option maxRecDepth 100000
set_option maxHeartbeats 4000000
namespace L2
open PySem PySem.Spec PySem.W PyProof.Rows
section
variable {P:Program} {w:World} {B:Around} {F:Value->Shared->Prop} {z:Shared}
end
section
variable {X:Cx}
end
end L2
set_option Elab.async false
set_option linter.all false
set_option maxRecDepth 100000
set_option maxHeartbeats 4000000
namespace L2
open PySem PySem.Spec PySem.W PyProof.Rows
section
variable {prog:Program} {w:World} {A:Around} {R:Result->Shared->Prop} {I:Addr} {fp wr:List Addr} {G:Array GenState->Array GenState->Prop} {n:Nat} {P:Nat->Value->Prop} {St:Nat->Shared->Prop}
end
section
variable {prog:Program} {w:World} {A:Around} {E:Value->Shared->Prop} {s:Shared}
end
section
variable {X:Cx} {e:Expr} {te:TE} {p1 p2 pos1 pos2:Pos}
end
end L2
set_option Elab.async false
set_option linter.all false
set_option maxRecDepth 100000
set_option maxHeartbeats 4000000
namespace L2
open PySem PyProof.Rows
end L2
set_option Elab.async false
set_option linter.all false
set_option maxRecDepth 100000
set_option maxHeartbeats 4000000
namespace L2
open PySem PyProof.Rows
section
variable {prog:Program} {w:World} {KK:Type} [DecidableEq KK] {kd:HeapKind prog w KK} {A:Around} {E:Value->Shared->Prop} {s:Shared}
end
section
variable {X:Cx} {pins:List (Addr×Obj)} {σ:St} {H:Hp} {s:Shared} {a b:Addr} {v:V} {r:Value} {A:Around} {E:Value->Shared->Prop}
end
section
variable {X:Cx} {o e f:Expr} {apos cpos:Pos} {td ty tx:TE}
end
end L2
set_option Elab.async false
set_option linter.all false
set_option maxRecDepth 100000
set_option maxHeartbeats 4000000
namespace L2
open PySem PyProof.Rows
section
variable {X:Cx}
end
end L2
set_option Elab.async false
set_option linter.all false
set_option maxRecDepth 100000
set_option maxHeartbeats 4000000
namespace L2
open PySem PySem.Spec PyProof.Rows
section
variable {X:Cx} {pins:List (Addr×Obj)} {σ:St} {H:Hp} {s:Shared} {tg:Expr}
def WD (o:Obj):Nat:=match o.data with
 | .dict _ ep=>ep
 | _=>0
theorem yK {P:Program} {w:World} {kvs:List (qN×V)} {vs:List (qN×Value)} {zs:List Str} (rel:KV kvs vs) (ek:kvs.map (·.1)=zs.map Sum.inr) {i:Nat} {z:Str} {k:qN} {y v:Value} (ez:zs[i]?=some z) (f1:vs[i]?=some (k,y)) (f2:(qY P w).is k v=true):qO (.str z) v:=by
 have hi:i < kvs.length:=by
   have h1:=(List.getElem?_eq_some_iff.mp ez).1
   have h2:kvs.length=zs.length:=by simpa using congrArg List.length ek
   omega
 obtain⟨q',g1,g2,_⟩:=Qa rel (List.getElem?_eq_getElem hi)
 rw[f1]at g1
 cases g1
 have h1:(kvs.map (·.1))[i]?=some kvs[i].1:=by rw[List.getElem?_map,List.getElem?_eq_getElem hi];rfl
 rw[ek,List.getElem?_map,ez]at h1
 have e3:k=Sum.inr z:=g2.symm.trans (Option.some.inj h1).symm
 subst e3
 rcases jg (show zu (Sum.inr z) v=true from f2) with ⟨_,_,c,_⟩ | ⟨w',t,c,rfl⟩
 . cases c
 . cases c
   exact⟨t,rfl⟩
end
section
variable {a:Addr} {o:Obj} {kvs:List (qN×V)} {zs:List Str} {g:TG} {σ:St} {H:Hp}
end
end L2
set_option Elab.async false
set_option linter.all false
set_option maxRecDepth 100000
set_option maxHeartbeats 4000000
namespace L2
open PySem PySem.Spec PyProof.Rows
section
variable {P:Program} {w:World} {K:PySem.W.Frag} {mg:Str->Option Value} {base:Heap}
theorem Qe.okX {CX:Yv} {x qual:Str} {st:Stmt} {f:Addr} {fd:FuncData} {N ps:List Str} {k:Nat} {sp:Sp} (F:Qe K x qual st f fd) (S:qB N ps (qm st)) (len:∀vs H Q E,sp vs H Q E->vs.length=ps.length)
   (hbody:∀(cdv:Value) (A:Around) (outer:List Env) (s:Shared) (H:Hp) (vs:List V) (Q:VK) (E:XK),qW k (A.deeper (envOfC qual (qm st) s.heap.objs.size f cdv))->sp vs H Q E->
     ∃t,zU (jS CX P w K mg base N qual (qm st) f cdv A outer s H E) (jX st) t/\t {nx:=λ_ H'=>Q .non H',rt:=Q} (QG N vs) H):qu P w K mg base CX (k+1) f fd ps sp:=by
 obtain⟨oc,od,kV,doc,pm,an,cdv,ct,osl,rfl,lk,hcd⟩:=F.ex
 refine xy lk hcd S len λA outer s H vs Q E hr hsp=>?_
 obtain⟨t,h,q⟩:=hbody cdv A outer s H vs Q E hr hsp
 exact⟨t,h.to,q⟩
end
section
variable {X:Cx} {es:List Expr} {t:TA} {pos:Pos}
end
end L2
set_option Elab.async false
set_option linter.all false
set_option maxRecDepth 100000
set_option maxHeartbeats 4000000
namespace L2
open PySem PySem.Spec PyProof.Rows
section
variable {X:Cx}
def x8 (K:PySem.W.Frag) (neg:Bool):R2:=λx y H Q=>∃d ds,DV K H x d/\DV K H y (.list ds)/\d.canLay0=true/\PyData.canLayAll0 ds=true/\d.depth<=40/\Q (.bl (if neg then !(ds.any λz=>PyData.eqv z d) else ds.any λz=>PyData.eqv z d)) H
theorem Ya (hu:X.A.units+64 < cLine):Zd X (compareOp .NotIn) (x8 X.K true):=by
 intro pins s σ H x y v u Q I rx ry h
 obtain⟨d,ds,h1,h2,c1,c2,dp,q⟩:=h
 obtain⟨as,ra⟩:=h1.reads I rx
 obtain⟨bs,rb⟩:=h2.reads I ry
 refine SeqAt.notIn_list_reads rb ra c2 c1 ?_ ⟨.bl _,H,I,rfl,q⟩
 have:=Nat.min_le_right (PyData.depthAll ds) d.depth
 omega
end
end L2
namespace L2
open PySem PySem.Spec PyProof.Rows
end L2
set_option Elab.async false
set_option linter.all false
set_option maxRecDepth 100000
set_option maxHeartbeats 4000000
namespace L2
open PySem PySem.Spec PyProof.Rows
section
variable {X:Cx} {pins pins0:List (Addr×Obj)} {σ σ0:St} {H H0:Hp} {s s0:Shared}
end
section
variable {X:Cx}
end
end L2
namespace L2
open PySem PyProof.Rows
end L2
set_option Elab.async false
set_option linter.all false
set_option maxRecDepth 100000
set_option maxHeartbeats 4000000
namespace HT
open PySem PySem.Spec PyProof.Rows
section
variable {prog:Program} {w:World} {A:Around} {E:Value->Shared->Prop} {s:Shared}
end
end HT
namespace L2
open PySem PySem.Spec PyProof.Rows
section
variable {X:Cx}
end
end L2
namespace L2
open PySem PyProof.Rows
theorem kr {K:PySem.W.Frag} {a D:Addr} {xs:List V} {g:TG} {tt:TT} {te:TE} {σ:St} {H:Hp} {Q:Hp->Prop} (Pv:Nat->St->Hp->Prop) (h0:Pv 0 σ (upd H D (.lst []))) (hl:∀i σ' H',i<=xs.length->Pv i σ' H'->SqL K H' a xs)
   (hs:∀i x σ' H' p,xs[i]?=some x->H' p=none->Pv i σ' H'->g (.ref p) σ' (upd H' p (.tup [.int (i:Nat),x])) (Yt tt te D (Pv (i+1)))) (hd:∀σ' H',Pv xs.length σ' H'->Q H'):Yy (ul K a) g tt te D σ H Q:=
 zJ (n:=xs.length) Pv h0 (λi σ' H' hi p=>⟨⟨xs,xs[i],hl i σ' H' (Nat.le_of_lt hi) p,by simp [hi]⟩,λx H2 y=>by
   obtain⟨pp,hp,rfl,e⟩:=y
   rw[e xs _ (hl i σ' H' (Nat.le_of_lt hi) p) (List.getElem?_eq_getElem hi)]
   exact hs i _ σ' H' pp (List.getElem?_eq_getElem hi) hp p⟩) λσ' H' p=>⟨⟨xs,hl _ σ' H' (Nat.le_refl _) p,Nat.le_refl _⟩,hd σ' H' p⟩
end L2
set_option Elab.async false
set_option linter.all false
set_option maxRecDepth 100000
set_option maxHeartbeats 4000000
namespace L2
open PySem PySem.Spec PyProof.Rows
def xH (i:Nat) (C:Addr->Sp->Prop) (E:St->XK) (t:TA):TE:=λσ H Q=>∃f sp,σ[i]?=some (some (.ref f))/\C f sp/\t σ H λvs H1=>sp vs H1 Q (E σ)
section
variable {X:Cx} {CX:Yv} {C:Addr->Sp->Prop} {E:St->XK} {x:Str} {p pos:Pos} {e:Expr} {es:List Expr} {t:TA} {i:Nat}
theorem vT (hN:X.N[i]?=some x) (hv:ug X.env.scope x) (hC:∀f sp,C f sp->∃(k:Nat) (fd:FuncData) (ps:List Str),qu X.prog X.w X.K X.mg X.base CX k f fd ps sp/\qW k X.A/\PySem.W.keepIn X.K (.ref f)=true/\jG X.K fd ps []) (hx:ZV CX X E) (ha:JA X (e::es) t) (hdb:(x==("__debug__":Str))=false:=by decide) (hcd:(x==("__classdict__":Str))=false:=by decide) (he:starEach (e::es) X.env=(false,eval e X.env)::starEach es X.env:=by rfl) (hpl:(backTo pos (starEach es X.env)).any (·.1)=false:=by rfl):JE X (.Call (.Name x p) (e::es) [] pos) (xH i C E t):=.of (by
 have ha:=ha.to
 intro pins s σ H Q I h
 obtain⟨f,sp,eσ,c,h⟩:=h
 obtain⟨k,fd,ps,F,hr,hk,hb⟩:=hC f sp c
 refine wpAny_Call_Name_kw (jk (vd hN hv hdb hcd pins s σ H (λv H'=>v=.ref f/\H'=H) I ⟨_,eσ,rfl,rfl⟩) λu s1 ⟨v,H1,I1,r1,e1,e2⟩=>?_)
 subst e1 e2
 cases r1
 exact PySem.W.callWith_K (h₀:=X.base) I1.ok.mod.kin hk (jk (ha pos pins s1 σ _ _ I1 h) λus s2 ⟨vs,H2,I2,r,q⟩=>⟨I2.kIn,yf F hr hb .nil hx I2 r (by simpa using q)⟩) he hpl)
end
end L2
set_option Elab.async false
set_option linter.all false
set_option maxRecDepth 100000
set_option maxHeartbeats 4000000
namespace L2
open PySem PySem.Spec PyProof.Rows
section
variable {M:Model} {A:Around} {F:Value->Shared->Prop} {s:Shared} {e:Addr} {cl:Value} {d:Option Addr} {vs:Array Value} {Q:Unit->Shared->Prop}
theorem WB {T:Addr} {fl:Value} {fs:List Addr} {fr:Option Addr} (he:s.heap.get? e=some {cls:=cl,dict:=d,data:=.fields vs}) (h1:vs[1]?=some (.ref T)) (st:kz T fl s.heap)
   (k:∀h',WM fs [T] s.heap h'->kz T (fr.elim .none λf=>rawInt f) h'->Q () {s with heap:=h'}):wpAny M A (setFlight (.ref e) fr) Q F s:=by
 obtain⟨ts,ht,h3⟩:=st
 have lt:=(Array.getElem?_eq_some_iff.mp h3).1
 unfold setFlight
 refine wpAny_bind (wpAny_field he rfl h1 ?_)
 rw[if_pos (show (Value.ref T != Value.none)=true from by simp)]
 refine wpAny_setField ht rfl lt (k _ ⟨λb o _ n q=>?_,λb o _ n q=>⟨o.slots,?_⟩⟩ ⟨_,Heap.get?_update_self _ ht rfl,by simp [lt]⟩)
 all_goals
   rw[Heap.get?_update_other _ _ λz=>n (by simp [z])]
   exact q
end
section
variable {X:Cx} {pins:List (Addr×Obj)} {σ:St} {H:Hp} {s:Shared} {M:Model} {F:Value->Shared->Prop} {Q:Unit->Shared->Prop} {a C dx:Addr}
theorem yV (I:qw X pins σ H s) (hst:X.stack=X.env::X.outer) (hfm:X.env.frame=some X.env.locals) (ha:H a=some (QL a C dx))
   (k:∀T h',H T=none->T≠a->qw X pins σ (upd (upd H a (jD a C dx (.ref T))) T (zP T (rawInt X.env.locals))) {s with heap:=h'}->Q () {s with heap:=h'}):wpAny M X.A (noteFrame (.ref a) X.env) Q F s:=by
 obtain⟨⟨fl,he,hz⟩,_,_⟩:=(show qC X.prog X.w H s.heap a (jD a C dx .none) from I.hok a _ ha)
 have fr:=I.ok.frames
 have ff:=I.stack
 rw[hst]at fr ff
 refine Xu fr ff hfm he hz λh1 T hT F1 q1 q2=>?_
 rw[<-hst]at F1
 have lt:=(Array.getElem?_eq_some_iff.mp hz).1
 have g1:(fl.setIfInBounds 1 (Value.ref T))[1]?=some (.ref T):=by simp [lt]
 have nT:T≠a:=λz=>by
   obtain⟨ts,q,_⟩:=q2
   rw[z,q1]at q
   cases q
 have hTn:H T=none:=I.hok.fresh hT
 refine k T h1 hTn nT (I.flown F1 ⟨λb hb=>by cases List.mem_singleton.mp hb;exact⟨_,ha⟩,λb o hb q=>by
     rw[qf (ql q hTn),qf λz=>hb (by simp [z])];exact q,λb hb q=>by
     rw[qf (Nat.ne_of_lt (Nat.lt_of_lt_of_le hb hT)),qf λz=>by rw[z,ha]at q;cases q];exact q⟩ (λb hb=>by cases List.mem_singleton.mp hb;exact⟨_,q1⟩) λb o q hb=>?_)
 by_cases e1:b=T
 . subst e1
   rw[qd]at q
   cases q
   exact Jv q2
 . rw[qf e1]at q
   by_cases e2:b=a
   . subst e2
     rw[qd]at q
     cases q
     exact Jk ⟨_,q1,g1⟩
   . rw[qf e2]at q
     rcases hb with hb | hb
     . rw[q]at hb;cases hb
     . exact absurd (List.mem_singleton.mp hb) e2
theorem wL {T:Addr} (I:qw X pins σ H s) (hst:X.stack=X.env::X.outer) (hfm:X.env.frame=some X.env.locals) (ha:H a=some (jD a C dx (.ref T))) (ht:H T=some (zP T .none))
   (k:∀T' h',H T'=none->T'≠a->qw X pins σ (upd (upd (upd H a (jD a C dx (.ref T'))) T (.ext λh=>∃o,h.get? T=some o)) T' (zP T' (rawInt X.env.locals))) {s with heap:=h'}->Q () {s with heap:=h'}):wpAny M X.A (noteFrame (.ref a) X.env) Q F s:=by
 obtain⟨⟨fl,he,hz⟩,_,_⟩:=(show qC X.prog X.w H s.heap a (jD a C dx (.ref T)) from I.hok a _ ha)
 obtain⟨st0,_,_⟩:=(show qC X.prog X.w H s.heap T (zP T .none) from I.hok T _ ht)
 have nT0:T≠a:=λz=>by
   obtain⟨ts,q,_⟩:=st0
   rw[z,he]at q
   cases q
 have fr:=I.ok.frames
 have ff:=I.stack
 rw[hst]at fr ff
 refine YL fr ff hfm he hz st0 nT0 λh1 T' hT F1 tT q1 q2=>?_
 rw[<-hst]at F1
 have lt:=(Array.getElem?_eq_some_iff.mp hz).1
 have g1:(fl.setIfInBounds 1 (Value.ref T'))[1]?=some (.ref T'):=by simp [lt]
 have nT:T'≠a:=λz=>by
   obtain⟨ts,q,_⟩:=q2
   rw[z,q1]at q
   cases q
 have hTn:H T'=none:=I.hok.fresh hT
 obtain⟨oT,hoT⟩:=tT
 refine k T' h1 hTn nT (I.flown F1 ⟨λb hb=>by
     simp only[List.mem_cons,List.not_mem_nil,or_false]at hb
     rcases hb with rfl | rfl
     . exact⟨_,ha⟩
     . exact⟨_,ht⟩,λb o hb q=>by
     simp only[List.mem_cons,List.not_mem_nil,or_false,not_or]at hb
     rw[qf (ql q hTn),qf hb.2,qf hb.1];exact q,λb hb q=>by
     rw[qf (Nat.ne_of_lt (Nat.lt_of_lt_of_le hb hT)),qf (λz=>by rw[z,ht]at q;cases q),qf (λz=>by rw[z,ha]at q;cases q)];exact q⟩ (λb hb=>by
     simp only[List.mem_cons,List.not_mem_nil,or_false]at hb
     rcases hb with rfl | rfl
     . exact⟨_,q1⟩
     . exact⟨_,hoT⟩) λb o q hb=>?_)
 by_cases e1:b=T'
 . subst e1
   rw[qd]at q
   cases q
   exact Jv q2
 . rw[qf e1]at q
   by_cases e2:b=T
   . subst e2
     rw[qd]at q
     cases q
     exact⟨⟨_,hoT⟩,⟨_,hoT⟩,λh1 h2 ⟨u,z⟩ k=>⟨u,k u z⟩⟩
   . rw[qf e2]at q
     by_cases e3:b=a
     . subst e3
       rw[qd]at q
       cases q
       exact Jk ⟨_,q1,g1⟩
     . rw[qf e3]at q
       rcases hb with hb | hb
       . rw[q]at hb;cases hb
       . simp only[List.mem_cons,List.not_mem_nil,or_false]at hb
         exact(hb.elim e3 e2).elim
theorem XD {T:Addr} (I:qw X pins σ H s) (hfm:X.env.frame=some X.env.locals) (ha:H a=some (jD a C dx (.ref T))) (ht:H T=some (zP T (rawInt X.env.locals))) (k:Q () s):wpAny M X.A (noteFrame (.ref a) X.env) Q F s:=by
 obtain⟨⟨fl,he,hz⟩,_,_⟩:=(show qC X.prog X.w H s.heap a (jD a C dx (.ref T)) from I.hok a _ ha)
 obtain⟨st0,_,_⟩:=(show qC X.prog X.w H s.heap T (zP T (rawInt X.env.locals)) from I.hok T _ ht)
 exact V3 hfm he hz st0 k
theorem YX {T:Addr} {fl:Value} {fr:Option Addr} (I:qw X pins σ H s) (ha:H a=some (jD a C dx (.ref T))) (ht:H T=some (zP T fl))
   (k:∀h',qw X pins σ (upd H T (zP T (fr.elim .none λf=>rawInt f))) {s with heap:=h'}->Q () {s with heap:=h'}):wpAny M X.A (setFlight (.ref a) fr) Q F s:=by
 obtain⟨⟨fs,he,hz⟩,_,_⟩:=(show qC X.prog X.w H s.heap a (jD a C dx (.ref T)) from I.hok a _ ha)
 obtain⟨st0,_,_⟩:=(show qC X.prog X.w H s.heap T (zP T fl) from I.hok T _ ht)
 refine WB (fs:=Zv X.stack) he hz st0 λh1 F1 st=>?_
 obtain⟨ts,q,z⟩:=id st
 refine k h1 (I.flown F1 ⟨λb hb=>by cases List.mem_singleton.mp hb;exact⟨_,ht⟩,λb o hb q=>by rw[qf (λz=>hb (by simp [z]))];exact q,λb hb q=>by rw[qf (λz=>by rw[z,ht]at q;cases q)];exact q⟩ (λb hb=>by cases List.mem_singleton.mp hb;exact⟨_,q⟩) λb o q hb=>?_)
 by_cases e1:b=T
 . subst e1
   rw[qd]at q
   cases q
   exact Jv st
 . rw[qf e1]at q
   rcases hb with hb | hb
   . rw[q]at hb;cases hb
   . exact absurd (List.mem_singleton.mp hb) e1
end
def Vy (X:Cx) (pins:List (Addr×Obj)) (E:XK):Value->Shared->Prop:=λe s=>
 (∃(a C dx:Addr) (H:Hp) (σ:St),e=.ref a/\qw X pins σ H s/\H a=some (QL a C dx)/\E (.ref C) (some dx) H)\/
 ∃(a C dx T:Addr) (fl:Value) (Hx H:Hp) (σ:St),e=.ref a/\qw X pins σ H s/\(fl=.none\/fl=rawInt X.env.locals)/\H a=some (jD a C dx (.ref T))/\H T=some (zP T fl)/\Hx T=none/\Hx a=some (QL a C dx)/\(∀b o,b≠a->Hx b=some o->H b=some o)/\E (.ref C) (some dx) Hx
theorem Ue {X:Cx} {pins:List (Addr×Obj)} {E:XK} (hst:X.stack=X.env::X.outer) (hfm:X.env.frame=some X.env.locals):PassesOwn (model X.prog X.w) X.A X.env (Vy X pins E):=by
 intro e s h
 have back:∀{a C dx T:Addr} {fl:Value} {H Hx:Hp} {σ:St} {s':Shared},qw X pins σ H s'->H a=some (jD a C dx (.ref T))->H T=some (zP T fl)->T≠a->Hx T=none->Hx a=some (QL a C dx)->(∀b o,b≠a->Hx b=some o->H b=some o)->E (.ref C) (some dx) Hx->cameBackBy (model X.prog X.w) X.A X.env (Vy X pins E) (.ref a) s':=λ{a C dx T fl H Hx σ s'} I ha ht nT h1 h2 h3 hE=>by
   obtain⟨⟨fs,he,hz⟩,_,_⟩:=(show qC X.prog X.w H s'.heap a (jD a C dx (.ref T)) from I.hok a _ ha)
   unfold cameBackBy
   refine wpAny_bind (wpAny_field he rfl hz ?_)
   rw[if_neg (show ¬((Value.ref T==Value.none)=true) by simp)]
   first
     | refine YX I ha ht λh' I2=>?_
     | refine wpAny_bind (wpAny_pure (YX I ha ht λh' I2=>?_))
   refine .inr ⟨a,C,dx,T,_,Hx,_,σ,rfl,I2,.inr (by rw[hfm];rfl),by rw[qf (Ne.symm nT)];exact ha,qd,h1,h2,λb o nb q=>?_,hE⟩
   rw[qf (λz=>by rw[z,h1]at q;cases q)]
   exact h3 b o nb q
 rcases h with ⟨a,C,dx,H,σ,rfl,I,ha,hE⟩ | ⟨a,C,dx,T,fl,Hx,H,σ,rfl,I,hfl,ha,ht,h1,h2,h3,hE⟩
 . refine yV I hst hfm ha λT h' hT nT I2=>?_
   exact back (Hx:=H) I2 (by rw[qf (Ne.symm nT)];exact qd) qd nT hT ha (λb o nb q=>by rw[qf (ql q hT),qf nb];exact q) hE
 . have nT:T≠a:=λz=>by rw[z,h2]at h1;cases h1
   rcases hfl with rfl | rfl
   . refine wL I hst hfm ha ht λT' h' hT nT' I2=>?_
     refine back (Hx:=Hx) I2 (by rw[qf (Ne.symm nT'),qf (Ne.symm nT)];exact qd) qd nT' ?_ h2 (λb o nb q=>?_) hE
     . cases q:Hx T' with
       | none=>rfl
       | some o=>rw[h3 T' o nT' q]at hT;cases hT
     . have n1:b≠T:=λz=>by rw[z,h1]at q;cases q
       have q':=h3 b o nb q
       rw[qf (ql q' hT),qf n1,qf nb]
       exact q'
   . exact XD I hfm ha ht (back I ha ht nT h1 h2 h3 hE)
section
variable {P:Program} {w:World} {K:PySem.W.Frag} {mg:Str->Option Value} {base:Heap} {N:List Str} {qual:Str} {scope:Scope} {f:Addr} {cd:Value} {A:Around} {outer:List Env} {s₀:Shared} {H₀:Hp} {E:XK}
theorem Uf {pins:List (Addr×Obj)} {e:Value} {s:Shared} (h:Vy (jS (Qv P w) P w K mg base N qual scope f cd A outer s₀ H₀ E) pins E e s):(jS (Qv P w) P w K mg base N qual scope f cd A outer s₀ H₀ E).xe e s:=by
 rcases h with ⟨a,C,dx,H,σ,rfl,I,ha,hE⟩ | ⟨a,C,dx,T,fl,Hx,H,σ,rfl,I,hfl,ha,ht,h1,h2,h3,hE⟩
 . exact Je pins σ H s a C dx I ha hE
 . rcases hfl with rfl | rfl
   . exact Qn pins σ H s _ s I ⟨a,C,dx,T,Hx,H,rfl,rfl,I.bare,Un.refl,I.hok,ha,ht,h1,h2,h3,hE⟩
   . show wpAny _ _ (leaving _ _) _ _ s
     unfold leaving
     refine wpAny_bind (XD I rfl ha ht ?_)
     have nT:T≠a:=λz=>by rw[z,h2]at h1;cases h1
     refine YX (fr:=none) I ha ht λh' I2=>?_
     refine⟨a,C,dx,T,Hx,_,rfl,I2.os,I2.bare,I2.base,I2.hok,by rw[qf (Ne.symm nT)];exact ha,qd,h1,h2,λb o nb q=>?_,hE⟩
     rw[qf (λz=>by rw[z,h1]at q;cases q)]
     exact h3 b o nb q
theorem vF {st:Stmt} {t:TS} (h:∀(pn:List (Addr×Obj)) (W:Value->Shared->Prop),PassesOwn (model P w) (jS (Qv P w) P w K mg base N qual scope f cd A outer s₀ H₀ E).A (jS (Qv P w) P w K mg base N qual scope f cd A outer s₀ H₀ E).env W->
     jP (Qv P w) ((jS (Qv P w) P w K mg base N qual scope f cd A outer s₀ H₀ E).tried pn W) E->Y6 ((jS (Qv P w) P w K mg base N qual scope f cd A outer s₀ H₀ E).tried pn W) E->JS ((jS (Qv P w) P w K mg base N qual scope f cd A outer s₀ H₀ E).tried pn W) st t):
   PS (jS (Qv P w) P w K mg base N qual scope f cd A outer s₀ H₀ E) st t:=by
 intro pins s σ H D I hw
 refine wpAny_mono ((h _ (Vy _ pins E) (Ue rfl rfl) ?_ ?_).to [] s σ H D (I.tried _) hw) (λfl s1 q=>?_) (λe s1 z=>Uf z)
 . intro pins' σ' H1 s1 e s' I1 hc
   obtain⟨a,C,dx,T,Hx,H2,rfl,os,bare,un,hok,ha,ht,hxT,hxa,hxs,hE⟩:=hc
   have I2:=I.untried (I1.call' os un hok bare λb z=>absurd z (by simp))
   exact .inr ⟨a,C,dx,T,.none,Hx,H2,σ',rfl,I2,.inl rfl,ha,ht,hxT,hxa,hxs,hE⟩
 . intro pins' σ' H1 s1 a C dx I1 ha hE
   exact .inl ⟨a,C,dx,H1,σ',rfl,I.untried I1,ha,hE⟩
 . cases fl with
   | next=>obtain⟨σ',H',I',q⟩:=q;exact⟨σ',H',I.untried I',q⟩
   | brk=>obtain⟨σ',H',I',q⟩:=q;exact⟨σ',H',I.untried I',q⟩
   | cont=>obtain⟨σ',H',I',q⟩:=q;exact⟨σ',H',I.untried I',q⟩
   | ret u=>obtain⟨v,σ',H',I',r,q⟩:=q;exact⟨v,σ',H',I.untried I',r,q⟩
theorem ZJ {st:Stmt} {t:TS} (h:∀(pn:List (Addr×Obj)) (W:Value->Shared->Prop),PassesOwn (model P w) (jS (Qv P w) P w K mg base N qual scope f cd A outer s₀ H₀ E).A (jS (Qv P w) P w K mg base N qual scope f cd A outer s₀ H₀ E).env W->
     jP (Qv P w) ((jS (Qv P w) P w K mg base N qual scope f cd A outer s₀ H₀ E).tried pn W) E->Y6 ((jS (Qv P w) P w K mg base N qual scope f cd A outer s₀ H₀ E).tried pn W) E->JS ((jS (Qv P w) P w K mg base N qual scope f cd A outer s₀ H₀ E).tried pn W) st t):
   JS (jS (Qv P w) P w K mg base N qual scope f cd A outer s₀ H₀ E) st t:=.of (vF h)
end
end L2
set_option Elab.async false
set_option linter.all false
set_option maxRecDepth 100000
set_option maxHeartbeats 4000000
namespace L2
open PySem PySem.Spec PyProof.Rows
section
variable {X:Cx}
end
end L2
set_option Elab.async false
set_option linter.all false
set_option maxRecDepth 100000
set_option maxHeartbeats 4000000
namespace L2
open PySem PySem.Spec PyProof.Rows
def Kw:Obj:={cls:=.type "cell",data:=.cell none}
structure OwnC (n:Nat) (l:List (Str×NameKind)) (cs cs':List (Str×Addr)) (h h':Heap):Prop where
 kp:∀b o,h.get? b=some o->h'.get? b=some o
 same:∀x,(x,NameKind.cell)∉l->cs'.lookup x=cs.lookup x
 own:∀x,(x,NameKind.cell)∈l->∃c,cs'.lookup x=some c/\n<=c/\h'.get? c=some Kw
 inj:∀x y c,(x,NameKind.cell)∈l->(y,NameKind.cell)∈l->cs'.lookup x=some c->cs'.lookup y=some c->x=y
structure GV (X:Cx) (N':List Str) (ix:List (Option Nat)) (scope:Scope):Prop where
 kind:scope.kind=.function
 nd:(scope.names.map (·.1)).Nodup
 frees:(scope.names.all λx=>x.2 != .free || (X.env.scope.names.lookup x.1==some .cell || X.env.scope.names.lookup x.1==some .free))=true
 ixs:yQ N' X.N scope X.env.scope ix=true
section
variable {X:Cx} {N':List Str} {ix:List (Option Nat)} {scope:Scope} {pins:List (Addr×Obj)} {σ:St} {H:Hp} {s:Shared}
end
section
variable {X:Cx} {N':List Str} {ix:List (Option Nat)} {scope:Scope}
end
end L2
set_option Elab.async false
set_option linter.all false
set_option maxRecDepth 100000
set_option maxHeartbeats 4000000
namespace L2
open PySem PySem.Spec PyProof.Rows
section
variable {X:Cx} {CX:Yv} {k:Nat} {f C:Addr} {fd:FuncData} {ps:List Str} {sp:Sp} {dvs:List V} {ds:List Value} {E:St->XK} {m:Str} {pos apos:Pos} {e o:Expr} {es:List Expr} {ta:TE} {t:TA}
end
end L2
set_option Elab.async false
set_option linter.all false
set_option maxRecDepth 100000
set_option maxHeartbeats 4000000
namespace L2
open PySem PySem.Spec PyProof.Rows
theorem WU {zs:List Str}:∀{its:List Value},qD (zs.map V.str) its->StrsAre its zs:=by
 induction zs with
 | nil=>
   intro its h
   cases h
   exact .nil
 | cons z zs ih=>
   intro its h
   cases h with
   | cons a b=>
     obtain⟨t,rfl⟩:=a
     exact .cons z t (ih b)
theorem Yx {zs:List Str} {its:List Value} (h:StrsAre its zs):qD (zs.map V.str) its:=by
 induction h with
 | nil=>exact .nil
 | cons x t h ih=>exact .cons ⟨t,rfl⟩ ih
def vI (a b:Str):Prop:=a.cps.toList<=b.cps.toList
theorem V7 {a b c:Str} (h:vI a b) (k:vI b c):vI a c:=List.le_trans h k
theorem vH {a b:Str} (h:vI a b) (k:vI b a):a=b:=by
 have e:a.cps.toList=b.cps.toList:=List.le_antisymm h k
 cases a
 cases b
 congr 1
 exact Array.toList_inj.mp e
theorem W6:∀(l:List Str) (p:Str),risingS p l=true->(∀x∈l,vI p x)/\l.Pairwise vI
 | [],_,_=>⟨λ_ h=>(nomatch h),.nil⟩
 | x::r,p,h=>by
   have h':(!ltCps x.cps.toList p.cps.toList&&risingS x r)=true:=h
   rw[Bool.and_eq_true]at h'
   obtain⟨h1,h2⟩:=h'
   obtain⟨i1,i2⟩:=W6 r x h2
   have px:vI p x:=by
     have:ltCps x.cps.toList p.cps.toList=false:=by simpa using h1
     rw[ltCps_eq]at this
     exact List.not_lt.mp (of_decide_eq_false this)
   refine⟨λy hy=>?_,.cons i1 i2⟩
   rcases List.mem_cons.mp hy with rfl | hy
   . exact px
   . exact V7 px (i1 y hy)
theorem z6:∀{l:List Str},sortedS l=true->l.Pairwise vI
 | [],_=>.nil
 | x::r,h=>let ⟨a,b⟩:=W6 r x h;.cons a b
theorem W9:∀{l m:List Str},l.Perm m->l.Pairwise vI->m.Pairwise vI->l=m
 | [],m,p,_,_=>(List.Perm.nil_eq p)
 | a::l,[],p,_,_=>absurd p.length_eq (by simp)
 | a::l,b::m,p,hl,hm=>by
   rw[List.pairwise_cons]at hl hm
   have e:a=b:=by
     rcases List.mem_cons.mp (p.mem_iff.mp (List.mem_cons_self (a:=a) (l:=l))) with e | e
     . exact e
     . rcases List.mem_cons.mp (p.mem_iff.mpr (List.mem_cons_self (a:=b) (l:=m))) with e' | e'
       . exact e'.symm
       . exact vH (hl.1 b e') (hm.1 a e)
   subst e
   rw[W9 (List.Perm.cons_inv p) hl.2 hm.2]
theorem VG {a b ys zs:List Str} (ha:a.Perm ys) (hb:b.Perm zs) (p:ys.Perm zs) (sa:sortedS a=true) (sb:sortedS b=true):a=b:=W9 (ha.trans (p.trans hb.symm)) (z6 sa) (z6 sb)
section
variable {X:Cx}
def x3 (K:PySem.W.Frag):List V->Hp->VK->Prop:=λxs H Q=>∃(p:Addr) (zs:List Str),xs=[.ref p]/\SqL K H p (zs.map V.str)/\zs.length < 64/\∀l ys,H l=none->ys.Perm zs->sortedS ys=true->Q (.ref l) (upd H l (.lst (ys.map V.str)))
theorem WG:jU X (.builtin "sorted") (x3 X.K):=by
 intro pins s σ H xs us Q I r h
 obtain⟨p,zs,rfl,hq,h64,q⟩:=h
 obtain⟨u,rfl,ru⟩:=Qh r
 cases ru
 obtain⟨its,rv,pl,hz⟩:=I.list hq
 have ln:its.length=zs.length:=by
   have:=rv.length
   rw[List.length_map]at this
   exact this.symm
 refine sorted_strs pl.isList (WU rv) (by omega) λout ss' h1 h2 h3=>?_
 obtain⟨e,he⟩:=sortedAll_at s.heap its out
 have lo:out.toList.length=ss'.length:=by
   have:=(Yx h1).length
   rw[List.length_map]at this
   exact this.symm
 have ls:ss'.length=zs.length:=h2.length_eq
 refine⟨.ref (s.heap.objs.size+1),_,I.laid (t':=s.toks) (λb o z=>sortedAll_old z) (Nat.le_succ _) ?_,rfl,q _ ss' (I.hok.fresh (Nat.le_succ _)) h2 h3⟩
 exact⟨by rw[List.length_map,ls];exact Nat.le_of_lt (Nat.lt_trans h64 (by decide)),out.toList,e,Yx h1,he⟩
end
end L2
set_option Elab.async false
set_option linter.all false
set_option maxRecDepth 100000
set_option maxHeartbeats 4000000
namespace L2
open PySem PySem.Spec PyProof.Rows PySem.W
section
variable {X:Cx}
end
end L2
set_option Elab.async false
set_option linter.all false
set_option maxRecDepth 100000
set_option maxHeartbeats 4000000
namespace L2
open PySem PySem.Spec PyProof.Rows
section
variable {P:Program} {w:World} {K:PySem.W.Frag} {mg:Str->Option Value} {base:Heap} {CX:Yv} {k:Nat} {f:Addr} {fd:FuncData} {ps:List Str} {sp sp':Sp}
theorem qu.toX (F:qu P w K mg base jh k f fd ps sp):qu P w K mg base CX k f fd ps sp:=
 ⟨F.len,λA outer s H args us vs Q E a b c d h=>codeAny_mono (F.run A outer s H args us vs Q E a b c d h) λz s' q=>by
   cases z with
   | error y=>exact(show False from q).elim
   | ok r=>
     cases r with
     | ret u=>exact q
     | _=>exact q⟩
theorem qu.either (F:qu P w K mg base CX k f fd ps sp) (G:qu P w K mg base CX k f fd ps sp'):qu P w K mg base CX k f fd ps (λvs H Q E=>sp vs H Q E\/sp' vs H Q E):=
 ⟨λvs H Q E h=>h.elim (F.len vs H Q E) (G.len vs H Q E),λA outer s H args us vs Q E a b c d h=>h.elim (F.run A outer s H args us vs Q E a b c d) (G.run A outer s H args us vs Q E a b c d)⟩
end
end L2
set_option Elab.async false
set_option linter.all false
set_option maxRecDepth 100000
set_option maxHeartbeats 4000000
namespace L2
open PySem PySem.Spec PyProof.Rows PySem.W
section
variable {X:Cx}
end
end L2
set_option Elab.async false
set_option linter.all false
set_option maxRecDepth 100000
set_option maxHeartbeats 4000000
namespace L2
open PySem PySem.Spec PyProof.Rows
def RawD (h:Heap) (d:Addr) (es:Array DictEntry) (ep:Nat):Prop:=∃o,h.get? d=some o/\o.ExactDict/\o.data=.dict es ep
theorem RawD.at_ {h h':Heap} {d:Addr} {es:Array DictEntry} {ep:Nat} (x:RawD h d es ep) (k:∀o,h.get? d=some o->h'.get? d=some o):RawD h' d es ep:=let ⟨o,a,r⟩:=x;⟨o,k o a,r⟩
theorem RawD.ty {s:Shared} {d:Addr} {es:Array DictEntry} {ep:Nat} (x:RawD s.heap d es ep):s.TypeIs (.ref d) "dict":=let ⟨o,a,b,_⟩:=x;⟨o,a,b.1⟩
section
variable {prog:Program} {w:World} {A:Around} {E:Value->Shared->Prop} {s:Shared} {it d:Addr} {es:Array DictEntry} {i ep:Nat}
theorem VT (hd:(d==sysModules)=false):MeetsIn prog w (Builtin.«dict.items» ⟨[.ref d],[]⟩) (λ_ R s=>s.TypeIs (.ref d) "dict"/\R (.ok (.ret (.ref s.heap.objs.size))) {s with heap:=s.heap.push {cls:=.type "dict_items",data:=.fields #[.ref d]}}):=
 .of_wp λA R s ⟨ty,h⟩=>by
   unfold Builtin.«dict.items» Builtin.Dict.noArgs
   refine wpAny_bind (wpAny_bind (wpAny_notOrdered_dict ty (show wpAny _ _ (pure d) _ _ s from wpAny_pure ?_)))
   show wpAny _ _ (Builtin.Dict.showsAll d >>= _) _ _ s
   unfold Builtin.Dict.showsAll
   rw[hd,if_neg Bool.false_ne_true]
   exact wpAny_bind (wpAny_pure (wpAny_bind (wpAny_newObj_type (wpAny_pure ⟨_,rfl,h⟩))))
theorem YF {v:Addr} {Q:Value->Shared->Prop} (hv:s.heap.IsItemsView v d) (x:RawD s.heap d es ep)
   (q:Q (.ref s.heap.objs.size) {s with heap:=s.heap.push {cls:=.type "dict_itemiterator",data:=.fields #[.none,.bool false,.ref d,.int 0 0,.int es.size 0,.int ep 0,.none,.none]}}):wpAny (model prog w) A (pyIter (.ref v)) Q E s:=by
 obtain⟨ov,v1,v2,v3⟩:=id hv
 obtain⟨od,e1,e2,e3⟩:=id x
 refine wpAny_pyIter_slot hv.typeIs F.slot_dict_items_iter (wpAny_call_entry F.slot_dict_items_iter hv.typeIs F.entry_dict_items_iter ?_ (F.args_dict_items_iter_1 _))
 unfold Builtin.«dict_items.__iter__» Builtin.Dict_items.dictOf
 refine wpAny_bind (wpAny_pure (wpAny_bind (wpAny_bind (wpAny_field v1 v3 (x:=.ref d) rfl (wpAny_pure (wpAny_bind ?_))))))
 unfold Builtin.Dict_items.newIterator
 refine wpAny_bind (wpAny_dictEntries e1 e3 (wpAny_bind (wpAny_dictEpoch e1 e3 ?_)))
 simp only[show Builtin.Dict_items.ownsTuple "dict_itemiterator"=true by decide,if_true]
 refine wpAny_newObj_type (wpAny_pure ⟨_,rfl,"dict_itemiterator",_,⟨_,Heap.get?_push_size _ rfl,rfl⟩,F.slot_dict_itemiterator_next.lookup,?_⟩) (by simp only[sizeOk,Builtin.Dict_items.ownedTupleFields,List.size_toArray,List.length_append,List.length_cons,List.length_nil,sizeLine_eq];omega)
 simpa [rawInt,Builtin.Dict_items.ownedTupleFields] using q
theorem U4 {ok ov:Value} {Q:Option Value->Shared->Prop} (t:IsItemIter s.heap it d i es.size ep ok ov) (x:RawD s.heap d es ep) (hi:i < es.size)
   (q:∀h',IsItemIterOut h' it d (i+1) es.size ep es[i].key es[i].val s.heap.objs.size->h'.get? s.heap.objs.size=some {cls:=.type "tuple",data:=.seq #[es[i].key,es[i].val]}->(∀b o,b≠it->s.heap.get? b=some o->h'.get? b=some o)->
     Q (some (.ref s.heap.objs.size)) {s with heap:=h'}):wpAny (model prog w) A (pyNext (.ref it)) Q E s:=by
 obtain⟨hp,g,dr,tk,os⟩:=s
 obtain⟨od,e1,e2,e3⟩:=id x
 have ty:Shared.TypeIs ⟨hp,g,dr,tk,os⟩ (.ref it) "dict_itemiterator":=⟨_,t,rfl⟩
 unfold pyNext
 refine wpAny_bind (wpAny_attempt (wpAny_callSpecial?_slot (name:=Str.ofString "__next__") ty F.slot_dict_itemiterator_next (wpAny_call_entry F.slot_dict_itemiterator_next ty F.entry_dict_itemiterator_next (wpAny_bind (wpAny_pure (wpAny_bind (wpAny_bind ?_)))) (F.args_dict_itemiterator_next_1 _))))
 refine wpAny_bind (wpAny_typeNameOfWhole_itemiter ty (wpAny_pure (wpAny_bind (wpAny_fieldsOf t rfl ?_))))
 simp only[show Builtin.Dict_items.ownsTuple "dict_itemiterator"=true by decide,if_true]
 show wpAny _ _ (if (Value.ref d==Value.none)=true then _ else _) _ _ _
 rw[if_neg (show ¬((Value.ref d==.none)=true) from nofun)]
 refine wpAny_bind (wpAny_pure (wpAny_bind (wpAny_dictEntries e1 e3 ?_)))
 rw[if_neg (by simp)]
 refine wpAny_bind (wpAny_pure (wpAny_bind (wpAny_dictEpoch e1 e3 ?_)))
 rw[if_neg (by simp)]
 refine wpAny_pure ?_
 simp only[show ¬((i:Int) < 0) from by omega,if_false,Int.toNat_natCast,Array.getElem?_eq_getElem hi]
 refine wpAny_bind (wpAny_bind (wpAny_typeNameOfWhole_itemiter ty (wpAny_pure (wpAny_bind (wpAny_isOneOf_itemiter ty ?_)))))
 show wpAny _ _ (setField (.ref it) 3 (rawInt ((i:Int)+1)) >>= _) _ _ ⟨hp,g,dr,tk,os⟩
 refine wpAny_bind (wpAny_setField_rec t (by simp) λh1 a1 b1=>?_)
 replace b1:Heap.SameBut it hp h1:=b1
 replace a1:IsItemIter h1 it d (i+1) es.size ep ok ov:=by
   unfold IsItemIter
   rw[show ((i+1:Nat):Int)=(i:Int)+1 by omega]
   simpa [rawInt] using a1
 have ty1:Shared.TypeIs ⟨h1,g,dr,tk,os⟩ (.ref it) "dict_itemiterator":=⟨_,a1,rfl⟩
 refine wpAny_bind (wpAny_holding (wpAny_bind (wpAny_isOneOf_itemiter ty1 (wpAny_bind (wpAny_isOneOf_itemiter ty1 ?_)))))
 show wpAny _ _ (Builtin.Dict_items.pairFromOwner (.ref it) 6 es[i].key es[i].val) _ _ ⟨h1,g,dr,tk,os⟩
 unfold Builtin.Dict_items.pairFromOwner
 refine wpAny_bind (wpAny_newTuple ?_)
 have a2:IsItemIter (h1.push {cls:=.type "tuple",data:=.seq #[es[i].key,es[i].val]}) it d (i+1) es.size ep ok ov:=Heap.get?_push_of_some _ a1
 have z1:h1.objs.size=hp.objs.size:=b1.1
 have p2:(h1.push {cls:=.type "tuple",data:=.seq #[es[i].key,es[i].val]}).get? hp.objs.size=some {cls:=.type "tuple",data:=.seq #[es[i].key,es[i].val]}:=by rw[<-z1];exact Heap.get?_push_size _ rfl
 have k2:∀b o,b≠it->hp.get? b=some o->(h1.push {cls:=.type "tuple",data:=.seq #[es[i].key,es[i].val]}).get? b=some o:=λb o nb e=>Heap.get?_push_of_some _ (b1.extBut b o nb e)
 have nT:hp.objs.size≠it:=Nat.ne_of_gt (Heap.lt_size t)
 rw[z1]
 generalize h1.push {cls:=.type "tuple",data:=.seq #[es[i].key,es[i].val]}=h2 at a2 p2 k2
 show wpAny _ _ (Builtin.Dict_items.ownedTupleIsFree (.ref it) >>= _) _ _ ⟨h2,g,dr,tk,os⟩
 clear b1 a1 ty1 z1 h1
 unfold Builtin.Dict_items.ownedTupleIsFree
 refine wpAny_bind (wpAny_bind (wpAny_field a2 rfl (x:=.none) rfl (wpAny_pure ?_)))
 simp only[if_true]
 refine wpAny_bind (wpAny_field a2 rfl (x:=ok) rfl (wpAny_bind (wpAny_field a2 rfl (x:=ov) rfl (wpAny_bind (wpAny_setField_rec a2 (by simp) λh3 a3 b3=>?_)))))
 replace b3:Heap.SameBut it h2 h3:=b3
 replace a3:IsItemIter h3 it d (i+1) es.size ep es[i].key ov:=a3
 refine wpAny_bind (wpAny_setField_rec a3 (by simp) λh4 a4 b4=>?_)
 replace b4:Heap.SameBut it h3 h4:=b4
 replace a4:IsItemIter h4 it d (i+1) es.size ep es[i].key es[i].val:=a4
 refine wpAny_bind (wpAny_setField_rec a4 (by simp) λh5 a5 b5=>?_)
 replace b5:Heap.SameBut it h4 h5:=b5
 replace a5:IsItemIterOut h5 it d (i+1) es.size ep es[i].key es[i].val hp.objs.size:=a5
 refine wpAny_bind (wpAny_setField_rec a5 (by simp) λh6 a6 b6=>?_)
 replace b6:Heap.SameBut it h5 h6:=b6
 replace a6:IsItemIterOut h6 it d (i+1) es.size ep es[i].key es[i].val hp.objs.size:=a6
 have all:∀b o,b≠it->h2.get? b=some o->h6.get? b=some o:=λb o nb e=>b6.extBut b o nb (b5.extBut b o nb (b4.extBut b o nb (b3.extBut b o nb e)))
 exact wpAny_bind (wpAny_letGo (wpAny_pure (wpAny_pure ⟨_,rfl,wpAny_pure (q h6 a6 (all _ _ nT p2) λb o nb e=>all b o nb (k2 b o nb e))⟩)))
theorem YE {ok ov:Value} {Q:Option Value->Shared->Prop} (hh:A.handled=none) (t:IsItemIter s.heap it d es.size es.size ep ok ov) (x:RawD s.heap d es ep) (q:∀h',Heap.ExtBut it s.heap h'->Q none {s with heap:=h'}):wpAny (model prog w) A (pyNext (.ref it)) Q E s:=by
 obtain⟨od,e1,e2,e3⟩:=id x
 have ty:s.TypeIs (.ref it) "dict_itemiterator":=⟨_,t,rfl⟩
 unfold pyNext
 refine wpAny_bind (wpAny_attempt (wpAny_callSpecial?_slot (name:=Str.ofString "__next__") ty F.slot_dict_itemiterator_next (wpAny_call_entry F.slot_dict_itemiterator_next ty F.entry_dict_itemiterator_next (wpAny_bind (wpAny_pure (wpAny_bind (wpAny_bind ?_)))) (F.args_dict_itemiterator_next_1 _))))
 refine wpAny_bind (wpAny_typeNameOfWhole_itemiter ty (wpAny_pure (wpAny_bind (wpAny_fieldsOf t rfl ?_))))
 simp only[show Builtin.Dict_items.ownsTuple "dict_itemiterator"=true by decide,if_true]
 show wpAny _ _ (if (Value.ref d==Value.none)=true then _ else _) _ _ s
 rw[if_neg (show ¬((Value.ref d==.none)=true) from nofun)]
 refine wpAny_bind (wpAny_pure (wpAny_bind (wpAny_dictEntries e1 e3 ?_)))
 rw[if_neg (by simp)]
 refine wpAny_bind (wpAny_pure (wpAny_bind (wpAny_dictEpoch e1 e3 ?_)))
 rw[if_neg (by simp)]
 refine wpAny_pure ?_
 simp only[show ¬((es.size:Int) < 0) from by omega,if_false,Int.toNat_natCast,Array.getElem?_eq_none (Nat.le_refl es.size)]
 refine wpAny_bind (wpAny_bind (wpAny_typeNameOfWhole_itemiter ty (wpAny_pure ?_)))
 show wpAny _ _ (setField (.ref it) 2 .none >>= _) _ _ s
 refine wpAny_bind (wpAny_setField t rfl (by simp) (show wpAny _ _ (newExc (.type "StopIteration") [] >>= _) _ _ _ from wpAny_bind ?_))
 simp only[newExc,newTuple]
 refine wpAny_bind (wpAny_newObj_type (wpAny_bind (m:=firstArgMember _ _) (wpAny_of_eq (a:=Value.none) (by first | rfl | (simp only[firstArgMember];rfl)) (wpAny_newObj_type ?_ (by size_fits)))) (by size_fits))
 simp only[raiseNew]
 refine wpAny_bind (wpAny_handled ?_)
 rw[show A.in1.handled=none from hh]
 refine wpAny_bind (wpAny_pure (wpAny_throw (wpAny_bind ?_)))
 exact wpAny_isInstance (T:="StopIteration") (b:=true) ⟨_,Heap.get?_push_size _ rfl,rfl⟩ isSubtype_stop (wpAny_pure (q _ (((Heap.SameBut.update ..).extBut.push _).push _)))
end
end L2
set_option Elab.async false
set_option linter.all false
set_option maxRecDepth 100000
set_option maxHeartbeats 4000000
namespace L2
open PySem PySem.Spec PyProof.Rows
def Pr (H:Hp) (u:HO) (i:Nat) (x y:V):Prop:=match u with
 | .dK kvs=>∃z,kvs[i]?=some (Sum.inr z,y)/\x=.str z
 | .dT kvs=>∃k b,kvs[i]?=some (k,y)/\x=.ref b/\H b=some (.tup (k.map kV))
 | _=>False
def Ln:HO->Nat
 | .dK kvs=>kvs.length
 | .dT kvs=>kvs.length
 | _=>0
def KS:HO->Prop
 | .dK kvs=>∃zs:List Str,kvs.map (·.1)=zs.map Sum.inr
 | .dT _=>True
 | _=>False
section
variable {X:Cx} {pins:List (Addr×Obj)} {σ:St} {H:Hp} {s:Shared} {tg:Expr}
theorem YV {P:Program} {w:World} {h:Heap} {a:Addr} {o:Obj} {u:HO} (ok:QZ P w H h) (ks:KS u) (e:H a=some (.frz o u)):
   (a==sysModules)=false/\∃es,RawD h a es (WD o)/\es.size=Ln u/\∀(i:Nat) (hi:i < es.size),∃x y,Pr H u i x y/\qO x es[i].key/\qO y es[i].val:=by
 cases u with
 | dK kvs=>
   obtain⟨ho,z,hd,vs,rel,o',es,ep,ho',ex,dat,_,pr,_⟩:=(show qC P w H h a (.frz o (.dK kvs)) from ok a _ e)
   rw[ho]at ho'
   cases ho'
   obtain⟨zs,ek⟩:=ks
   have ep':WD o=ep:=by unfold WD;rw[dat]
   have l1:=pr.length
   have l2:=Paired.length rel
   have l0:kvs.length=zs.length:=by simpa using congrArg List.length ek
   have sz:es.size=kvs.length:=by rw[l2,<-l1];simp
   refine⟨hd,es,⟨o,ho,ex,by rw[ep'];exact dat⟩,sz,λi hi=>?_⟩
   have hi1:i < kvs.length:=by omega
   obtain⟨q,g1,g2,g3⟩:=Qa rel (List.getElem?_eq_getElem hi1)
   obtain⟨k1,k2⟩:=pr.get? (e:=es[i]) (by simp [hi]) g1
   have ez:zs[i]?=some zs[i]:=List.getElem?_eq_getElem (by omega)
   have e3:(kvs.map (·.1))[i]?=some kvs[i].1:=by rw[List.getElem?_map,List.getElem?_eq_getElem hi1];rfl
   rw[ek,List.getElem?_map,ez]at e3
   have e4:kvs[i].1=Sum.inr zs[i]:=(Option.some.inj e3).symm
   refine⟨.str zs[i],kvs[i].2,⟨zs[i],?_,rfl⟩,yK rel ek ez g1 k1,by rw[k2];exact g3⟩
   rw[List.getElem?_eq_getElem hi1,<-e4]
 | dT kvs=>
   obtain⟨ho,z,hd,xs,rel,o',es,ep,ho',ex,dat,l,_⟩:=(show qC P w H h a (.frz o (.dT kvs)) from ok a _ e)
   rw[ho]at ho'
   cases ho'
   have ep':WD o=ep:=by unfold WD;rw[dat]
   have l2:=Paired.length rel
   have l1:=size_of_entries l
   refine⟨hd,es,⟨o,ho,ex,by rw[ep'];exact dat⟩,by rw[l1,<-l2];rfl,λi hi=>?_⟩
   have hi1:i < kvs.length:=by omega
   obtain⟨q,g1,g2,g3,g4⟩:=Qa rel (List.getElem?_eq_getElem hi1)
   have en:=entry_at l i
   rw[g1,Array.getElem?_eq_getElem hi]at en
   have en':es[i]=entryOfKey (tupleKind (qY P w)) q:=Option.some.inj en
   refine⟨.ref q.2.1,kvs[i].2,⟨kvs[i].1,q.2.1,List.getElem?_eq_getElem hi1,rfl,g3⟩,?_,?_⟩
   . rw[en'];rfl
   . rw[en'];exact g4
 | _=>exact ks.elim
theorem qw.freezeT {a:Addr} {kvs:List (List qN×V)} (I:qw X pins σ H s) (e:H a=some (.dT kvs)):∃o,qw X pins σ (upd H a (.frz o (.dT kvs))) s:=by
 obtain⟨z,hd,xs,rel,o,es,ep,ho,r⟩:=(show qC X.prog X.w H s.heap a (.dT kvs) from I.hok a _ e)
 have mu:wV (H a):=by rw[e];exact True.intro
 have un:Un X.fs [] H (upd H a (.frz o (.dT kvs))) s.heap s.heap:=Un.write mu (.inl rfl) (λb u _ q=>q) ⟨o,ho⟩
 have rel':KT (upd H a (.frz o (.dT kvs))) kvs xs:=KT.keeps rel λb ys hb=>by rw[qf (λq=>by rw[q,e]at hb;cases hb)];exact hb
 have ok:QZ X.prog X.w (upd H a (.frz o (.dT kvs))) s.heap:=I.hok.write mu (.inl rfl) (λb u _ q=>q) ⟨o,ho⟩ ⟨ho,z,hd,xs,rel',o,es,ep,ho,r⟩
 exact⟨o,I.un (t':=s.toks) un ok⟩
def uI (ts:TS):TS:=λD σ H=>∃a kvs,H a=some (.dT kvs)/\∀o,ts D σ (upd H a (.frz o (.dT kvs)))
theorem yL {st:Stmt} {ts:TS} (h:JS X st ts):JS X st (uI ts):=.of (by
 have h:=h.to
 intro pins s σ H D I hw
 obtain⟨a,kvs,ea,q⟩:=hw
 obtain⟨o,I2⟩:=I.freezeT ea
 exact h pins s σ _ D I2 (q o))
def KF (a:Addr) (o:Obj) (u:HO):It:=⟨λi H=>H a=some (.frz o u)/\i < Ln u,λi H v H'=>∃p x y,H p=none/\v=.ref p/\Pr H u i x y/\H'=upd H p (.tup [x,y]),λi H=>H a=some (.frz o u)/\i=Ln u⟩
theorem XY {P:Program} {w:World} {K:PySem.W.Frag} {elts:List Expr} {x1:Nat} {tpos:Pos} (a it:Addr) (o:Obj) (u:HO) (ks:KS u):XR P w K (.Tuple elts x1 tpos) (KF a o u) [it] it (λi h=>∃ok ov,IsItemIter h it a i (Ln u) (WD o) ok ov) where
 mem:=by simp
 obj:=λi h st b hb=>by
   have e:b=it:=by simpa using hb
   subst e
   obtain⟨_,_,e⟩:=st
   exact⟨_,e,λv z=>by cases z⟩
 keep:=λi h h' st k=>let ⟨x,y,e⟩:=st;⟨x,y,k it (by simp) _ e⟩
 item:=by
   intro X hP hw hK hc i pins s σ H E I hf st hg
   subst hP hw hK
   obtain⟨ok,ov,st⟩:=st
   obtain⟨ea,hi⟩:=hg
   obtain⟨_,es,rd,sz,all⟩:=YV I.hok ks ea
   rw[<-sz]at st hi
   obtain⟨x,y,pr,rx,ry⟩:=all i hi
   refine U4 st rd hi λh' z1 z3 kk=>⟨_,rfl,?_⟩
   refine wpAny_letOwnedTupleGo_items z1 λh'' z1' sb=>?_
   have nT:s.heap.objs.size≠it:=Nat.ne_of_gt (Heap.lt_size st)
   have kT:∀c o,c≠it->h'.get? c=some o->h''.get? c=some o:=λc o hc e=>(sb.2 c hc).trans e
   have I1:qw X pins σ (upd H s.heap.objs.size (.tup [x,y])) {s with heap:=h'',toks:=s.toks}:=I.turnLaid (L:=[it]) (t':=s.toks)
     (λc o hc e=>have n:c≠it:=(λz=>hc (by simp [z]));kT c o n (kk c o n e)) hf (Nat.le_refl _)
     ⟨by show 2<=sizeLine;decide,[es[i].key,es[i].val],.cons rx (.cons ry .nil),⟨_,kT _ _ nT z3,rfl,_,rfl⟩⟩
   refine⟨.ref s.heap.objs.size,_,I1,rfl,⟨s.heap.objs.size,x,y,I.hok.fresh (Nat.le_refl _),rfl,pr,rfl⟩,⟨_,_,by rw[<-sz];exact z1'⟩,λc hc=>?_⟩
   have h0:=(hf c hc).1
   have ec:c=it:=by simpa using hc
   subst ec
   rw[qf (Ne.symm nT)]
   exact h0
 done:=by
   intro X hP hw hK hc i pins s σ H E I hf st hg
   subst hP hw hK
   obtain⟨ok,ov,st⟩:=st
   obtain⟨ea,hi⟩:=hg
   obtain⟨_,es,rd,sz,all⟩:=YV I.hok ks ea
   subst hi
   rw[<-sz]at st
   exact YE (I.ok.hd hc) st rd λh' kk=>⟨rfl,I.turnedL (L:=[it]) (t':=s.toks) (λc o hc e=>kk c o (λz=>hc (by simp [z])) e) hf⟩
 self:=λ_ _ _ _ _ st h=>let ⟨_,_,e⟩:=st;PySem.W.kcp_self e h
def wK (tl:TE):TI:=λσ H R=>tl σ H λx H1=>∃a o u,x=.ref a/\H1 a=some (.frz o u)/\KS u/\R (KF a o u) H1
theorem vP {l:Expr} {tl:TE} {elts:List Expr} {x1:Nat} {tpos ap cp:Pos} (hl:JE X l tl) (hbase:attributeBase l "items" X.env (eval l X.env)=eval l X.env:=by rfl) (hline:(ap.endLine==cp.line)=true:=by rfl):JI X (.Tuple elts x1 tpos) (.Call (.Attribute l "items" ap) [] [] cp) (wK tl):=.of (by
 have hl:=hl.to
 intro pins s σ H R I h
 refine wpAny_Call_method0_late hbase hline (jk (hl pins s σ H _ I h) λv s1 ⟨x,H1,I1,r1,q1⟩=>?_)
 obtain⟨a,o,u,e,ea,ks,q⟩:=q1
 subst e
 cases r1
 obtain⟨hd,es,rd,sz,all⟩:=YV I1.hok ks ea
 refine⟨"dict","dict.items",PySem.F.plainAttrs_dict,PySem.F.slot_dict_items,PySem.F.type_dict_items,rd.ty,?_,Calls.callWith_builtin rfl (PySem.evalArgs_none ?_)⟩
 . obtain⟨o',e',x',_⟩:=id rd
   exact λb hb=>by cases hb;exact⟨o',e',x'.2.1⟩
 refine call_meetsIn PySem.F.slot_dict_items rd.ty PySem.F.entry_dict_items (PySem.F.args_dict_items_1 _) (VT hd) ⟨rd.ty,?_⟩
 refine YF (s:={s1 with heap:=s1.heap.push {cls:=.type "dict_items",data:=.fields #[.ref a]}}) (v:=s1.heap.objs.size) ⟨_,Heap.get?_push_size _ rfl,rfl,rfl⟩ (rd.at_ λo e=>Heap.get?_push_of_some _ e) ?_
 have kp:∀b ob,s1.heap.get? b=some ob->((s1.heap.push {cls:=.type "dict_items",data:=.fields #[.ref a]}).push {cls:=.type "dict_itemiterator",data:=.fields #[.none,.bool false,.ref a,.int 0 0,.int es.size 0,.int (WD o) 0,.none,.none]}).get? b=some ob:=λb ob e=>Heap.get?_push_of_some _ (Heap.get?_push_of_some _ e)
 have sz1:(s1.heap.push {cls:=.type "dict_items",data:=.fields #[.ref a]}).objs.size=s1.heap.objs.size+1:=Heap.size_push ..
 refine⟨(s1.heap.push {cls:=.type "dict_items",data:=.fields #[.ref a]}).objs.size,[(s1.heap.push {cls:=.type "dict_items",data:=.fields #[.ref a]}).objs.size],_,_,H1,rfl,I1.kept (t':=s1.toks) kp,XY a _ o u ks,⟨.none,.none,?_⟩,λb hb=>?_,q⟩
 . rw[<-sz]
   exact Heap.get?_push_size _ rfl
 . have e:b=(s1.heap.push {cls:=.type "dict_items",data:=.fields #[.ref a]}).objs.size:=by simpa using hb
   subst e
   have le:s1.heap.objs.size<=(s1.heap.push {cls:=.type "dict_items",data:=.fields #[.ref a]}).objs.size:=by omega
   exact I1.fpOk le (I1.hok.fresh le))
end
section
variable {a:Addr} {o:Obj} {u:HO} {g:TG} {σ:St} {H:Hp}
theorem Uj {tb:TS} {D:QF} (Pv:Nat->St->Hp->Prop) (h0:Pv 0 σ H) (hl:∀i σ H,i<=Ln u->Pv i σ H->H a=some (.frz o u))
   (hs:∀i x y p σ H,i < Ln u->H p=none->Pr H u i x y->Pv i σ H->g (.ref p) σ (upd H p (.tup [x,y])) λσ2 H2=>tb {D with nx:=Pv (i+1),ct:=Pv (i+1),bk:=D.nx} σ2 H2) (hd:∀σ H,Pv (Ln u) σ H->D.nx σ H):
   ∃W:Nat->Nat->St->Hp->Prop,(∃m,W 0 m σ H)/\∀i m σ H,W i m σ H->
    ((KF a o u).stop i H/\D.nx σ H)\/((KF a o u).go i H/\∃N:St->Hp->Prop,(∀σ' H',N σ' H'->∃m',m' < m/\W (i+1) m' σ' H')/\∀x H',(KF a o u).yld i H x H'->g x σ H' λσ2 H2=>tb {D with nx:=N,ct:=N,bk:=D.nx} σ2 H2):=by
 refine⟨λi m σ H=>m=Ln u - i/\i<=Ln u/\Pv i σ H,⟨Ln u,by simp,Nat.zero_le _,h0⟩,?_⟩
 rintro i m σ H ⟨rfl,hi,p⟩
 have q:=hl i σ H hi p
 by_cases hlt:i < Ln u
 . refine .inr ⟨⟨q,hlt⟩,Pv (i+1),λσ' H' p'=>⟨Ln u - (i+1),by omega,rfl,hlt,p'⟩,λx H' y=>?_⟩
   obtain⟨b,x',y',hb,rfl,pr,rfl⟩:=y
   exact hs i x' y' b σ H hlt hb pr p
 . have e:i=Ln u:=by omega
   subst e
   exact .inl ⟨⟨q,rfl⟩,hd σ H p⟩
end
end L2
set_option Elab.async false
set_option linter.all false
set_option maxRecDepth 100000
set_option maxHeartbeats 4000000
namespace L2
open PySem PySem.Spec PyProof.Rows PySem.W
section
variable {X:Cx}
def zb (K:PySem.W.Frag):List V->Hp->VK->Prop:=λxs H Q=>∃(p:Addr) (zs:List Str),xs=[.ref p]/\Zc K H p (zs.map V.str)/\zs.length < 64/\∀l ys,H l=none->ys.Perm zs->sortedS ys=true->Q (.ref l) (upd H l (.lst (ys.map V.str)))
theorem JJ:jU X (.builtin "sorted") (zb X.K):=by
 intro pins s σ H xs us Q I r h
 obtain⟨p,zs,rfl,hq,h64,q⟩:=h
 obtain⟨u,rfl,ru⟩:=Qh r
 cases ru
 obtain⟨ws,vv,⟨o,ho,hc,n,hd⟩,hz⟩:=I.tuple hq
 have hS:=WU vv
 have la:ws.length=zs.length:=by
   have:=vv.length
   rw[List.length_map]at this
   exact this.symm
 refine Calls.call_function_entry kind_sorted plain_sorted entry_sorted (args_sorted1 _) ?_
 unfold Builtin.«sorted»
 refine wpAny_bind (m:=checkCount "sorted" 1 1 _) (wpAny_pure (wpAny_bind (wpAny_collect_seq p (.inr rfl) ho hc hd (λh1 k1=>?_) (by simp only[List.size_toArray];rw[la];exact Nat.le_of_lt (Nat.lt_trans h64 (by decide))))))
 refine wpAny_bind (wpAny_newList ?_)
 have I1:qw X pins σ H {s with heap:=h1,toks:=s.toks}:=I.kept (t':=s.toks) k1
 rw[show ws.toArray.toList=ws by simp]
 show wpAny _ _ _ _ _ {s with heap:=h1.push (seqObj "list" ws.toArray 0)}
 have oL:(h1.push (seqObj "list" ws.toArray 0)).get? h1.objs.size=some (seqObj "list" ws.toArray 0):=Heap.get?_push_size _ rfl
 refine wpAny_bind (wpAny_holding (wpAny_call_entry slot_list_sort ⟨_,oL,rfl⟩ entry_list_sort (list_sort_treeK strKind_oneLt oL hS.keysOf (λv₁ v₂ rest e=>keyKind_strs (by rw[<-e];exact hS)) (by omega) λst' a1 a2=>⟨_,rfl,?_⟩) (args_list_sort _)))
 refine wpAny_pure ⟨_,rfl,?_⟩
 obtain⟨ss',b1,b2,b3⟩:=sorted_out_str hS a1 a2
 generalize (arrOf st').map (λx=>x.2)=out at b1
 have kf:∀b o,h1.get? b=some o->(sortedHeap (h1.push (seqObj "list" ws.toArray 0)) h1.objs.size ws out).get? b=some o:=λb o e=>by
   have lb:=Heap.lt_size e
   rw[sortedHeap_old (Nat.ne_of_lt lb) (Heap.lt_size (Heap.get?_push_of_some _ e))]
   exact Heap.get?_push_of_some _ e
 obtain⟨c3,o3⟩:=sortedHeap_at (vs:=ws) (out:=out) oL
 have ls:ss'.length=zs.length:=b2.length_eq
 exact⟨.ref h1.objs.size,_,I1.laid (t':=s.toks) (o:=.lst (ss'.map V.str)) kf (Nat.le_refl _) ⟨by rw[List.length_map,ls];exact Nat.le_of_lt (Nat.lt_trans h64 (by decide)),_,c3,Yx b1,o3⟩,rfl,q _ ss' (I1.hok.fresh (Nat.le_refl _)) b2 b3⟩
end
end L2
set_option Elab.async false
set_option linter.all false
set_option maxRecDepth 100000
set_option maxHeartbeats 4000000
namespace L2
open PySem PySem.Spec PyProof.Rows
section
variable {prog:Program} {w:World} {KK:Type} [DecidableEq KK] {kd:HeapKind prog w KK} {A:Around} {E:Value->Shared->Prop} {s:Shared}
theorem Wl {nm:String} {a b:Addr} {xs ys:List (KK×Addr×Value)} {Q:Bool->Shared->Prop} (room:kd.room A) (ha:(a==sysModules)=false) (hb:(b==sysModules)=false) (da:s.heap.DictOfH kd a xs) (db:s.heap.DictOfH kd b ys)
   (len:xs.length=ys.length) (hit:∀x∈xs,∃(j:Nat) (p:Addr×Value),ys[j]?=some (x.1,p)/\SeqAt.EqAt A s x.2.2 p.2 true) (q:Q true s):wpAny (model prog w) A (Builtin.Dict.samePairs nm a b) Q E s:=by
 obtain⟨oa,es,ep,a1,_,a2,a3,a4,a5⟩:=da
 obtain⟨ob,fs,fp,b1,_,b2,b3,b4,b5⟩:=db
 have la:es.size=xs.length:=size_of_entries a3
 have lb:fs.size=ys.length:=size_of_entries b3
 unfold Builtin.Dict.samePairs Builtin.Dict.showsAll
 rw[ha,hb,if_neg Bool.false_ne_true]
 refine wpAny_bind (wpAny_pure (wpAny_bind (wpAny_pure (wpAny_bind (wpAny_dictEntries a1 a2 ?_)))))
 dsimp only
 refine wpAny_bind (wpAny_dictEntries b1 b2 ?_)
 rw[if_neg (by rw[la,lb,len];simp)]
 refine wpAny_bind (wpAny_dictEpoch a1 a2 (wpAny_bind ?_))
 rw[Std.Legacy.Range.forIn_eq_forIn_range']
 simp only[Std.Legacy.Range.size,Nat.sub_zero,Nat.add_sub_cancel,Nat.div_one]
 refine wpAny_forIn_list _ (λrest r s'=>s'=s/\r=(none,())/\∃i,rest=List.range' i (es.size - i)/\i<=es.size) _ ?_ ?_ _ _ ⟨rfl,rfl,0,by simp,Nat.zero_le _⟩
 . rintro x rest r s' ⟨rfl,rfl,i,er,hi⟩
   have lt:i < es.size:=Nat.lt_of_not_le λz=>by rw[Nat.sub_eq_zero_of_le z]at er;simp at er
   obtain⟨rfl,er2⟩:x=i/\rest=List.range' (i+1) (es.size - (i+1)):=by
     rw[show es.size - i=(es.size - (i+1))+1 by omega,List.range'_succ]at er
     exact⟨(List.cons.inj er).1,(List.cons.inj er).2⟩
   have lx:x < xs.length:=by omega
   have en:=entry_at a3 x
   rw[List.getElem?_eq_getElem lx,Array.getElem?_eq_getElem lt]at en
   have en':es[x]=entryOfKey kd xs[x]:=Option.some.inj en
   have mx:xs[x]∈xs:=List.getElem_mem lx
   obtain⟨j,p,ej,eq⟩:=hit _ mx
   have isx:=a4 _ mx
   generalize xs[x]=c at en' ej eq isx
   refine wpAny_bind (wpAny_dictEntries a1 a2 ?_)
   rw[Array.getElem?_eq_getElem lt,en']
   show wpAny _ _ (holding [.ref c.2.1,c.2.2] _ >>= _) _ _ _
   refine wpAny_bind (wpAny_holding (wpAny_bind (wpAny_dictFind_heap room isx b1 b2 b3 b4 b5 (λno=>absurd ej (no j p)) λj' p' ej'=>?_)))
   refine wpAny_bind (wpAny_dictEntries b1 b2 ?_)
   rw[entry_at b3 j',ej']
   have epp:p'=p:=by
     have h1:=(List.getElem?_eq_some_iff.mp ej)
     have h2:=(List.getElem?_eq_some_iff.mp ej')
     have k1:(ys.map (·.1))[j]'(by rw[List.length_map];exact h1.1)=c.1:=by rw[List.getElem_map,h1.2]
     have k2:(ys.map (·.1))[j']'(by rw[List.length_map];exact h2.1)=c.1:=by rw[List.getElem_map,h2.2]
     have:=wn b5 (k1.trans k2.symm)
     subst this
     rw[ej]at ej'
     exact(Prod.mk.inj (Option.some.inj ej')).2.symm
   subst epp
   refine wpAny_holding (eq prog w _ _ ?_)
   show wpAny _ _ (if (!true)=true then _ else _) _ _ _
   rw[if_neg (by decide)]
   refine wpAny_bind (wpAny_dictEpoch a1 a2 ?_)
   rw[if_neg (by simp)]
   exact wpAny_pure ⟨rfl,rfl,x+1,er2,lt⟩
 . rintro r s' ⟨rfl,rfl,i,er,hi⟩
   exact wpAny_pure q
end
section
variable {X:Cx}
def uK (K:PySem.W.Frag) (k:Bool):R2:=λx y H Q=>∃(a b:Addr) (kvs kws:List (List qN×V)),x=.ref a/\y=.ref b/\Rd H a (.dT kvs)/\Rd H b (.dT kws)/\kvs.length=kws.length/\(∀p∈kvs,∃u d,jp kws p.1=some u/\DV K H p.2 d/\DV K H u d/\PySem.SeqAt.shaped d=true)/\Q (.bl k) H
theorem UV {A:Around} {pins:List (Addr×Obj)} {s:Shared} {σ:St} {H:Hp} {a b:Addr} {kvs kws:List (List qN×V)} {nm:String} {Q:Bool->Shared->Prop} {E:Value->Shared->Prop} (hu:A.units+70 < cLine) (I:qw X pins σ H s) (ea:Rd H a (.dT kvs)) (eb:Rd H b (.dT kws)) (len:kvs.length=kws.length)
   (all:∀p∈kvs,∃u d,jp kws p.1=some u/\DV X.K H p.2 d/\DV X.K H u d/\PySem.SeqAt.shaped d=true) (q:Q true s):wpAny (model X.prog X.w) A.in1 (Builtin.Dict.samePairs nm a b) Q E s:=by
 obtain⟨_,hda,xs,ra,da⟩:=Q2 I.hok ea
 obtain⟨_,hdb,ys,rb,db⟩:=Q2 I.hok eb
 have la:=Paired.length ra
 have lb:=Paired.length rb
 refine Wl (kd:=tupleKind (qY X.prog X.w)) (tupleKind_room_in1 (by omega)) hda hdb da db (by omega) (λx hx=>?_) q
 obtain⟨i,ei⟩:=List.getElem?_of_mem hx
 have hi:i < kvs.length:=by rw[la];exact(List.getElem?_eq_some_iff.mp ei).1
 obtain⟨x',g1,g2,_,g3⟩:=Qa ra (List.getElem?_eq_getElem hi)
 rw[ei]at g1
 cases g1
 obtain⟨u,d,e1,d1,d2,sh⟩:=all kvs[i] (List.getElem_mem hi)
 have rel:=rb.val kvs[i].1
 rw[e1]at rel
 cases hv:atKey ys kvs[i].1 with
 | none=>rw[hv]at rel;exact rel.elim
 | some p=>
   rw[hv]at rel
   obtain⟨j,ej⟩:∃j,ys[j]?=some (kvs[i].1,p):=by
     obtain⟨o,es,ep,_,_,_,_,_,nd⟩:=db
     have:∃z∈ys,z.1=kvs[i].1/\z.2=p:=by
       unfold atKey at hv
       cases hf:ys.find? (λz=>decide (z.1=kvs[i].1)) with
       | none=>rw[hf]at hv;cases hv
       | some z=>
         rw[hf]at hv
         exact⟨z,List.mem_of_find?_eq_some hf,(by simpa using List.find?_some hf),Option.some.inj hv⟩
     obtain⟨z,hz,e1,e2⟩:=this
     obtain⟨j,ej⟩:=List.getElem?_of_mem hz
     exact⟨j,by rw[ej,<-e1,<-e2]⟩
   refine⟨j,p,by rw[<-g2];exact ej,?_⟩
   obtain⟨as,r3⟩:=d1.reads I g3
   obtain⟨bs,r4⟩:=d2.reads I rel
   have e2:=PySem.W.keq_at (A:=A) (s:=s) r3 r4 sh sh (by show A.units+1+64 < cLine;omega)
   rw[JB sh]at e2
   exact e2
theorem yq (hu:X.A.units+70 < cLine):Zd X (compareOp .Eq) (uK X.K true):=by
 intro pins s σ H x y v u Q I rx ry h
 obtain⟨a,b,kvs,kws,rfl,rfl,ea,eb,len,all,q⟩:=h
 cases rx
 cases ry
 obtain⟨_,_,_,_,da⟩:=Q2 I.hok ea
 obtain⟨_,_,_,_,db⟩:=Q2 I.hok eb
 refine wpAny_richCompare_same_room (op:=.Eq) da.typeIs db.typeIs PySem.F.slot_dict_eq (wpAny_call_entry PySem.F.slot_dict_eq da.typeIs PySem.F.entry_dict_eq ?_ (PySem.F.args_dict_eq_2 _ _)) (by omega)
 show wpAny _ _ (Builtin.Dict.dictSlotArgs "__eq__" ⟨[.ref a,.ref b],[]⟩ >>= _) _ _ s
 unfold Builtin.Dict.dictSlotArgs
 refine wpAny_bind (wpAny_bind (wpAny_notOrdered_dict da.typeIs (show wpAny _ _ (pure (Value.ref a,Value.ref b)) _ _ s from wpAny_pure (wpAny_bind (wpAny_isInstance (T:="dict") db.typeIs PySem.F.sub_dict_dict ?_)))))
 simp only[Bool.not_true,Bool.false_eq_true,if_false]
 refine wpAny_bind (wpAny_pure (wpAny_bind (wpAny_pure (wpAny_bind (UV hu I ea eb len all ?_)))))
 exact wpAny_pure ⟨_,rfl,(λx=>nomatch x),⟨.bl true,H,I,rfl,q⟩⟩
theorem yo (hu:X.A.units+70 < cLine):Zd X (compareOp .NotEq) (uK X.K false):=by
 intro pins s σ H x y v u Q I rx ry h
 obtain⟨a,b,kvs,kws,rfl,rfl,ea,eb,len,all,q⟩:=h
 cases rx
 cases ry
 obtain⟨_,_,_,_,da⟩:=Q2 I.hok ea
 obtain⟨_,_,_,_,db⟩:=Q2 I.hok eb
 refine wpAny_richCompare_same_room (op:=.NotEq) da.typeIs db.typeIs PySem.F.slot_dict_ne (wpAny_call_entry PySem.F.slot_dict_ne da.typeIs PySem.F.entry_dict_ne ?_ (PySem.F.args_dict_ne_2 _ _)) (by omega)
 show wpAny _ _ (Builtin.Dict.dictSlotArgs "__ne__" ⟨[.ref a,.ref b],[]⟩ >>= _) _ _ s
 unfold Builtin.Dict.dictSlotArgs
 refine wpAny_bind (wpAny_bind (wpAny_notOrdered_dict da.typeIs (show wpAny _ _ (pure (Value.ref a,Value.ref b)) _ _ s from wpAny_pure (wpAny_bind (wpAny_isInstance (T:="dict") db.typeIs PySem.F.sub_dict_dict ?_)))))
 simp only[Bool.not_true,Bool.false_eq_true,if_false]
 refine wpAny_bind (wpAny_pure (wpAny_bind (wpAny_pure (wpAny_bind (UV hu I ea eb len all ?_)))))
 exact wpAny_pure ⟨_,rfl,(λx=>nomatch x),⟨.bl false,H,I,rfl,q⟩⟩
theorem Wr:KD X "dict.clear" (λx xs H Q=>∃(a:Addr) (kvs:List (List qN×V)),x=.ref a/\xs=[]/\H a=some (.dT kvs)/\Q .non (upd H a (.dT []))):=by
 intro pins s σ H x xs v us Q I rx rs h
 obtain⟨a,kvs,rfl,rfl,e,q⟩:=h
 cases rx
 cases rs
 obtain⟨z,hd,ys,rel,dd⟩:=xz I.hok e
 obtain⟨o,es,ep,h1,h2,h3,h4,_,_⟩:=id dd
 have hes:es.size<=sizeLine:=by rw[size_of_entries h4,<-Paired.length rel];exact z
 have mt:MeetsIn X.prog X.w (Builtin.«dict.clear» ⟨[.ref a],[]⟩) (λ_ R s'=>s'=s/\∀h',(∃o',h'.get? a=some o'/\o'.ExactDict/\o'.data=.dict #[] (ep+1))->Heap.SameBut a s.heap h'->R (.ok (.ret .none)) {s with heap:=h'}):=.of_wp λA R s' ⟨es',k⟩=>by
   subst es'
   unfold Builtin.«dict.clear» Builtin.Dict.noArgs
   refine wpAny_bind (wpAny_bind (wpAny_notOrdered_dict dd.typeIs (show wpAny _ _ (pure a) _ _ s' from wpAny_pure (wpAny_bind (wpAny_dictEntries h1 h3 (wpAny_bind ?_))))))
   unfold bearsInstanceDictMark
   refine wpAny_bind (wpAny_load h1 (wpAny_pure (wpAny_bind (wpAny_updateDictKeys (hz:=hes) h1 h3 ?_))))
   have new:∃o',(s'.heap.update a (Obj.mapDictKeys λ_=>#[])).get? a=some o'/\o'.ExactDict/\o'.data=.dict #[] (ep+1):=⟨_,Heap.get?_update_self _ h1 (Obj.isFreed_of_dict (Obj.data_mapDictKeys h3 _)),h2.mapDictKeys _,Obj.data_mapDictKeys h3 _⟩
   split
   . exact wpAny_bind (wpAny_letGo (wpAny_pure ⟨.none,rfl,k _ new (Heap.SameBut.update ..)⟩))
   . exact wpAny_bind (wpAny_pure (wpAny_pure ⟨.none,rfl,k _ new (Heap.SameBut.update ..)⟩))
 refine call_meetsIn PySem.F.slot_dict_clear dd.typeIs PySem.F.entry_dict_clear (PySem.F.args_dict_clear_1 _) mt ⟨rfl,λh' ⟨o',g1,g2,g3⟩ hs=>?_⟩
 exact⟨.non,_,ZU (t':=s.toks) (ob:=.dT []) I (by rw[e];exact True.intro) hs ⟨o',g1⟩ ⟨Nat.zero_le _,hd,[],.nil,o',#[],ep+1,g1,g2,g3,rfl,List.nodup_nil⟩,rfl,q⟩
def yi (K:PySem.W.Frag) (bm:List Value):List V->Hp->VK->Prop:=λxs H Q=>∃(a p C dx:Addr) (hd:Value) (fs:List (Str×V)) (cs:List Addr) (b:Bool),xs=[.ref a,.ref p]/\H a=some (jD a C dx hd)/\H dx=some (.xd fs)/\Ze K C bm/\H p=some (.tup (cs.map V.ref))/\PySem.W.kitAny K (.ref C) (cs.map Value.ref)=some b/\Q (.bl b) H
theorem XN {bm:List Value} (hn:PySem.W.specialIn X.K (.builtin "object.__class__") "__get__"=some (some (.builtin "getset_descriptor.__get__"))) (htk:PySem.W.takesIn X.K (.builtin "object.__class__")=some true):jU X (.builtin "isinstance") (yi X.K bm):=by
 intro pins s σ H xs us Q I r h
 obtain⟨e,p,C,dx,hd,fs,cs,b,rfl,ha,hx,c,ep,ek,q⟩:=h
 obtain⟨u,w',rfl,ru,rw'⟩:=Xd r
 cases ru
 cases rw'
 obtain⟨⟨fl,he,_⟩,_,_⟩:=(show qC X.prog X.w H s.heap e (jD e C dx hd) from I.hok e _ ha)
 obtain⟨mA,hns,hr⟩:=(show qC X.prog X.w H s.heap dx (.xd fs) from I.hok dx _ hx)
 obtain⟨od,ho,hl⟩:=Jg hns
 obtain⟨its,rv,⟨o,e1,c1,n1,d1⟩,_⟩:=I.tuple (.of ep:Zc X.K H p _)
 obtain rfl:=Zf rv
 obtain⟨oc,odd,oda,osl⟩:=o
 cases c1
 cases d1
 exact PySem.W.kia_tup (XA (ox:={cls:=.ref C,dict:=some dx,data:=.fields fl}) (odd:=od) c hn htk) I.kIn ⟨he,rfl,rfl,ho⟩ e1 ek (λz=>nomatch z) λtk=>⟨.bl b,H,I.tok tk,rfl,q⟩
end
end L2
set_option Elab.async false
set_option linter.all false
set_option maxRecDepth 100000
set_option maxHeartbeats 4000000
namespace L2
open PySem PySem.Spec PyProof.Rows
structure kB (P:Program) (w:World) (K:PySem.W.Frag) (mg:Str->Option Value) (base:Heap) (k:Nat) (f:Addr) (fd:FuncData) (ps:List Str) (sp:Sp):Prop where
 len:∀vs H Q E,sp vs H Q E->vs.length=ps.length
 run:∀(A:Around) (a:Value) (outer:List Env) (s:Shared) (H:Hp) (args:Args) (us:List Value) (vs:List V) (Q:VK) (E:XK),qW k A->Y8 P w K mg base (A.mark (some a)) outer s H->BindsTo s fd args (ps.zip us)->qD vs us->sp vs H Q E->
   codeAny (model P w) (A.mark (some a)) (.call (.ref f) args) (CR jh outer P w H s Q E) s
section
variable {P:Program} {w:World} {K:PySem.W.Frag} {mg:Str->Option Value} {base:Heap}
theorem Qe.loud {x qual:Str} {st:Stmt} {f:Addr} {fd:FuncData} {N ps:List Str} {k:Nat} {sp:Sp} (F:Qe K x qual st f fd) (S:qB N ps (qm st)) (len:∀vs H Q E,sp vs H Q E->vs.length=ps.length)
   (hbody:∀(cdv:Value) (A:Around) (a:Value) (outer:List Env) (s:Shared) (H:Hp) (vs:List V) (Q:VK) (E:XK),qW k (A.deeper (envOfC qual (qm st) s.heap.objs.size f cdv))->sp vs H Q E->
     ∃t,zU ((jS jh P w K mg base N qual (qm st) f cdv A outer s H E).suite a λ_ _=>False) (jX st) t/\t {nx:=λ_ H'=>Q .non H',rt:=Q} (QG N vs) H):kB P w K mg base (k+1) f fd ps sp:=by
 obtain⟨oc,od,kV,doc,pm,an,cdv,ct,osl,rfl,lk,hcd⟩:=F.ex
 refine⟨len,λA a outer s H args us vs Q E room env bind vals h=>?_⟩
 have eq:=len _ _ _ _ h
 have kx:K.In s.heap:=env.mod.kin.keeps λb o z=>(env.bs b o z).1
 have nl:s.heap.NoLimit:=env.mod.nolimit.keeps λb o z=>(env.bs b o z).1
 have kinds:∀y∈ps.zip us,(qm st).names.lookup y.1=some .local\/((qm st).names.lookup y.1=some .cell/\((cellsFrom (s.heap.objs.size+1) (qm st).names []).lookup y.1).isSome=true):=λy hy=>
   (S.par y.1 (List.of_mem_zip (a:=y.1) (b:=y.2) hy).1).elim .inl λz=>.inr ⟨z,PySem.W.cellsFrom_some _ _ _ (.inl z)⟩
 refine codeAny_call_function (A:=A.mark (some a)) room.depth (kx _ _ lk) rfl S.co S.gen rfl (PySem.W.codeRec_of kx hcd) (bind _ _ _ _ (wpAny_newFunctionEnv_cells S.kind kinds λe he s1 z=>?_))
 subst he
 refine⟨nl.keeps z.toInCall.keep,codeAny_func ?_⟩
 obtain⟨t,ht,hq⟩:=hbody cdv A a outer s H vs Q E (room.deeper _) h
 have env':Y8 P w K mg base A outer s H:=⟨env.frames,env.mod,env.bs,env.bsz,env.funs,env.frf,env.hok,env.bare⟩
 have I0:qw (jS jh P w K mg base N qual (qm st) f cdv A outer s H E) [] (QG N vs) H s1:=Yj S room.hd env' eq vals z
 have I:=I0.suite a λ_ _=>False
 refine wpAny_mono (ht.to [] s1 (QG N vs) H _ I hq) (λfl s' hs=>?_) λe s' hs=>hs.elim
 have fin:∀{σ':St} {H':Hp} {v:V} {u:Value},qw ((jS jh P w K mg base N qual (qm st) f cdv A outer s H E).suite a λ_ _=>False) [] σ' H' s'->qO v u->Q v H'->CE outer P w H s Q u s':=λ{σ' H' v u} J rv q=>⟨v,H',J.os,J.bare,J.base,J.hok,rv,q⟩
 match fl,hs with
 | .ret u,⟨v,σ',H',J,rv,q⟩=>exact fin J rv q
 | .next,⟨σ',H',J,q⟩=>exact fin (v:=V.non) (u:=Value.none) J rfl q
 | .brk,⟨_,_,_,q⟩=>exact q.elim
 | .cont,⟨_,_,_,q⟩=>exact q.elim
end
section
variable {X:Cx} {k:Nat} {f:Addr} {fd:FuncData} {ps:List Str} {sp:Sp} {x:Str} {p pos:Pos} {e:Expr} {es:List Expr} {t:TA} {a:Value} {E:Value->Shared->Prop}
theorem vj (F:kB X.prog X.w X.K X.mg X.base k f fd ps sp) (hr:qW k X.A) (hg:Gl X x) (hm:X.mg x=some (.ref f)) (hk:PySem.W.keepIn X.K (.ref f)=true) (hb:jG X.K fd ps []) (ha:PA (X.suite a E) (e::es) t)
   (hdb:(x==("__debug__":Str))=false:=by decide) (he:starEach (e::es) X.env=(false,eval e X.env)::starEach es X.env:=by rfl) (hpl:(backTo pos (starEach es X.env)).any (·.1)=false:=by rfl):
   PE (X.suite a E) (.Call (.Name x p) (e::es) [] pos) (Zq sp [] E0 t):=by
 intro pins s σ H Q I h
 refine wpAny_Call_Name_kw (J2 (X:=X.suite a E) I hg hm (PySem.W.callWith_K (h₀:=X.base) I.ok.mod.kin hk (jk (ha pos pins s σ H _ I h) λus s1 ⟨vs,H1,I1,r,q⟩=>⟨I1.kIn,?_⟩) he hpl) hdb)
 have q':sp vs H1 Q E0:=by simpa using q
 have ll:us.length=ps.length:=r.length.symm.trans (F.len _ _ _ _ q')
 have bt:BindsTo s1 fd ⟨us,[]⟩ (ps.zip us):=by simpa using hb s1 us I1.kIn (by simpa using ll)
 refine wpAny_call (codeAny_mono (F.run X.A a X.stack s1 H1 ⟨us,[]⟩ us vs Q E0 hr I1.env0 bt r q') λz s' q=>?_)
 match z,q with
 | .error y,q=>exact(show False from q).elim
 | .ok (.ret u),q=>exact I1.after q
theorem vU (F:kB X.prog X.w X.K X.mg X.base k f fd ps sp) (hr:qW k X.A) (hg:Gl X x) (hm:X.mg x=some (.ref f)) (hk:PySem.W.keepIn X.K (.ref f)=true) (hb:jG X.K fd ps []) (ha:JA (X.suite a E) (e::es) t)
   (hdb:(x==("__debug__":Str))=false:=by decide) (he:starEach (e::es) X.env=(false,eval e X.env)::starEach es X.env:=by rfl) (hpl:(backTo pos (starEach es X.env)).any (·.1)=false:=by rfl):
   JE (X.suite a E) (.Call (.Name x p) (e::es) [] pos) (Zq sp [] E0 t):=.of (vj F hr hg hm hk hb ha.to hdb he hpl)
end
end L2
set_option Elab.async false
set_option linter.all false
set_option maxRecDepth 100000
set_option maxHeartbeats 4000000
namespace L2
open PySem PySem.Spec PyProof.Rows
section
variable {X:Cx}
theorem WI:jU X (.builtin "len") (λxs H Q=>∃(a:Addr) (kvs:List (List qN×V)),xs=[V.ref a]/\Rd H a (.dT kvs)/\Q (.int kvs.length) H):=by
 intro pins s σ H xs us Q I r h
 obtain⟨a,kvs,rfl,ha,q⟩:=h
 obtain⟨u,rfl,ru⟩:=Qh r
 cases ru
 obtain⟨z,hd,ys,rel,dd⟩:=Q2 I.hok ha
 obtain⟨o,es,ep,h1,h2,h3,h4,_,_⟩:=id dd
 have hes:es.size=kvs.length:=by rw[size_of_entries h4,<-Paired.length rel]
 have mt:MeetsIn X.prog X.w (Builtin.«dict.__len__» ⟨[.ref a],[]⟩) (λ_ R s'=>s'=s/\R (.ok (.ret (.int kvs.length s'.toks))) {s' with toks:=s'.toks+1}):=.of_wp λA R s' ⟨es',k⟩=>by
   subst es'
   show wpAny _ _ (dictSize a >>= _) _ _ s'
   unfold dictSize
   refine wpAny_bind (wpAny_bind (wpAny_dictEntries h1 h3 (wpAny_pure ?_)))
   show wpAny _ _ (Builtin.Dict.pendingCount a >>= _) _ _ s'
   refine wpAny_bind (wpAny_pendingCount_other hd ?_)
   refine wpAny_ret_mkInt ?_
   rw[<-hes]at k
   simpa using k
 have sm:(kvs.length:Int) < 2^63:=by rw[sizeLine_eq]at z;omega
 refine Calls.call_function_entry kind_len plain_len entry_len (args_len1 _) ?_
 unfold Builtin.«len»
 refine wpAny_bind (m:=oneArg "len" _) (wpAny_pure ?_)
 refine wpAny_bind (m:=callSpecial? (.ref a) (Str.ofString "__len__")) (wpAny_callSpecial?_slot (name:=Str.ofString "__len__") dd.typeIs F.slot_dict_len
   (call_meetsIn F.slot_dict_len dd.typeIs F.entry_dict_len (F.args_dict_len_1 _) mt ⟨rfl,?_⟩))
 show wpAny _ _ _ _ _ {s with toks:=s.toks+1}
 refine wpAny_bind (wpAny_holding (wpAny_pure ?_))
 refine wpAny_bind (wpAny_letGo ?_)
 show wpAny _ _ (if ((kvs.length:Nat):Int) < 0 then _ else _) _ _ _
 rw[if_neg (by omega)]
 show wpAny _ _ (if ((kvs.length:Nat):Int) ≥ 2^63 then _ else _) _ _ _
 rw[if_neg (by omega)]
 refine wpAny_bind (wpAny_mkInt (wpAny_pure ⟨_,rfl,?_⟩))
 exact⟨.int kvs.length,H,I.tok _,⟨_,rfl⟩,q⟩
theorem uV {P:Program} {w:World}:jP (Qv P w) X E0:=λ_ _ _ _ _ _ _ h=>by
 obtain⟨a,C,dx,T,Hx,H',_,_,_,_,_,_,_,_,_,_,z⟩:=h
 exact z.elim
end
end L2
set_option linter.all false
namespace MLab
def KP (ns:List Nat):Nat:=ns.foldr (λa b=>a^^^b) 0
section
variable {α:Type} (G:α->List α)
structure Lab (ok:α->Prop) (num:α->Option Nat) (stp:α->Nat):Prop where
 cl:∀{x y},ok x->y∈G x->ok y
 n1:∀{x n m},ok x->num x=some n->m < n->∃y∈G x,num y=some m/\stp y < stp x
 n2:∀{x y n},ok x->num x=some n->y∈G x->num y≠some n
 n3:∀{x y n},ok x->num x=some n->y∈G x->(∀m,num y=some m->n < m)->∃z∈G y,num z=some n/\stp z < stp x
 n4:∀{x y n m},ok x->num x=some n->y∈G x->num y=some m->m < n->stp y < stp x
 e:∀{x m},ok x->num x=none->(∀j,j < m->∃y∈G x,num y=some j)->(∀y∈G x,num y≠some m)->∃y∈G x,num y=none/\∀z∈G y,num z≠some m
section
variable {β:Type} (M:β->List β)
mutual
inductive KE:β->Prop
 | mk {a:β} (h:∀b∈M a,Won b):KE a
inductive Won:β->Prop
 | mk {a b:β} (m:b∈M a) (h:KE b):Won a
end
end
def mv:List α->List (List α)
 | []=>[]
 | x::h=>(G x).map (λy=>y::h)++(mv h).map (λb=>x::b)
variable {G} {ok:α->Prop} {num:α->Option Nat} {stp:α->Nat}
def Ge (num:α->Option Nat) (h:List α):List Nat:=h.filterMap num
def ends (num:α->Option Nat) (h:List α):Nat:=(h.filter λx=>(num x).isNone).length
def Drawn (G:α->List α) (num:α->Option Nat) (h:List α):Prop:=(∃p x q,h=p++x::q/\num x=none/\ends num (p++q)=0/\∀y∈G x,num y≠some (KP (Ge num (p++q))))\/2<=ends num h
end
section
variable {α:Type} [DecidableEq α] (G:α->List α) (N:List α)
abbrev Rs (α:Type):=List (Nat×List α)
def Xb (rs:Rs α) (z:α):Option Nat:=(rs.find? λr=>decide (z∈r.2)).map (·.1)
def ua (rs:Rs α) (z:α):Nat:=rs.findIdx λr=>decide (z∈r.2)
def GS (f:α->Option Nat) (x:α) (n:Nat):Prop:=(∀j,j < n->∃y∈G x,f y=some j)/\(∀y∈G x,f y≠some n)/\∀y∈G x,f y=none->∃z∈G y,f z=some n
structure GA (rs:Rs α) (n:Nat) (ns:List α):Prop where
 iff:∀x,x∈ns↔x∈N/\Xb rs x=none/\GS G (Xb rs) x n
 sub:ns.Sublist N
inductive y7 (n:Nat):Rs α->Rs α->Prop
 | stop {rs:Rs α} (h:GA G N rs n []):y7 n rs rs
 | more {rs rs':Rs α} {ns:List α} (h:GA G N rs n ns) (ne:ns≠[]) (k:y7 n (rs++[(n,ns)]) rs'):y7 n rs rs'
inductive All:Nat->Rs α->Rs α->Prop
 | stop {n:Nat} {rs:Rs α} (h:GA G N rs n []):All n rs rs
 | more {n:Nat} {rs rs' rs'':Rs α} (h:y7 G N n rs rs') (ne:rs'≠rs) (k:All (n+1) rs' rs''):All n rs rs''
variable {G N}
variable (G N) in
structure Val (rs:Rs α) (n:Nat):Prop where
 inN:∀{x m},Xb rs x=some m->x∈N
 le:∀{x m},Xb rs x=some m->m<=n
 n1:∀{x k m},Xb rs x=some k->m < k->∃y∈G x,Xb rs y=some m/\ua rs y < ua rs x
 n2:∀{x y k},Xb rs x=some k->y∈G x->Xb rs y≠some k
 n3:∀{x y k},Xb rs x=some k->y∈G x->(∀m,Xb rs y=some m->k < m)->∃z∈G y,Xb rs z=some k/\ua rs z < ua rs x
 n4:∀{x y k m},Xb rs x=some k->y∈G x->Xb rs y=some m->m < k->ua rs y < ua rs x
variable (G N) in
def EP (rs:Rs α) (m:Nat):Prop:=∀x∈N,Xb rs x=none->(∀j,j < m->∃y∈G x,Xb rs y=some j)->(∀y∈G x,Xb rs y≠some m)->∃y∈G x,Xb rs y=none/\∀z∈G y,Xb rs z≠some m
end
end MLab
set_option linter.all false
namespace MLab
section
variable {α:Type} {G:α->List α}
structure Lst (f:α->Nat) (ys:List α) (n:Nat):Prop where
 lo:∀j,j < n->∃y∈ys,f y=j
 no:∀y∈ys,f y≠n
variable [DecidableEq α]
def rk (zs:List α) (z:α):Nat:=zs.idxOf z
end
end MLab
set_option Elab.async false
set_option linter.all false
set_option maxRecDepth 100000
set_option maxHeartbeats 4000000
namespace Rh
open PySem L2
def top (i:Nat):Stmt:=PySem.Challenge.pw_ringheaps_k83_grounds_joined_and_paired.main.body.getD i (.Pass ⟨0,0,0,0⟩)
abbrev Jr:Stmt:=top 9
abbrev W3:Stmt:=top 28
abbrev ZF:Stmt:=top 29
abbrev Z4:Stmt:=top 30
abbrev Z5:Stmt:=top 31
abbrev Z6:Stmt:=top 32
abbrev W1:Stmt:=top 33
abbrev YD:Stmt:=top 42
end Rh
namespace Rh
open PySem L2 PyProof.Rows
structure j0 (K:PySem.W.Frag) (mg:Str->Option Value) (x:Str) (st:Stmt) (ps:List Str) (f:Addr) (fd:FuncData):Prop where
 fn:Qe K x x st f fd
 ns:mg x=some (.ref f)
 bi:jG K fd ps []
theorem ja {X:Cx} {x:Str} {st:Stmt} {ps:List Str} {f:Addr} {fd:FuncData} {k:Nat} {sp:Sp} {e:Expr} {es:List Expr} {t:TA} {p pos:Pos} (h:j0 X.K X.mg x st ps f fd) (G:qu X.prog X.w X.K X.mg X.base jh k f fd ps sp) (hr:qW k X.A)
   (hg:Gl X x) (ha:JA X (e::es) t) (hdb:(x==("__debug__":Str))=false:=by decide) (he:starEach (e::es) X.env=(false,eval e X.env)::starEach es X.env:=by rfl) (hpl:(backTo pos (starEach es X.env)).any (·.1)=false:=by rfl):
   JE X (.Call (.Name x p) (e::es) [] pos) (Zq sp [] E0 t):=.of (Vc G hr hg h.ns h.fn.kp h.bi .nil JY ha.to hdb he hpl)
theorem qk {H:Hp} {b p:Addr} {o o':HO} (h:H b=some o) (hp:H p=none):upd H p o' b=some o:=by
 rw[qf (ql h hp)]
 exact h
theorem qh {H:Hp} {p:Addr} {o:HO} (hp:H p=none):Same H (upd H p o):=λb u h=>qk h hp
theorem Same.upd {H H':Hp} {p:Addr} {o:HO} (s:Same H H') (hp:H p=none):Same H (upd H' p o):=λb u h=>by
 rw[qf (ql h hp)]
 exact s b u h
def src (n s t:Int):List (qN×V):=[(Sum.inr "number",.int n),(Sum.inr "seed",.int s),(Sum.inr "turn",.int t)]
theorem nns:¬(Str.ofString "number")=Str.ofString "seed":=by decide+kernel
theorem Gg:¬(Str.ofString "number")=Str.ofString "turn":=by decide+kernel
theorem Gf:¬(Str.ofString "seed")=Str.ofString "turn":=by decide+kernel
theorem nsn:¬(Str.ofString "seed")=Str.ofString "number":=by decide+kernel
theorem ntn:¬(Str.ofString "turn")=Str.ofString "number":=by decide+kernel
theorem nts:¬(Str.ofString "turn")=Str.ofString "seed":=by decide+kernel
theorem vZ {a b:Str} (h:¬a=b):¬(Sum.inr a:qN)=Sum.inr b:=λe=>h (Sum.inr.inj e)
section
variable {H:Hp} {d:Addr} {n s t:Int}
theorem gN (h:H d=some (.dK (src n s t))):jK H d (.str "number") (some (.int n)):=by
 have e:jp (src n s t) (Sum.inr "number":qN)=some (.int n):=je rfl
 have q:=jK.k (k:=(Sum.inr "number":qN)) h
 rw[e]at q
 exact q
theorem gS (h:H d=some (.dK (src n s t))):jK H d (.str "seed") (some (.int s)):=by
 have e:jp (src n s t) (Sum.inr "seed":qN)=some (.int s):=(qZ (vZ nns)).trans (je rfl)
 have q:=jK.k (k:=(Sum.inr "seed":qN)) h
 rw[e]at q
 exact q
theorem gT (h:H d=some (.dK (src n s t))):jK H d (.str "turn") (some (.int t)):=by
 have e:jp (src n s t) (Sum.inr "turn":qN)=some (.int t):=(qZ (vZ Gg)).trans ((qZ (vZ Gf)).trans (je rfl))
 have q:=jK.k (k:=(Sum.inr "turn":qN)) h
 rw[e]at q
 exact q
theorem uA:(src n s t).length < sizeLine:=qo (by show 3<=1000;decide)
theorem pN (h:H d=some (.dK (src n s t))) (v:Int):Jp H d (.str "number") (.int v) (upd H d (.dK (src v s t))):=by
 have e:jL (src n s t) (Sum.inr "number":qN) (.int v)=src v s t:=by
   unfold jL src
   simp [nsn,ntn]
 have q:=Jp.k (k:=(Sum.inr "number":qN)) (v:=.int v) h uA
 rw[e]at q
 exact q
theorem pT (h:H d=some (.dK (src n s t))) (v:Int):Jp H d (.str "turn") (.int v) (upd H d (.dK (src n s v))):=by
 have e:jL (src n s t) (Sum.inr "turn":qN) (.int v)=src n s v:=by
   unfold jL src
   simp [Gg,Gf]
 have q:=Jp.k (k:=(Sum.inr "turn":qN)) (v:=.int v) h uA
 rw[e]at q
 exact q
end
def ZY:Sp:=λvs H Q _=>∃(d:Addr) (m n s t:Int),vs=[.ref d,.int m]/\H d=some (.dK (src n s t))/\0 < m/\m.natAbs < 2^200/\∀r n' t',0<=r->r < m->Q (.int r) (upd H d (.dK (src n' s t')))
def Xk:Sp:=λvs H Q _=>∃c:Int,vs=[.int c]/\∀d n s,H d=none->Q (.ref d) (upd H d (.dK (src n s 0)))
def UO (K:PySem.W.Frag):Sp:=λvs H Q _=>∃(a:Addr) (ns:List Int) (k:Int),vs=[.ref a,.int k]/\SqL K H a (ns.map V.int)/\0<=k/\∀v,Q (.int v) H
section
variable {P:Program} {w:World} {K:PySem.W.Frag} {mg:Str->Option Value} {base:Heap}
theorem YC:qB ["_law_source_here","_law_many_here","_law_digit","_law_number"] ["_law_source_here","_law_many_here"] (qm Z4):=⟨rfl,rfl,rfl,by decide+kernel,rfl,by decide+kernel,by decide+kernel⟩
theorem ZH {f:Addr} {fd:FuncData} (F:Qe K "_law_take" "_law_take" Z4 f fd):qu P w K mg base jh 1 f fd ["_law_source_here","_law_many_here"] ZY:=by
 refine F.okJ YC (λvs H Q E h=>?_) (λcdv A outer s H vs Q E hr h=>?_)
 . obtain⟨d,m,n,sd,t,rfl,_⟩:=h
   rfl
 . obtain⟨d,m,n,sd,t,rfl,hd,m0,m1,k⟩:=h
   have hu:=Q1 hr
   refine⟨_,qg (qU (qt Q7 (jF hu (jv 0) jy (λ_ _=>rfl)) qi (qx _))
       (qg (qA (i:=2) YC.nd rfl (Or.inl rfl) (qV QO (jF hu (jv 0) jy (λ_ _=>rfl)) (jv 1)))
       (qg (jV hu (jv 0) jy (qV Xr (jF hu (jv 0) jy (λ_ _=>rfl)) (jv 1)) rfl)
       (qj (qP (jv 2))))) qz)
     (qg (jV hu (jv 0) jy (qV QP (jF hu (jv 0) jy (λ_ _=>rfl)) qi) rfl)
     (qg (qA (i:=3) YC.nd rfl (Or.inl rfl) (qV QO (qV Qq (qV QP (jF hu (jv 0) jy (λ_ _=>rfl)) (qV Qq qi (jF hu (jv 0) jy (λ_ _=>rfl)))) qi) qi))
     (qg (qA (i:=3) YC.nd rfl (Or.inl rfl) (qV QO (qV Qq (jv 3) (jv 3)) qi))
     (qj (qP (qV QO (qV yp (qV QO (qV Qq (qV QP (jv 3) (jF hu (jv 0) jy (λ_ _=>rfl))) (qV QP (jv 3) qi)) qi) qi) (jv 1))))))),?_⟩
   refine⟨_,rfl,d,_,rfl,gN hd,_,_,rfl,rfl,_,rfl,?_⟩
   refine YT (λ_=>?_) (λ_=>?_)
   . refine⟨_,rfl,d,_,rfl,gN hd,_,rfl,_,_,rfl,rfl,m0,?_⟩
     refine⟨_,rfl,d,_,rfl,gN hd,_,rfl,_,_,rfl,rfl,⟨m0,m1⟩,_,rfl,d,_,rfl,pN hd _,?_⟩
     exact⟨_,rfl,k _ _ _ (Int.emod_nonneg _ (by omega)) (Int.emod_lt_of_pos _ m0)⟩
   . refine⟨_,rfl,d,_,rfl,gT hd,_,_,rfl,rfl,_,rfl,d,_,rfl,pT hd _,?_⟩
     have h1:upd H d (.dK (src n sd (t+1))) d=some (.dK (src n sd (t+1))):=qd
     refine⟨_,rfl,d,_,rfl,gS h1,_,rfl,d,_,rfl,gT h1,_,_,rfl,rfl,.inl ⟨by decide,by decide⟩,_,_,rfl,rfl,_,_,rfl,rfl,.inr ⟨by decide,by decide⟩,_,_,rfl,rfl,(by show (0:Int) < 2147483647;decide),?_⟩
     generalize ha:((sd+7919*(t+1))*48271) % 2147483647=x
     have x0:0<=x:=by rw[<-ha];exact Int.emod_nonneg _ (by decide)
     have x1:x < 2147483647:=by rw[<-ha];exact Int.emod_lt_of_pos _ (by decide)
     refine⟨_,rfl,_,rfl,_,_,rfl,rfl,.inl ⟨by omega,by omega⟩,_,_,rfl,rfl,(by show (0:Int) < 2147483629;decide),?_⟩
     generalize hb:(x*x) % 2147483629=y
     have y0:0<=y:=by rw[<-hb];exact Int.emod_nonneg _ (by decide)
     have y1:y < 2147483629:=by rw[<-hb];exact Int.emod_lt_of_pos _ (by decide)
     refine⟨_,rfl,_,rfl,d,_,rfl,gT h1,_,_,rfl,rfl,_,rfl,_,_,rfl,rfl,_,_,rfl,rfl,.inr ⟨by omega,by omega⟩,_,_,rfl,rfl,(by show (0:Int) < 2147483587;decide),_,_,rfl,rfl,⟨by decide,by decide⟩,_,rfl,_,_,rfl,rfl,m0,?_⟩
     exact k _ _ _ (Int.emod_nonneg _ (by omega)) (Int.emod_lt_of_pos _ m0)
end
end Rh
namespace Rh
open PySem L2 PyProof.Rows
structure Zp (mg:Str->Option Value):Prop where
 len:mg "len"=none
 max:mg "max"=none
 min:mg "min"=none
 int:mg "int"=none
 rng:mg "range"=none
theorem V5 (n s t:Int):Qg [] (src n s t)=src n s t:=by
 unfold Qg src
 simp only[List.foldl_cons,List.foldl_nil]
 unfold jL
 simp [nns,Gg,Gf,nsn,ntn,nts]
section
variable {P:Program} {w:World} {K:PySem.W.Frag} {mg:Str->Option Value} {base:Heap}
theorem US:qB ["_law_cell"] ["_law_cell"] (qm ZF):=⟨rfl,rfl,rfl,by decide+kernel,rfl,by decide+kernel,by decide+kernel⟩
theorem V1 {f:Addr} {fd:FuncData} (F:Qe K "_law_source" "_law_source" ZF f fd) (B:Zp mg):qu P w K mg base jh 1 f fd ["_law_cell"] Xk:=by
 refine F.okJ US (λvs H Q E h=>?_) (λcdv A outer s H vs Q E hr h=>?_)
 . obtain⟨c,rfl,_⟩:=h
   rfl
 . obtain⟨c,rfl,k⟩:=h
   refine⟨_,qj (qP (yP
     (zw jy (qV Qq (qr (Yl rfl) (by rfl) B.max boot_max (qb qi (qb (jv 0) qe)))
       (jq Ut (by rfl) B.int boot_int (qb (QS vn (jv 0) (qV wf qi qi) (qx _)) qe)))
     (zw jy (qV QO (jv 0) qi) (zw jy qi yM))) rfl rfl (by simp) (by decide))),?_⟩
   intro p hp
   refine⟨_,rfl,_,_,rfl,_,rfl,_,_,rfl,rfl,⟨by decide,by decide,by decide⟩,_,_,rfl,rfl,.inr ⟨_,rfl,_,_,rfl,rfl,.inr ?_,_,rfl,_,_,rfl,rfl,(by show (0:Int) < 2147483629;decide),?_⟩⟩
   . split<;>exact⟨by decide,by decide⟩
   . refine⟨qd,src _ _ 0,rfl,(by show 3<=15;decide),?_⟩
     rw[V5,jw]
     exact k p _ _ hp
theorem xX:qB ["_law_script","_law_k"] ["_law_script","_law_k"] (qm W3):=⟨rfl,rfl,rfl,by decide+kernel,rfl,by decide+kernel,by decide+kernel⟩
theorem yx {f:Addr} {fd:FuncData} (F:Qe K "_law_cell_at" "_law_cell_at" W3 f fd) (B:Zp mg):qu P w K mg base jh 1 f fd ["_law_script","_law_k"] (UO K):=by
 refine F.okJ xX (λvs H Q E h=>?_) (λcdv A outer s H vs Q E hr h=>?_)
 . obtain⟨a,ns,k,rfl,_⟩:=h
   rfl
 . obtain⟨a,ns,k,rfl,hS,k0,q⟩:=h
   refine⟨_,qg (qU (qt Qr (jv 1) (qr qy (by rfl) B.len boot_len (qb (jv 0) qe)) (qx _))
       (qj (qP (qS QU (jv 0) (jv 1) (λ_ _=>rfl)))) qz)
     (qj (qP (qV QP (qV Qq qi (jv 1)) qi))),?_⟩
   refine⟨_,rfl,_,rfl,a,_,rfl,.inl hS,_,_,rfl,rfl,_,rfl,?_⟩
   refine YT (λh=>?_) (λ_=>?_)
   . have h1:k < ((ns.map V.int).length:Int):=of_decide_eq_true h
     rw[List.length_map]at h1
     have h2:k.toNat < ns.length:=by omega
     have h3:(ns.map V.int)[k.toNat]?=some (V.int ns[k.toNat]):=by rw[List.getElem?_map,List.getElem?_eq_getElem h2];rfl
     have h4:k=((k.toNat:Nat):Int):=by omega
     refine⟨_,rfl,_,rfl,a,_,k,V.int ns[k.toNat],rfl,rfl,hS,?_,q _⟩
     have h5:=qK h3
     rw[<-h4]at h5
     exact h5
   . exact⟨_,rfl,_,_,rfl,rfl,.inl ⟨by decide,by decide⟩,_,_,rfl,rfl,q _⟩
end
end Rh
set_option Elab.async false
set_option linter.all false
set_option maxRecDepth 100000
set_option maxHeartbeats 4000000
namespace Rh
open PySem L2 PyProof.Rows
def Fr (H:Hp) (d:Addr) (H':Hp):Prop:=∀b o,H b=some o->b≠d->H' b=some o
theorem Fr.refl {H:Hp} {d:Addr}:Fr H d H:=λ_ _ h _=>h
theorem Fr.at_d {H H':Hp} {d:Addr} {o:HO} (h:Fr H d H'):Fr H d (upd H' d o):=λb u hb hn=>by
 rw[qf hn]
 exact h b u hb hn
theorem Fr.new {H H':Hp} {d p:Addr} {o:HO} (h:Fr H d H') (hp:H' p=none):Fr H d (upd H' p o):=λb u hb hn=>qk (h b u hb hn) hp
theorem Fr.own {H H':Hp} {d p:Addr} {o:HO} (h:Fr H d H') (hp:H p=none):Fr H d (upd H' p o):=λb u hb hn=>by
 rw[qf (ql hb hp)]
 exact h b u hb hn
theorem Fr.trans {H H' H'':Hp} {d:Addr} (h:Fr H d H') (k:Fr H' d H''):Fr H d H'':=λb u hb hn=>k b u (h b u hb hn) hn
theorem Fr.fresh {H H':Hp} {d p:Addr} {o:HO} (h:Fr H d H') (hd:H' d=some o) (hp:H' p=none):H p=none:=by
 cases e:H p with
 | none=>rfl
 | some u=>
   by_cases n:p=d
   . subst n
     rw[hd]at hp
     cases hp
   . rw[h p u e n]at hp
     cases hp
def jC (c:Nat):Bool:=decide (97<=c)&&decide (c<=122)
def qG (z:Str):Bool:=(decide (1<=z.length)&&decide (z.length<=8))&&z.cps.toList.all jC
def Vx:Str:="abcdefghijklmnopqrstuvwxyz"
theorem Yu:Vx.cps.toList=[97,98,99,100,101,102,103,104,105,106,107,108,109,110,111,112,113,114,115,116,117,118,119,120,121,122]:=by decide+kernel
theorem ku:Vx.cps.toList=(List.range 26).map (97+·):=by rw[Yu];rfl
theorem Vw:Vx.length<=sizeLine:=by
 show Vx.cps.size<=sizeLine
 rw[<-Array.length_toList,Yu]
 decide
theorem ky {r:Int} (h0:0<=r) (h1:r < 26):Uy Vx.cps.toList r=some (97+r.toNat):=by
 have h2:Vx.cps.toList[r.toNat]?=some (97+r.toNat):=by
   rw[ku,List.getElem?_map,List.getElem?_range (by omega)]
   rfl
 have h4:=qK h2
 have h5:r=((r.toNat:Nat):Int):=by omega
 rw[<-h5]at h4
 exact h4
theorem Yh {r:Int} (h0:0<=r) (h1:r < 26):jC (97+r.toNat)=true:=by
 unfold jC
 rw[decide_eq_true (by omega:97<=97+r.toNat),decide_eq_true (by omega:97+r.toNat<=122)]
 rfl
theorem wF (ws:List Nat):(Txt.join (Str.ofString "") (ws.map λk=>(⟨#[k]⟩:Str))).cps.toList=ws:=by
 show (Builtin.Str.glued (Str.ofString "") _).cps.toList=_
 rw[StrLaws.glued_eq_join]
 have e:(Str.ofString "")=⟨#[]⟩:=by decide+kernel
 rw[e,PyProof.Rows.join_ones]
theorem Uc {z:Str} {A B:List Nat} {c:Nat} (e:z.cps.toList=A++[c]++B) (hA:A.all jC=true) (hc:jC c=true) (hB:B.all jC=true) (hl:A.length+B.length<=7):qG z=true:=by
 have l:z.length=A.length+1+B.length:=by
   show z.cps.size=_
   rw[<-Array.length_toList,e]
   simp
   omega
 unfold qG
 rw[decide_eq_true (by omega:1<=z.length),decide_eq_true (by omega:z.length<=8),e,List.all_append,List.all_append,hA,hB]
 simp [hc]
def Ve (f s:Int) (k:Nat):Nat:=97+((f+s*(k:Int)) % 26).toNat
theorem yC:∀s∈[(1:Int),3,5,7,9,11],∀k,k < 14->∀j,j < 14->(s*((k:Nat):Int) - s*((j:Nat):Int)) % 26=0->k=j:=by decide+kernel
theorem yB {f s:Int} {k j:Nat} (hs:s=1\/s=3\/s=5\/s=7\/s=9\/s=11) (hk:k < 14) (hj:j < 14) (h:Ve f s k=Ve f s j):k=j:=by
 unfold Ve at h
 refine yC s (by simpa using hs) k hk j hj ?_
 generalize s*(k:Int)=x at h ⊢
 generalize s*(j:Int)=y at h ⊢
 omega
def QA (A:List Nat) (f s:Int) (zs:List Str):Prop:=∀j z,zs[j]?=some z->∃B,z.cps.toList=A++[Ve f s j]++B/\B.all jC=true/\A.length+B.length<=7
theorem QA.snoc {A:List Nat} {f s:Int} {zs:List Str} (h:QA A f s zs) {z:Str} {B:List Nat} (e:z.cps.toList=A++[Ve f s zs.length]++B) (hB:B.all jC=true) (hl:A.length+B.length<=7):QA A f s (zs++[z]):=by
 intro j y hy
 by_cases hj:j < zs.length
 . rw[List.getElem?_append_left hj]at hy
   exact h j y hy
 . have hj':j=zs.length:=by
     have:=(List.getElem?_eq_some_iff.mp hy).1
     rw[List.length_append,List.length_singleton]at this
     omega
   subst hj'
   rw[List.getElem?_append_right (Nat.le_refl _),Nat.sub_self]at hy
   obtain rfl:=(Option.some.inj hy).symm
   exact⟨B,e,hB,hl⟩
theorem QA.names {A:List Nat} {f s:Int} {zs:List Str} (h:QA A f s zs) (hA:A.all jC=true):∀z∈zs,qG z=true:=λz hz=>by
 obtain⟨j,hj⟩:=List.getElem?_of_mem hz
 obtain⟨B,e,hB,hl⟩:=h j z hj
 refine Uc e hA ?_ hB hl
 unfold Ve
 exact Yh (Int.emod_nonneg _ (by decide)) (Int.emod_lt_of_pos _ (by decide))
theorem QA.nodup {A:List Nat} {f s:Int} {zs:List Str} (h:QA A f s zs) (hs:s=1\/s=3\/s=5\/s=7\/s=9\/s=11) (hz:zs.length<=14):zs.Nodup:=by
 refine List.pairwise_iff_getElem.mpr λi j hi hj hij e=>?_
 obtain⟨B,b1,_⟩:=h j _ (List.getElem?_eq_getElem hj)
 obtain⟨C,c1,_⟩:=h i _ (List.getElem?_eq_getElem hi)
 rw[e]at c1
 have e2:(A++[Ve f s j]++B)[A.length]?=(A++[Ve f s i]++C)[A.length]?:=by rw[<-b1,<-c1]
 rw[List.append_assoc,List.append_assoc,List.getElem?_append_right (Nat.le_refl _),List.getElem?_append_right (Nat.le_refl _),Nat.sub_self]at e2
 have e3:Ve f s j=Ve f s i:=Option.some.inj e2
 exact absurd (yB hs (by omega) (by omega) e3) (by omega)
theorem XO {A:List Nat} (h:A.all jC=true) (n:Nat):(A.take n).all jC=true:=by
 rw[List.all_eq_true]at h ⊢
 exact λx hx=>h x (List.mem_of_mem_take hx)
theorem xO {r:Int} (h0:0<=r) (h1:r < 6):∃m:Int,(m=1\/m=3\/m=5\/m=7\/m=9\/m=11)/\Uy [V.int 1,V.int 3,V.int 5,V.int 7,V.int 9,V.int 11] r=some (.int m):=by
 have:r=0\/r=1\/r=2\/r=3\/r=4\/r=5:=by omega
 rcases this with rfl | rfl | rfl | rfl | rfl | rfl
 . exact⟨1,by decide,rfl⟩
 . exact⟨3,by decide,rfl⟩
 . exact⟨5,by decide,rfl⟩
 . exact⟨7,by decide,rfl⟩
 . exact⟨9,by decide,rfl⟩
 . exact⟨11,by decide,rfl⟩
def WV:Sp:=λvs H Q _=>∃(d:Addr) (m:Nat) (n s t:Int),vs=[.ref d,.int m]/\H d=some (.dK (src n s t))/\m<=14/\
 ∀(l:Addr) (zs:List Str) (n' t':Int) (H':Hp),H l=none->H' l=some (.lst (zs.map V.str))->zs.length=m->(∀z∈zs,qG z=true)->zs.Nodup->H' d=some (.dK (src n' s t'))->Fr H d H'->Q (.ref l) H'
theorem Xj:∀zs:List Str,(zs.map λ_=>1).sum=zs.length
 | []=>rfl
 | z::zs=>by rw[List.map_cons,List.sum_cons,Xj zs,List.length_cons];omega
section
variable {P:Program} {w:World} {K:PySem.W.Frag} {mg:Str->Option Value} {base:Heap}
abbrev wq:List Str:=["_law_source_here","_law_many_here","_law_letters","_law_word","_law_ahead","_law_first","_law_step","_law_names_here","_law_k","_law_behind"]
theorem Qj:qB wq ["_law_source_here","_law_many_here"] (qm Z5):=⟨rfl,rfl,rfl,by decide+kernel,rfl,by decide+kernel,by decide+kernel⟩
theorem vt {f fT:Addr} {fd fdT:FuncData} (F:Qe K "_law_names" "_law_names" Z5 f fd) (B:Zp mg) (hT:j0 K mg "_law_take" Z4 ["_law_source_here","_law_many_here"] fT fdT):qu P w K mg base jh 2 f fd ["_law_source_here","_law_many_here"] WV:=by
 have GT:qu P w K mg base jh 1 fT fdT ["_law_source_here","_law_many_here"] ZY:=ZH hT.fn
 refine F.okJ Qj (λvs H Q E h=>?_) (λcdv A outer s H vs Q E hr h=>?_)
 . obtain⟨d,m,n,sd,t,rfl,_⟩:=h
   rfl
 . obtain⟨d,m,n,sd,t,rfl,hd,hm,q⟩:=h
   refine⟨_,qg (qA (i:=2) Qj.nd rfl (Or.inr rfl) jy)
     (qg (qA (i:=3) Qj.nd rfl (Or.inl rfl) (zA PySem.F.plainAttrs_str PySem.F.slot_str_join PySem.F.type_str_join yE jy (qb
       (j7 (N':=["_law_k","_law_letters","_law_source_here"]) (ix:=[none,some 2,some 0]) rfl ⟨rfl,rfl,rfl,rfl,rfl⟩
         (Qo (by rfl) B.rng (qb qi qe))
         (λC s2 H2 fp pins=>⟨qp (i:=0) (show (["_law_k","_law_letters","_law_source_here"]:List Str).Nodup by decide+kernel) rfl (Or.inl rfl),jc,
           qS YR (jv 1) (ja hT GT hr (by rfl) (qb (jv 2) (qb qi qe))) (λ_ _=>rfl)⟩)) qe)))
     (qg (qA (i:=4) Qj.nd rfl (Or.inl rfl) (J5 UQ (jv 3) ZL (ZK (qV Qq (ja hT GT hr (by rfl) (qb (jv 0) (qb qi qe))) (ja hT GT hr (by rfl) (qb (jv 0) (qb qi qe)))))))
     (qg (qA (i:=5) Qj.nd rfl (Or.inl rfl) (ja hT GT hr (by rfl) (qb (jv 0) (qb qi qe))))
     (qg (qA (i:=6) Qj.nd rfl (Or.inl rfl) (qS QU (jZ (qb qi (qb qi (qb qi (qb qi (qb qi (qb qi qe))))))) (ja hT GT hr (by rfl) (qb (jv 0) (qb qi qe))) (λ_ _=>rfl)))
     (qg (qA (i:=7) Qj.nd rfl (Or.inl rfl) (jZ qe))
     (qg (jx PassesOwn.never rfl (Qo (by rfl) B.rng (qb (jv 1) qe)) (qp (i:=8) Qj.nd rfl (Or.inl rfl))
       (qg (qA (i:=9) Qj.nd rfl (Or.inl rfl) (J5 UQ (jv 3) ZL (ZK (ja hT GT hr (by rfl) (qb (jv 0) (qb (qV we qi (qr QW (by rfl) B.len boot_len (qb (jv 4) qe))) qe))))))
       (qj (jf (zA PySem.F.plainAttrs_list PySem.F.slot_list_append PySem.F.type_list_append QI (jv 7) (qb
         (qV zi (qV zi (jv 4) (qS YR (jv 2) (qV QO (qV QP (jv 5) (qV Qq (jv 6) (jv 8))) qi) (λ_ _=>rfl))) (jv 9)) qe))))))
     (qj (qP (jv 7))))))))),?_⟩
   refine⟨rfl,7,rfl,by decide,by decide,λD hD=>?_⟩
   have nDd:D≠d:=λe=>by rw[e,hd]at hD;cases hD
   refine Yo (λi σ' H'=>∃(v:Option V) (n' t':Int) (ws:List Nat),σ'=[v,some (.str Vx),some (.ref d)]/\H' d=some (.dK (src n' sd t'))/\H' D=some (.lst ((ws.map λk=>(⟨#[k]⟩:Str)).map V.str))/\ws.length=i/\ws.all jC=true/\Fr H d H')
     ⟨none,n,t,[],rfl,qk hd hD,qd,rfl,rfl,Fr.refl.new hD⟩ ?_ ?_
   . rintro i σ' H' hi ⟨v,n',t',ws,rfl,hd',hD',hl,ha,fr⟩
     refine⟨_,rfl,_,rfl,d,26,n',sd,t',rfl,hd',by decide,by decide,λr n3 t3 r0 r1=>?_⟩
     refine⟨Vx,r,_,rfl,rfl,Vw,ky r0 r1,_,(by rw[qf nDd];exact hD'),?_,?_⟩
     . rw[List.length_map,List.length_map,hl]
       exact qo (by omega)
     . refine⟨_,n3,t3,ws++[97+r.toNat],rfl,?_,?_,?_,?_,?_⟩
       . rw[qf (Ne.symm nDd)];exact qd
       . rw[List.map_append,List.map_append];exact qd
       . rw[List.length_append,hl];rfl
       . rw[List.all_append,ha]
         simp [Yh r0 r1]
       . exact(fr.at_d).own hD
   rintro σ' H1 ⟨v,n1,t1,ws,rfl,hd1,hD1,hl1,ha1,fr1⟩
   have hl1:ws.length=7:=hl1
   refine⟨Str.ofString "",D,_,rfl,rfl,.of hD1,?_,?_⟩
   . have e1:((ws.map λk=>(⟨#[k]⟩:Str)).map (·.length))=(ws.map λk=>(⟨#[k]⟩:Str)).map λ_=>1:=by
       refine List.map_congr_left λz hz=>?_
       obtain⟨c,_,rfl⟩:=List.mem_map.mp hz
       rfl
     have e2:(Str.ofString "").length=0:=by decide+kernel
     rw[e1,e2,Xj,List.length_map,hl1]
     decide
   generalize hw:Txt.join (Str.ofString "") (ws.map λk=>(⟨#[k]⟩:Str))=wd
   have hW:wd.cps.toList=ws:=by rw[<-hw];exact wF ws
   have hWl:wd.length=7:=by
     show wd.cps.size=7
     rw[<-Array.length_toList,hW,hl1]
   refine⟨_,rfl,_,rfl,d,2,n1,sd,t1,rfl,hd1,by decide,by decide,λr2 n2 t2 r20 r21=>?_⟩
   refine⟨_,rfl,d,5,n2,sd,t2,rfl,qd,by decide,by decide,λr3 n3 t3 r30 r31=>?_⟩
   rw[jw]
   have e4:∃j:Nat,r2*r3=(j:Int)/\j<=4:=by
     have h2:r2=0\/r2=1:=by omega
     rcases h2 with rfl | rfl
     . exact⟨0,by omega,by omega⟩
     . exact⟨r3.toNat,by omega,by omega⟩
   obtain⟨j,ej,hj⟩:=e4
   refine⟨_,_,rfl,rfl,.inl ⟨by omega,by omega⟩,_,rfl,wd,r2*r3,rfl,rfl,rfl,by omega,?_⟩
   rw[ej]
   generalize ha:Txt.slice wd none (some (j:Int))=ah
   have hA:ah.cps.toList=ws.take j:=by rw[<-ha,Z0,hW]
   have hAl:ah.length=j:=by
     show ah.cps.size=j
     rw[<-Array.length_toList,hA,List.length_take,hl1]
     omega
   refine⟨_,rfl,d,26,n3,sd,t3,rfl,qd,by decide,by decide,λf n4 t4 f0 f1=>?_⟩
   rw[jw]
   refine⟨by show 6<=sizeLine;decide,λp hp=>?_⟩
   have npd:p≠d:=λe=>by rw[e,qd]at hp;cases hp
   refine⟨_,rfl,d,6,n4,sd,t4,rfl,(by rw[qf (Ne.symm npd)];exact qd),by decide,by decide,λr5 n5 t5 r50 r51=>?_⟩
   obtain⟨st,hst,hsa⟩:=xO r50 r51
   refine⟨p,_,r5,.int st,rfl,rfl,.of (by rw[qf npd];exact qd),hsa,?_⟩
   have fr5:Fr H d (upd (upd (upd H1 d (.dK (src n4 sd t4))) p (.lst [V.int 1,V.int 3,V.int 5,V.int 7,V.int 9,V.int 11])) d (.dK (src n5 sd t5))):=(fr1.at_d.new hp).at_d
   generalize hH5:upd (upd (upd H1 d (.dK (src n4 sd t4))) p (.lst [V.int 1,V.int 3,V.int 5,V.int 7,V.int 9,V.int 11])) d (.dK (src n5 sd t5))=H5 at fr5
   have hd5:H5 d=some (.dK (src n5 sd t5)):=by rw[<-hH5];exact qd
   refine⟨by show 0<=sizeLine;decide,λl hl=>⟨_,rfl,m,rfl,by omega,by omega,?_⟩⟩
   have hHl:H l=none:=fr5.fresh hd5 hl
   have nld:l≠d:=λe=>by rw[e,hd5]at hl;cases hl
   refine Jj (lo:=0) (n:=m) (λi σ' H'=>∃(v1 v2:Option V) (n' t':Int) (zs:List Str),σ'=[some (.ref d),some (.int m),some (.str Vx),some (.str wd),some (.str ah),some (.int f),some (.int st),some (.ref l),v1,v2]/\
     H' d=some (.dK (src n' sd t'))/\H' l=some (.lst (zs.map V.str))/\zs.length=i/\QA (ws.take j) f st zs/\Fr H d H')
     ⟨none,none,n5,t5,[],rfl,qk hd5 hl,qd,rfl,λj z hz=>(nomatch hz),fr5.new hl⟩ ?_ ?_
   . rintro i σ' H' hi ⟨v1,v2,n',t',zs,rfl,hd',hl',hz,hN,fr⟩
     rw[Int.zero_add]
     refine⟨_,rfl,_,rfl,_,rfl,ah,rfl,(by rw[hAl];exact Nat.le_of_lt (qo (by omega))),_,_,rfl,rfl,d,8 - (ah.length:Int),n',sd,t',rfl,hd',by omega,by omega,λr n6 t6 r0 r1=>?_⟩
     have er:r=((r.toNat:Nat):Int):=by omega
     refine⟨_,rfl,wd,r,rfl,rfl,rfl,by omega,?_⟩
     generalize hb:Txt.slice wd none (some r)=bh
     have hB:bh.cps.toList=ws.take r.toNat:=by rw[<-hb,er,Z0,hW];rfl
     have hBl:bh.length<=r.toNat:=by
       show bh.cps.size<=r.toNat
       rw[<-Array.length_toList,hB,List.length_take]
       omega
     refine⟨_,rfl,.inl ⟨rfl,_,.of (by rw[qf nld];exact hl')⟩,_,rfl,_,rfl,_,rfl,_,rfl,_,rfl,_,_,rfl,rfl,.inl ⟨by omega,by omega⟩,_,_,rfl,rfl,_,_,rfl,rfl,(by show (0:Int) < 26;decide),?_⟩
     refine⟨Vx,_,_,rfl,rfl,Vw,ky (Int.emod_nonneg _ (by decide)) (Int.emod_lt_of_pos _ (by decide)),?_⟩
     have e26:97+((f+st*(i:Int)) % 26).toNat=Ve f st i:=rfl
     rw[e26]
     have l1:(ah++(⟨#[Ve f st i]⟩:Str)).length=j+1:=by
       show (ah++(⟨#[Ve f st i]⟩:Str)).cps.size=_
       rw[Str.cps_append,Array.size_append]
       show ah.length+1=_
       rw[hAl]
     refine⟨_,_,rfl,rfl,Nat.le_of_lt (qo (by show ah.length+1<=1000;omega)),_,rfl,_,_,rfl,rfl,Nat.le_of_lt (qo (by rw[l1];omega)),?_⟩
     refine⟨l,_,_,rfl,rfl,(by rw[qf nld];exact hl'),(by rw[List.length_map,hz];exact qo (by omega)),?_⟩
     refine⟨_,_,n6,t6,zs++[ah++(⟨#[Ve f st i]⟩:Str)++bh],rfl,?_,?_,?_,?_,?_⟩
     . rw[qf (Ne.symm nld)];exact qd
     . rw[List.map_append];exact qd
     . rw[List.length_append,hz];rfl
     . refine hN.snoc (B:=ws.take r.toNat) ?_ (XO ha1 _) ?_
       . rw[Str.cps_append,Str.cps_append,Array.toList_append,Array.toList_append,hA,hB,hz]
       . rw[List.length_take,List.length_take]
         omega
     . exact fr.at_d.own hHl
   . rintro σ' H' ⟨v1,v2,n',t',zs,rfl,hd',hl',hz,hN,fr⟩
     exact⟨_,rfl,q l zs n' t' H' hHl hl' hz (hN.names (XO ha1 _)) (hN.nodup hst (by omega)) hd' fr⟩
end
end Rh
set_option Elab.async false
set_option linter.all false
set_option maxRecDepth 100000
set_option maxHeartbeats 4000000
namespace Rh
open PySem L2 PyProof.Rows
def WJ (t:TT) (σ:L2.St) (H:Hp):Prop:=∀Q:Bool->Hp->Prop,(∀b,Q b H)->t σ H Q
theorem WJ.and {t u:TT} {σ:L2.St} {H:Hp} (h:WJ t σ H) (k:WJ u σ H):WJ (uy t u) σ H:=λQ q=>h _ λb=>by
 cases b
 . exact jR (q false)
 . exact YS (k _ q)
theorem WJ.or {t u:TT} {σ:L2.St} {H:Hp} (h:WJ t σ H) (k:WJ u σ H):WJ (tOr t u) σ H:=λQ q=>h _ λb=>by
 cases b
 . exact jR (k _ q)
 . exact YS (q true)
theorem kc {tc:TT} {tp:TS} {D:QF} {σ:L2.St} {H0:Hp} (G:Hp->Prop) (h:G H0) (ht:WJ tc σ H0) (hp:∀D:QF,(∀H',G H'->D.nx σ H')->tp D σ H0) (k:∀H',G H'->D.nx σ H'):UC tc tp Xi D σ H0:=
 ht _ λb=>by
   cases b
   . exact jR (k _ h)
   . exact YS (hp D k)
theorem ZQ {tc:TT} {tp u:TS} {D:QF} {σ:L2.St} {H0:Hp} (G:Hp->Prop) (h:G H0) (ht:WJ tc σ H0) (hp:∀D:QF,(∀H',G H'->D.nx σ H')->tp D σ H0) (k:∀H',G H'->u D σ H'):xF (UC tc tp Xi) u D σ H0:=kc G h ht hp k
theorem zD {i:Nat} {v:V} {σ:L2.St} {H:Hp} {Q:L2.St->Hp->Prop} (h:Q (σ.set i (some v)) H):js i v σ H Q:=h
abbrev up (k:Nat×Nat):Int×Int:=((k.1:Int),(k.2:Int))
def xr (a b:Nat×Nat):Prop:=a.1 < b.1\/(a.1=b.1/\a.2 < b.2)
abbrev keysOf (ks:List (Nat×Nat)):List (List qN):=ks.map λk=>Zs (up k)
theorem VY {a b:Nat×Nat} (h:Zs (up a)=Zs (up b)):a=b:=by
 unfold Zs at h
 simp only[List.cons.injEq,Sum.inl.injEq,and_true]at h
 exact Prod.ext (by have:=h.1;omega) (by have:=h.2;omega)
structure Q3 (m i j:Nat) (ks:List (Nat×Nat)):Prop where
 ord:ks.Pairwise xr
 lt:∀x∈ks,x.2 < m/\(x.1 < i\/(x.1=i/\x.2 < j))
 len:ks.length<=i*m+j
theorem Q3.more {m i j:Nat} {ks:List (Nat×Nat)} (h:Q3 m i j ks):Q3 m i (j+1) ks:=⟨h.ord,λx hx=>by have:=h.lt x hx;omega,by have:=h.len;omega⟩
theorem Q3.snoc {m i j:Nat} {ks:List (Nat×Nat)} (h:Q3 m i j ks) (hj:j < m):Q3 m i (j+1) (ks++[(i,j)]):=by
 refine⟨List.pairwise_append.mpr ⟨h.ord,List.pairwise_singleton _ _,λa ha b hb=>?_⟩,λx hx=>?_,?_⟩
 . rw[List.mem_singleton.mp hb]
   have:=h.lt a ha
   unfold xr
   omega
 . rcases List.mem_append.mp hx with hx | hx
   . have:=h.lt x hx
     omega
   . rw[List.mem_singleton.mp hx]
     exact⟨hj,.inr ⟨rfl,Nat.lt_succ_self _⟩⟩
 . rw[List.length_append]
   have:=h.len
   show ks.length+1<=_
   omega
theorem Q3.row {m i:Nat} {ks:List (Nat×Nat)} (h:Q3 m i m ks):Q3 m (i+1) 0 ks:=⟨h.ord,λx hx=>by have:=h.lt x hx;omega,by have:=h.len;rw[Nat.succ_mul];omega⟩
def ui (m i j:Nat) (kvs:List (List qN×V)):Prop:=∃ks,Q3 m i j ks/\(kvs.map (·.1)=keysOf ks\/kvs.map (·.1)=keysOf (ks++[(i,j)]))
theorem Vv (kvs:List (List qN×V)) (k:List qN):((kvs.any λkv=>decide (kv.1=k))=true)↔k∈kvs.map (·.1):=by
 rw[List.any_eq_true,List.mem_map]
 simp
theorem yJ {kvs:List (List qN×V)} {k:List qN} (v:V) (h:k∈kvs.map (·.1)):(jL kvs k v).map (·.1)=kvs.map (·.1):=by
 unfold jL
 rw[if_pos ((Vv kvs k).mpr h),List.map_map]
 refine List.map_congr_left λx _=>?_
 show (if x.1=k then (x.1,v) else x).1=x.1
 split<;>rfl
theorem vL {kvs:List (List qN×V)} {k:List qN} (v:V) (h:¬k∈kvs.map (·.1)):(jL kvs k v).map (·.1)=kvs.map (·.1)++[k]:=by
 unfold jL
 rw[if_neg (λz=>h ((Vv kvs k).mp z)),List.map_append]
 rfl
theorem ui.put {m i j:Nat} {kvs:List (List qN×V)} (h:ui m i j kvs) (v:V):ui m i j (jL kvs (Zs (up (i,j))) v):=by
 obtain⟨ks,ha,h⟩:=h
 refine⟨ks,ha,.inr ?_⟩
 rcases h with h | h
 . rw[vL,h,keysOf,keysOf,List.map_append]
   . rfl
   . rw[h]
     intro z
     obtain⟨x,hx,e⟩:=List.mem_map.mp z
     have e':=VY e
     have:=ha.lt x hx
     rw[e']at this
     omega
 . rw[yJ,h]
   rw[h]
   exact List.mem_map.mpr ⟨(i,j),by simp,rfl⟩
theorem ui.len {m i j:Nat} {kvs:List (List qN×V)} (h:ui m i j kvs):kvs.length<=i*m+j+1:=by
 obtain⟨ks,ha,h⟩:=h
 have hl:=ha.len
 rcases h with h | h
 . have:=congrArg List.length h
   simp only[List.length_map]at this
   omega
 . have:=congrArg List.length h
   simp only[List.length_map,List.length_append,List.length_singleton]at this
   omega
theorem xg {i m:Nat} (hi:i<=m) (hm:m<=14):i*m<=196:=Nat.le_trans (Nat.mul_le_mul (Nat.le_trans hi hm) hm) (by decide)
theorem Kv (xs:List V):cutV xs none (some 40)=xs.take 40:=by
 unfold cutV
 have e1:HT.sIx xs.length 0 none=0:=rfl
 have e2:HT.sIx xs.length xs.length (some 40)=min 40 xs.length:=by
   simp [HT.sIx]
 rw[e1,e2,List.drop_zero,Nat.sub_zero]
 by_cases h:40<=xs.length
 . rw[Nat.min_eq_left h]
 . rw[Nat.min_eq_right (by omega),List.take_of_length_le (Nat.le_refl _),List.take_of_length_le (by omega)]
def Jl (H:Hp) (ps:List Addr) (ks:List (Nat×Nat)):Prop:=ps.length=ks.length/\∀(i:Nat) (p:Addr) (k:Nat×Nat),ps[i]?=some p->ks[i]?=some k->H p=some (.tup [.int (k.1:Nat),.int (k.2:Nat)])
def WW:Sp:=λvs H Q _=>∃(d:Addr) (m:Nat) (n s t sh lo:Int),vs=[.ref d,.int m,.int sh,.int lo]/\H d=some (.dK (src n s t))/\m<=14/\
 ∀(l:Addr) (ps:List Addr) (ks:List (Nat×Nat)) (n' t':Int) (H':Hp),H l=none->H' l=some (.lst (ps.map V.ref))->Jl H' ps ks->ks.Pairwise xr->(∀x∈ks,x.1 < m/\x.2 < m)->ks.length<=40->H' d=some (.dK (src n' s t'))->Fr H d H'->Q (.ref l) H'
section
variable {P:Program} {w:World} {K:PySem.W.Frag} {mg:Str->Option Value} {base:Heap}
abbrev wt:List Str:=["_law_source_here","_law_many_here","_law_shape","_law_low","_law_pairs","_law_k","_law_j","_law_way"]
abbrev zh:List Str:=["_law_source_here","_law_many_here","_law_shape","_law_low"]
theorem JR:qB wt zh (qm Z6):=⟨rfl,rfl,rfl,by decide+kernel,rfl,by decide+kernel,by decide+kernel⟩
theorem vw {f fT:Addr} {fd fdT:FuncData} (F:Qe K "_law_leads" "_law_leads" Z6 f fd) (B:Zp mg) (hso:mg "sorted"=none) (hT:j0 K mg "_law_take" Z4 ["_law_source_here","_law_many_here"] fT fdT):qu P w K mg base jh 2 f fd zh WW:=by
 have GT:qu P w K mg base jh 1 fT fdT ["_law_source_here","_law_many_here"] ZY:=ZH hT.fn
 refine F.okJ JR (λvs H Q E h=>?_) (λcdv A outer s H vs Q E hr h=>?_)
 . obtain⟨d,m,n,sd,t,sh,lo,rfl,_⟩:=h
   rfl
 . obtain⟨d,m,n,sd,t,sh,lo,rfl,hd,hm,q⟩:=h
   have hu:=Q1 hr
   refine⟨_,qg (qA (i:=4) JR.nd rfl (Or.inl rfl) zy)
     (qg (jx PassesOwn.never rfl (Qo (by rfl) B.rng (qb (jv 1) qe)) (qp (i:=5) JR.nd rfl (Or.inl rfl))
       (qj (jx PassesOwn.never rfl (Qo (by rfl) B.rng (qb (jv 1) qe)) (qp (i:=6) JR.nd rfl (Or.inl rfl))
         (qg (qA (i:=7) JR.nd rfl (Or.inl rfl) (ja hT GT hr (by rfl) (qb (jv 0) (qb qi qe))))
         (qg (qU (Qt (qt Qs (jv 2) qi (qx _)) (Qc (Qi (Qt (qt Qr (jv 6) (jv 5) (qx _)) (Qc (qt Qr (jv 7) qi (qx _)))).pt (j5 (Qt (qt vn (jv 6) (jv 5) (qx _)) (Qc (qt Qr (jv 7) qi (qx _)))).pt)).pt)).pt
           (qj (jV hu (jv 4) (jd (qb (jv 5) (qb (jv 6) qe))) jI rfl)) qz)
         (qg (qU (Qt (qt Qs (jv 2) qi (qx _)) (Qc (qt Qr (jv 7) qi (qx _)))).pt
           (qj (jV hu (jv 4) (jd (qb (jv 5) (qb (jv 6) qe))) jI rfl)) qz)
         (qg (qU (Qt (qt Qs (jv 2) qi (qx _)) (Qc (Qi (Qt (qt Qs (jv 6) (qV QO (qV QP (jv 5) qi) (jv 1)) (qx _)) (Qc (qt Qr (jv 7) qi (qx _)))).pt (j5 (qt Qr (jv 7) qi (qx _)))).pt)).pt
           (qj (jV hu (jv 4) (jd (qb (jv 5) (qb (jv 6) qe))) jI rfl)) qz)
         (qg (qU (Qt (qt Qs (jv 2) qi (qx _)) (Qt (qt Qr (jv 6) (jv 5) (qx _)) (Qc (Qi (qt Qr (jv 6) (jv 3) (qx _)) (j5 (qt Qr (jv 7) qi (qx _)))).pt))).pt
           (qj (jV hu (jv 4) (jd (qb (jv 5) (qb (jv 6) qe))) jI rfl)) qz)
         (qj (qU (Qt (qt Qs (jv 2) qi (qx _)) (Qc (Qi (Qt (qt Qr (jv 6) (jv 3) (qx _)) (Qc (qt Qr (jv 6) (jv 5) (qx _)))).pt (j5 (Qt (qt vn (jv 5) (jv 3) (qx _)) (Qc (qt Qr (jv 7) qi (qx _)))).pt)).pt)).pt
           (qj (jV hu (jv 4) (jd (qb (jv 5) (qb (jv 6) qe))) jI rfl)) qz)))))))))
       )
     (qj (qP (J5 WZ (qr (WH rfl) (by rfl) hso boot_sorted (qb (jv 4) qe)) ZL (ZK qi))))),?_⟩
   intro D hD
   have nDd:D≠d:=λe=>by rw[e,hd]at hD;cases hD
   refine⟨_,rfl,m,rfl,by omega,by omega,?_⟩
   refine Jj (lo:=0) (n:=m) (λi σ' H'=>∃(v1 v2 v3:Option V) (n' t':Int) (kvs:List (List qN×V)) (ks:List (Nat×Nat)),σ'=[some (.ref d),some (.int m),some (.int sh),some (.int lo),some (.ref D),v1,v2,v3]/\
     H' d=some (.dK (src n' sd t'))/\H' D=some (.dT kvs)/\kvs.map (·.1)=keysOf ks/\Q3 m i 0 ks/\Fr H d H')
     ⟨none,none,none,n,t,[],[],rfl,qk hd hD,qd,rfl,⟨.nil,λx hx=>(nomatch hx),Nat.zero_le _⟩,Fr.refl.new hD⟩ ?_ ?_
   . rintro i σ' H' hi ⟨v1,v2,v3,n',t',kvs,ks,rfl,hd',hD',ek,ha,fr⟩
     rw[Int.zero_add]
     refine⟨_,rfl,m,rfl,by omega,by omega,?_⟩
     refine Jj (lo:=0) (n:=m) (λj σ' H'=>∃(v2 v3:Option V) (n' t':Int) (kvs:List (List qN×V)) (ks:List (Nat×Nat)),σ'=[some (.ref d),some (.int m),some (.int sh),some (.int lo),some (.ref D),some (.int i),v2,v3]/\
       H' d=some (.dK (src n' sd t'))/\H' D=some (.dT kvs)/\kvs.map (·.1)=keysOf ks/\Q3 m i j ks/\Fr H d H')
       ⟨_,_,n',t',kvs,ks,rfl,hd',hD',ek,ha,fr⟩ ?_ ?_
     . rintro j σ' H2 hj ⟨v2,v3,n2,t2,kvs,ks,rfl,hd2,hD2,ek,ha,fr⟩
       rw[Int.zero_add]
       refine⟨_,rfl,d,12,n2,sd,t2,rfl,hd2,by decide,by decide,λr n3 t3 r0 r1=>?_⟩
       have hsq:=xg (Nat.le_of_lt hi) hm
       let G:Hp->Prop:=λH'=>∃(kvs:List (List qN×V)),H' d=some (.dK (src n3 sd t3))/\H' D=some (.dT kvs)/\ui m i j kvs/\Fr H d H'
       have g0:G (upd H2 d (.dK (src n3 sd t3))):=⟨kvs,qd,(by rw[qf nDd];exact hD2),⟨ks,ha,.inl ek⟩,fr.at_d⟩
       have put:∀H',G H'->∀E:QF,(∀H',G H'->E.nx [some (.ref d),some (.int m),some (.int sh),some (.int lo),some (.ref D),some (.int i),some (.int j),some (.int r)] H')->
           U0 (qL 4) (Ju (qI (qL 5) (qI (qL 6) jH))) (tC (.bl true)) E [some (.ref d),some (.int m),some (.int sh),some (.int lo),some (.ref D),some (.int i),some (.int j),some (.int r)] H':=by
         rintro H' ⟨kvs,h1,h2,h3,h4⟩ E k
         refine⟨_,rfl,_,rfl,_,rfl,by show 2<=sizeLine;decide,λp hp=>?_⟩
         have npd:p≠d:=λe=>by rw[e,h1]at hp;cases hp
         have npD:p≠D:=λe=>by rw[e,h2]at hp;cases hp
         refine⟨D,_,rfl,Jp.t (k:=Zs (up (i,j))) (kvs:=kvs) (by rw[qf (Ne.symm npD)];exact h2) qd (qo (by have:=h3.len;omega)),?_⟩
         refine k _ ⟨_,?_,qd,h3.put _,?_⟩
         . rw[qf (Ne.symm nDd),qf (Ne.symm npd)]
           exact h1
         . exact(h4.new hp).own hD
       refine zD ?_
       dsimp only[List.set]
       refine ZQ G g0 ?_ (put _ g0) λH3 g3=>?_
       . exact WJ.and (λQ q=>⟨_,rfl,rfl,_,rfl,q _⟩) (.or (.and (λQ q=>⟨_,rfl,_,rfl,_,_,rfl,rfl,_,rfl,q _⟩) (λQ q=>⟨_,rfl,_,_,rfl,rfl,_,rfl,q _⟩)) (.and (λQ q=>⟨_,rfl,_,rfl,_,_,rfl,rfl,_,rfl,q _⟩) (λQ q=>⟨_,rfl,_,_,rfl,rfl,_,rfl,q _⟩)))
       refine ZQ G g3 ?_ (put _ g3) λH4 g4=>?_
       . exact WJ.and (λQ q=>⟨_,rfl,rfl,_,rfl,q _⟩) (λQ q=>⟨_,rfl,_,_,rfl,rfl,_,rfl,q _⟩)
       refine ZQ G g4 ?_ (put _ g4) λH5 g5=>?_
       . exact WJ.and (λQ q=>⟨_,rfl,rfl,_,rfl,q _⟩) (.or (.and (λQ q=>⟨_,rfl,_,rfl,_,_,rfl,rfl,_,rfl,_,_,rfl,rfl,(by show (0:Int) < m;omega),rfl,_,rfl,q _⟩) (λQ q=>⟨_,rfl,_,_,rfl,rfl,_,rfl,q _⟩)) (λQ q=>⟨_,rfl,_,_,rfl,rfl,_,rfl,q _⟩))
       refine ZQ G g5 ?_ (put _ g5) λH6 g6=>?_
       . exact WJ.and (λQ q=>⟨_,rfl,rfl,_,rfl,q _⟩) (.and (λQ q=>⟨_,rfl,_,rfl,_,_,rfl,rfl,_,rfl,q _⟩) (.or (λQ q=>⟨_,rfl,_,rfl,_,_,rfl,rfl,_,rfl,q _⟩) (λQ q=>⟨_,rfl,_,_,rfl,rfl,_,rfl,q _⟩)))
       refine kc G g6 ?_ (put _ g6) λH7 g7=>?_
       . exact WJ.and (λQ q=>⟨_,rfl,rfl,_,rfl,q _⟩) (.or (.and (λQ q=>⟨_,rfl,_,rfl,_,_,rfl,rfl,_,rfl,q _⟩) (λQ q=>⟨_,rfl,_,rfl,_,_,rfl,rfl,_,rfl,q _⟩)) (.and (λQ q=>⟨_,rfl,_,rfl,_,_,rfl,rfl,_,rfl,q _⟩) (λQ q=>⟨_,rfl,_,_,rfl,rfl,_,rfl,q _⟩)))
       obtain⟨kvs,h1,h2,⟨ks,ha,h3⟩,h4⟩:=g7
       rcases h3 with h3 | h3
       . exact⟨_,_,n3,t3,kvs,ks,rfl,h1,h2,h3,ha.more,h4⟩
       . exact⟨_,_,n3,t3,kvs,_,rfl,h1,h2,h3,ha.snoc hj,h4⟩
     . rintro σ' H2 ⟨v2,v3,n2,t2,kvs,ks,rfl,hd2,hD2,ek,ha,fr⟩
       exact⟨_,_,_,n2,t2,kvs,ks,rfl,hd2,hD2,ek,ha.row,fr⟩
   . rintro σ' H1 ⟨v1,v2,v3,n1,t1,kvs,ks,rfl,hd1,hD1,ek,ha,fr⟩
     have hl:kvs.length=ks.length:=by simpa using congrArg List.length ek
     have hsq:=xg (Nat.le_refl m) hm
     have hal:=ha.len
     refine⟨_,rfl,D,kvs,ks.map up,rfl,hD1,?_,?_,by omega,λl ps hfl lps tup=>?_⟩
     . rw[ek,List.map_map]
       rfl
     . intro i k k' e1 e2
       rw[List.getElem?_map]at e1 e2
       cases e3:ks[i]? with
       | none=>rw[e3]at e1;cases e1
       | some a=>
         cases e4:ks[i+1]? with
         | none=>rw[e4]at e2;cases e2
         | some b=>
           rw[e3]at e1
           rw[e4]at e2
           obtain rfl:=(Option.some.inj e1).symm
           obtain rfl:=(Option.some.inj e2).symm
           have h5:=List.pairwise_iff_getElem.mp ha.ord i (i+1) (List.getElem?_eq_some_iff.mp e3).1 (List.getElem?_eq_some_iff.mp e4).1 (Nat.lt_succ_self _)
           rw[(List.getElem?_eq_some_iff.mp e3).2,(List.getElem?_eq_some_iff.mp e4).2]at h5
           unfold xr at h5
           show zq _ _
           unfold zq
           show (a.1:Int) < b.1\/((a.1:Int)=b.1/\(a.2:Int) < b.2)
           omega
     . refine⟨40,rfl,l,_,rfl,.of qd,λl2 hl2=>?_⟩
       rw[Kv,<-List.map_take]
       have n2d:l2≠d:=λe=>by
         rw[e,qk hd1 hfl]at hl2
         cases hl2
       have hl1:H1 l2=none:=by
         by_cases e:l2=l
         . rw[e];exact hfl
         . rw[qf e]at hl2;exact hl2
       have fr2:=(fr.new (o:=.lst (ps.map V.ref)) hfl).new (o:=.lst ((ps.take 40).map V.ref)) hl2
       refine q l2 (ps.take 40) (ks.take 40) n1 t1 _ (fr.fresh hd1 hl1) qd ⟨?_,λi p k e1 e2=>?_⟩ ?_ ?_ ?_ ?_ fr2
       . rw[List.length_take,List.length_take,lps,List.length_map]
       . have i40:i < 40:=by
           have:=(List.getElem?_eq_some_iff.mp e1).1
           rw[List.length_take]at this
           omega
         rw[List.getElem?_take_of_lt i40]at e1 e2
         have h1:=tup i p (up k) e1 (by rw[List.getElem?_map,e2];rfl)
         exact qk (qk h1 hfl) hl2
       . exact ha.ord.sublist (List.take_sublist _ _)
       . intro x hx
         have:=ha.lt x (List.mem_of_mem_take hx)
         omega
       . rw[List.length_take]
         omega
       . exact qk (qk hd1 hfl) hl2
end
end Rh
set_option Elab.async false
set_option linter.all false
set_option maxRecDepth 100000
set_option maxHeartbeats 4000000
namespace Rh
open PySem L2 PyProof.Rows
structure qv (rs:List (Str×List Str)):Prop where
 nm:∀r∈rs,qG r.1=true
 nd:(rs.map (·.1)).Nodup
 to:∀r∈rs,∀z∈r.2,z∈rs.map (·.1)
 rd:∀r∈rs,r.2.Nodup
 few:(rs.map λr=>r.2.length).sum<=40
def Y9 (zs:List Str) (j:Nat):Str:=zs.getD j ⟨#[]⟩
theorem kL {zs:List Str} {j:Nat} (h:j < zs.length):Y9 zs j∈zs:=by
 unfold Y9
 rw[List.getD_eq_getElem?_getD,List.getElem?_eq_getElem h]
 exact List.getElem_mem h
theorem Yw {zs:List Str} {j:Nat} (h:j < zs.length):zs[j]?=some (Y9 zs j):=by
 unfold Y9
 rw[List.getD_eq_getElem?_getD,List.getElem?_eq_getElem h]
 rfl
theorem WO {zs:List Str} (hn:zs.Nodup) {i j:Nat} (hi:i < zs.length) (hj:j < zs.length) (h:Y9 zs i=Y9 zs j):i=j:=by
 have h1:=Yw hi
 have h2:=Yw hj
 rw[h,<-h2,List.getElem?_eq_getElem hi,List.getElem?_eq_getElem hj]at h1
 have e:zs[i]=zs[j]:=Option.some.inj h1
 rcases Nat.lt_trichotomy i j with l | l | l
 . exact absurd e (List.pairwise_iff_getElem.mp hn i j hi hj l)
 . exact l
 . exact absurd e.symm (List.pairwise_iff_getElem.mp hn j i hj hi l)
theorem Jf {α β:Type} {f:α->β}:∀{l:List α},l.Nodup->(∀a∈l,∀b∈l,f a=f b->a=b)->(l.map f).Nodup
 | [],_,_=>List.nodup_nil
 | a::l,h,k=>by
   rw[List.map_cons,List.nodup_cons]
   rw[List.nodup_cons]at h
   refine⟨λz=>?_,Jf h.2 λx hx y hy=>k x (List.mem_cons_of_mem _ hx) y (List.mem_cons_of_mem _ hy)⟩
   obtain⟨b,hb,e⟩:=List.mem_map.mp z
   have:=k b (List.mem_cons_of_mem _ hb) a (List.mem_cons_self) e
   subst this
   exact h.1 hb
def zZ (ks:List (Nat×Nat)) (k:Nat):List Nat:=(ks.filter λx=>decide (x.1=k)).map (·.2)
theorem VE {ks:List (Nat×Nat)} (h:ks.Pairwise xr) (k:Nat):(zZ ks k).Nodup:=by
 have h1:(ks.filter λx=>decide (x.1=k)).Pairwise xr:=h.sublist (List.filter_sublist)
 refine List.pairwise_map.mpr (List.Pairwise.imp_of_mem (λ{a b} ha hb r=>?_) h1)
 have e1:a.1=k:=of_decide_eq_true (List.mem_filter.mp ha).2
 have e2:b.1=k:=of_decide_eq_true (List.mem_filter.mp hb).2
 unfold xr at r
 omega
theorem XZ {ks:List (Nat×Nat)} {m:Nat} (h:∀x∈ks,x.1 < m/\x.2 < m) (k:Nat):∀j∈zZ ks k,j < m:=λj hj=>by
 obtain⟨x,hx,e⟩:=List.mem_map.mp hj
 have:=(h x (List.mem_filter.mp hx).1).2
 omega
theorem kX (os:List Nat) (f g:Nat->Nat):(os.map λk=>f k+g k).sum=(os.map f).sum+(os.map g).sum:=by
 induction os with
 | nil=>rfl
 | cons a os ih=>
   simp only[List.map_cons,List.sum_cons,ih]
   omega
theorem kW {os:List Nat} (h:os.Nodup) (a:Nat):(os.map λk=>if a=k then 1 else 0).sum<=1:=by
 induction os with
 | nil=>exact Nat.zero_le _
 | cons b os ih=>
   rw[List.nodup_cons]at h
   rw[List.map_cons,List.sum_cons]
   by_cases e:a=b
   . subst e
     have z:(os.map λk=>if a=k then 1 else 0)=os.map λ_=>0:=List.map_congr_left λk hk=>by
       rw[if_neg]
       intro e
       subst e
       exact h.1 hk
     rw[z,if_pos rfl]
     have:(os.map λ_=>0).sum=0:=by
       clear z ih h
       induction os with
       | nil=>rfl
       | cons c os ih=>rw[List.map_cons,List.sum_cons,ih]
     omega
   . rw[if_neg e]
     have:=ih h.2
     omega
theorem WR {os:List Nat} (h:os.Nodup):∀ks:List (Nat×Nat),(os.map λk=>(zZ ks k).length).sum<=ks.length
 | []=>by
   have:(os.map λk=>(zZ [] k).length).sum=0:=by
     clear h
     induction os with
     | nil=>rfl
     | cons c os ih=>rw[List.map_cons,List.sum_cons,ih];rfl
   omega
 | x::ks=>by
   have e:(os.map λk=>(zZ (x::ks) k).length)=os.map λk=>(if x.1=k then 1 else 0)+(zZ ks k).length:=List.map_congr_left λk _=>by
     unfold zZ
     rw[List.filter_cons]
     by_cases z:x.1=k
     . rw[if_pos (decide_eq_true z),if_pos z]
       simp only[List.map_cons,List.length_cons]
       omega
     . rw[if_neg (by simpa using z),if_neg z,Nat.zero_add]
   rw[e,kX,List.length_cons]
   have:=kW h x.1
   have:=WR h ks
   omega
def QH (zs:List Str) (ks:List (Nat×Nat)) (ab:Bool) (k:Nat):Str×List Str:=
 (Y9 zs k,if ab=true then ((zZ ks k).map (Y9 zs)).reverse else (zZ ks k).map (Y9 zs))
theorem VP {zs:List Str} {ks:List (Nat×Nat)} {ab:Bool} {k:Nat} {z:Str}:z∈(QH zs ks ab k).2↔z∈(zZ ks k).map (Y9 zs):=by
 unfold QH
 cases ab
 . rw[if_neg Bool.false_ne_true]
 . rw[if_pos rfl,List.mem_reverse]
theorem VQ {zs:List Str} {ks:List (Nat×Nat)} {ab:Bool} {k:Nat}:(QH zs ks ab k).2.length=(zZ ks k).length:=by
 unfold QH
 cases ab
 . rw[if_neg Bool.false_ne_true,List.length_map]
 . rw[if_pos rfl,List.length_reverse,List.length_map]
structure XT (m:Nat) (os:List Nat):Prop where
 len:os.length=m
 nd:os.Nodup
 lt:∀k∈os,k < m
 all:∀j,j < m->j∈os
theorem Uh {zs:List Str} {ks:List (Nat×Nat)} {os:List Nat} {m:Nat} (ab:Bool) (hz:zs.length=m) (hN:∀z∈zs,qG z=true) (hd:zs.Nodup) (hk:ks.Pairwise xr) (hl:∀x∈ks,x.1 < m/\x.2 < m) (h40:ks.length<=40) (ho:XT m os):
   qv (os.map (QH zs ks ab)):=by
 have e1:(os.map (QH zs ks ab)).map (·.1)=os.map (Y9 zs):=by rw[List.map_map];rfl
 have inj:∀a∈os,∀b∈os,Y9 zs a=Y9 zs b->a=b:=λa ha b hb e=>WO hd (by rw[hz];exact ho.lt a ha) (by rw[hz];exact ho.lt b hb) e
 refine⟨λr hr=>?_,?_,λr hr z hz'=>?_,λr hr=>?_,?_⟩
 . obtain⟨k,hk',rfl⟩:=List.mem_map.mp hr
   exact hN _ (kL (by rw[hz];exact ho.lt k hk'))
 . rw[e1]
   exact Jf ho.nd inj
 . obtain⟨k,hk',rfl⟩:=List.mem_map.mp hr
   rw[VP]at hz'
   obtain⟨j,hj,rfl⟩:=List.mem_map.mp hz'
   rw[e1]
   exact List.mem_map.mpr ⟨j,ho.all j (XZ hl k j hj),rfl⟩
 . obtain⟨k,hk',rfl⟩:=List.mem_map.mp hr
   have h1:((zZ ks k).map (Y9 zs)).Nodup:=Jf (VE hk k) λa ha b hb e=>WO hd (by rw[hz];exact XZ hl k a ha) (by rw[hz];exact XZ hl k b hb) e
   show (if ab=true then _ else _:List Str).Nodup
   cases ab
   . rw[if_neg Bool.false_ne_true]
     exact h1
   . rw[if_pos rfl]
     exact List.pairwise_reverse.mpr (h1.imp λh=>Ne.symm h)
 . have e2:((os.map (QH zs ks ab)).map λr=>r.2.length)=os.map λk=>(zZ ks k).length:=by
     rw[List.map_map]
     exact List.map_congr_left λk _=>VQ
   rw[e2]
   exact Nat.le_trans (WR ho.nd ks) h40
theorem vk (m:Nat):XT m (List.range m):=⟨List.length_range,List.nodup_range,λk h=>List.mem_range.mp h,λj h=>List.mem_range.mpr h⟩
theorem Wn (m:Nat):XT m (J9 m):=⟨by rw[J9,List.length_reverse,List.length_range],List.pairwise_reverse.mpr (List.nodup_range.imp λh=>Ne.symm h),λk h=>List.mem_range.mp (List.mem_reverse.mp h),λj h=>List.mem_reverse.mpr (List.mem_range.mpr h)⟩
def Zw (m:Nat):List Nat:=(List.range m).map λk=>k*5 % m
theorem Uk:∀m,m < 15->(Zw m).Nodup->∀j,j < m->j∈Zw m:=by decide+kernel
theorem Xq {m:Nat} (hm:m<=14) (h0:0 < m) (h:(Zw m).Nodup):XT m (Zw m):=
 ⟨by rw[Zw,List.length_map,List.length_range],h,λk hk=>by obtain⟨x,_,rfl⟩:=List.mem_map.mp hk;exact Nat.mod_lt _ h0,Uk m (by omega) h⟩
theorem Yf (val:Nat->Int):∀i,(firstMet val i).length=i->((List.range i).map val).Nodup
 | 0,_=>List.nodup_nil
 | i+1,h=>by
   have h1:=firstMet_any val i (val i)
   have h2:=firstMet_length_le val i
   rw[firstMet_succ]at h
   unfold step_dedup at h
   split at h
   . omega
   . rename_i z
     rw[List.length_append,List.length_singleton]at h
     rw[List.range_succ,List.map_append,List.nodup_append]
     refine⟨Yf val i (by omega),by simp,λa ha b hb e=>?_⟩
     have eb:b=val i:=by simpa using hb
     subst eb
     subst e
     refine z ?_
     rw[h1,List.any_eq_true]
     exact⟨_,ha,by simp⟩
theorem wu {os:List Nat} (h:¬(firstMet (λi=>(os.map λk=>((k:Nat):Int)).getD i 0) (os.map λk=>((k:Nat):Int)).length).length < os.length):os.Nodup:=by
 have h1:=firstMet_length_le (λi=>(os.map λk=>((k:Nat):Int)).getD i 0) (os.map λk=>((k:Nat):Int)).length
 have h2:=Yf (λi=>(os.map λk=>((k:Nat):Int)).getD i 0) (os.map λk=>((k:Nat):Int)).length (by rw[List.length_map]at h1 h ⊢;omega)
 have e:(List.range (os.map λk=>((k:Nat):Int)).length).map (λi=>(os.map λk=>((k:Nat):Int)).getD i 0)=os.map λk=>((k:Nat):Int):=by
   refine List.ext_getElem? λi=>?_
   rw[List.getElem?_map]
   by_cases hi:i < (os.map λk=>((k:Nat):Int)).length
   . rw[List.getElem?_range hi,List.getElem?_eq_getElem hi]
     simp only[Option.map_some,List.getD_eq_getElem?_getD,List.getElem?_eq_getElem hi,Option.getD_some]
   . rw[List.getElem?_eq_none (by rw[List.length_range];omega),List.getElem?_eq_none (by omega)]
     rfl
 rw[e]at h2
 refine(List.pairwise_map.mp h2).imp λh e=>h (by rw[e])
end Rh
set_option Elab.async false
set_option linter.all false
set_option maxRecDepth 100000
set_option maxHeartbeats 4000000
namespace Rh
open PySem L2 PyProof.Rows
def qH (H:Hp) (ps:List Addr) (rs:List (Str×List Str)):Prop:=ps.length=rs.length/\∀(i:Nat) (p:Addr) (r:Str×List Str),ps[i]?=some p->rs[i]?=some r->∃q,H p=some (.tup [.str r.1,.ref q])/\H q=some (.tup (r.2.map V.str))
def UJ:Sp:=λvs H Q _=>∃(d:Addr) (mo:Nat) (n s t:Int),vs=[.ref d,.int mo]/\H d=some (.dK (src n s t))/\0 < mo/\mo<=14/\
 ∀(l:Addr) (ps:List Addr) (rs:List (Str×List Str)) (n' t':Int) (H':Hp),H l=none->H' l=some (.lst (ps.map V.ref))->qH H' ps rs->qv rs->0 < rs.length->rs.length<=mo->H' d=some (.dK (src n' s t'))->Fr H d H'->Q (.ref l) H'
structure Qu (mg:Str->Option Value):Prop where
 srt:mg "sorted"=none
 lst:mg "list"=none
 rev:mg "reversed"=none
 set:mg "set"=none
 tup:mg "tuple"=none
theorem qH.mono {H H':Hp} {ps:List Addr} {rs:List (Str×List Str)} (h:qH H ps rs) (s:Same H H'):qH H' ps rs:=⟨h.1,λi p r e1 e2=>let ⟨q,a,b⟩:=h.2 i p r e1 e2;⟨q,s _ _ a,s _ _ b⟩⟩
theorem Jl.mono {H H':Hp} {ps:List Addr} {ks:List (Nat×Nat)} (h:Jl H ps ks) (s:Same H H'):Jl H' ps ks:=⟨h.1,λi p k e1 e2=>s _ _ (h.2 i p k e1 e2)⟩
theorem Fr.same {H H' H'':Hp} {d:Addr} (h:Fr H d H') (s:Same H' H''):Fr H d H'':=λb u hb hn=>s _ _ (h b u hb hn)
theorem qH.snoc {H:Hp} {ps:List Addr} {rs:List (Str×List Str)} (h:qH H ps rs) {p q:Addr} {r:Str×List Str} (hp:H p=some (.tup [.str r.1,.ref q])) (hq:H q=some (.tup (r.2.map V.str))):qH H (ps++[p]) (rs++[r]):=by
 refine⟨by rw[List.length_append,List.length_append,h.1];rfl,λi p' r' e1 e2=>?_⟩
 by_cases hi:i < ps.length
 . rw[List.getElem?_append_left hi]at e1
   rw[List.getElem?_append_left (by rw[<-h.1];exact hi)]at e2
   exact h.2 i p' r' e1 e2
 . have hi':i=ps.length:=by
     have:=(List.getElem?_eq_some_iff.mp e1).1
     rw[List.length_append,List.length_singleton]at this
     omega
   subst hi'
   rw[List.getElem?_append_right (Nat.le_refl _),Nat.sub_self]at e1
   rw[h.1,List.getElem?_append_right (Nat.le_refl _),Nat.sub_self]at e2
   obtain rfl:=(Option.some.inj e1).symm
   obtain rfl:=(Option.some.inj e2).symm
   exact⟨q,hp,hq⟩
theorem qH.upd_lst {H:Hp} {ps:List Addr} {rs:List (Str×List Str)} {l:Addr} {xs:List V} {o:HO} (h:qH H ps rs) (hl:H l=some (.lst xs)):qH (upd H l o) ps rs:=by
 refine⟨h.1,λi p r e1 e2=>?_⟩
 obtain⟨q,a,b⟩:=h.2 i p r e1 e2
 refine⟨q,?_,?_⟩
 . rw[qf (λe=>by rw[e,hl]at a;cases a)]
   exact a
 . rw[qf (λe=>by rw[e,hl]at b;cases b)]
   exact b
theorem Wy {tc:TT} {tp u:TS} {D:QF} {σ:L2.St} {H0:Hp} (R:Bool->Hp->Prop) (G:L2.St->Hp->Prop) (ht:∀Q:Bool->Hp->Prop,(∀b H1,R b H1->Q b H1)->tc σ H0 Q)
   (hT:∀H1,R true H1->∀D':QF,(∀σ' H',G σ' H'->D'.nx σ' H')->tp D' σ H1) (hF:∀H1,R false H1->G σ H1) (k:∀σ' H',G σ' H'->u D σ' H'):xF (UC tc tp Xi) u D σ H0:=
 ht _ λb H1 r=>by
   cases b
   . exact jR (k _ _ (hF _ r))
   . exact YS (hT _ r _ k)
theorem xb {zs:List Str} {j:Nat} (h:j < zs.length):Uy (zs.map V.str) ((j:Nat):Int)=some (V.str (Y9 zs j)):=qK (by rw[List.getElem?_map,Yw h];rfl)
theorem UA {ks:List (Nat×Nat)} {j:Nat} {x:Nat×Nat} (k:Nat) (h:ks[j]?=some x):zZ (ks.take (j+1)) k=zZ (ks.take j) k++if x.1=k then [x.2] else []:=by
 unfold zZ
 rw[List.take_add_one,h,List.filter_append,List.map_append]
 congr 1
 by_cases e:x.1=k
 . rw[if_pos e]
   simp [e]
 . rw[if_neg e]
   simp [e]
abbrev oL (os:List Nat):List V:=os.map λk=>V.int ((k:Nat):Int)
theorem yA (os:List Nat):oL os=(os.map λk=>((k:Nat):Int)).map V.int:=by rw[List.map_map];rfl
section
variable {P:Program} {w:World} {K:PySem.W.Frag} {mg:Str->Option Value} {base:Heap}
abbrev Kj:List Str:=["_law_source_here","_law_most","_law_many_here","_law_names_here","_law_shape","_law_pairs","_law_about","_law_order","_law_rows_here","_law_k","_law_leads_here"]
theorem Qf:qB Kj ["_law_source_here","_law_most"] (qm W1):=⟨rfl,rfl,rfl,by decide+kernel,rfl,by decide+kernel,by decide+kernel⟩
abbrev Ky:List Str:=["_law_one","_law_j","_law_k","_law_names_here"]
theorem Vt:Ky.Nodup:=by decide+kernel
theorem yt {f fT fN fL:Addr} {fd fdT fdN fdL:FuncData} (F:Qe K "_law_rows" "_law_rows" W1 f fd) (B:Zp mg) (G:Qu mg) (hT:j0 K mg "_law_take" Z4 ["_law_source_here","_law_many_here"] fT fdT)
   (hN:j0 K mg "_law_names" Z5 ["_law_source_here","_law_many_here"] fN fdN) (hL:j0 K mg "_law_leads" Z6 zh fL fdL):qu P w K mg base jh 3 f fd ["_law_source_here","_law_most"] UJ:=by
 have GT:qu P w K mg base jh 1 fT fdT ["_law_source_here","_law_many_here"] ZY:=ZH hT.fn
 have GN:qu P w K mg base jh 2 fN fdN ["_law_source_here","_law_many_here"] WV:=vt hN.fn B hT
 have GL:qu P w K mg base jh 2 fL fdL zh WW:=vw hL.fn B G.srt hT
 refine F.okJ Qf (λvs H Q E h=>?_) (λcdv A outer s H vs Q E hr h=>?_)
 . obtain⟨d,m,n,sd,t,rfl,_⟩:=h
   rfl
 . obtain⟨d,mo,n,sd,t,rfl,hd,hmo,hm14,q⟩:=h
   have r1:qW 1 _:=hr.mono (by decide)
   refine⟨_,qg (qA (i:=2) Qf.nd rfl (Or.inr rfl) (qV QP qi (ja hT GT r1 (by rfl) (qb (jv 0) (qb (jv 1) qe)))))
     (qg (qA (i:=3) Qf.nd rfl (Or.inr rfl) (ja hN GN hr (by rfl) (qb (jv 0) (qb (jv 2) qe))))
     (qg (qA (i:=4) Qf.nd rfl (Or.inl rfl) (ja hT GT r1 (by rfl) (qb (jv 0) (qb qi qe))))
     (qg (qA (i:=5) Qf.nd rfl (Or.inl rfl) (ja hL GL hr (by rfl) (qb (jv 0) (qb (jv 2) (qb (jv 4) (qb (qV QP qi (ja hT GT r1 (by rfl) (qb (jv 0) (qb qi qe)))) qe))))))
     (qg (qA (i:=6) Qf.nd rfl (Or.inl rfl) (QS Qs (ja hT GT r1 (by rfl) (qb (jv 0) (qb qi qe))) qi (qx _)))
     (qg (qA (i:=7) Qf.nd rfl (Or.inl rfl) (Kp rfl (by rfl) G.lst (by rfl) B.rng (jv 2)))
     (qg (qU (jY (jv 6)) (qj (QJ (i:=7) (N':=["_law_k","_law_many_here"]) (ix:=[none,some 2]) Qf.nd rfl (Or.inl rfl) rfl ⟨rfl,rfl,rfl,rfl,rfl⟩ (Qo (by rfl) B.rng (qb (jv 2) qe))
         (λC s2 H2 fp pins=>⟨qp (i:=0) (show (["_law_k","_law_many_here"]:List Str).Nodup by decide+kernel) rfl (Or.inl rfl),jc,qV QO (qV Qq (jv 0) qi) (jv 1)⟩))) qz)
     (qg (qU (qt Qr (qr XM (by rfl) B.len boot_len (qb (jq (Ur rfl) (by rfl) G.set boot_set (qb (jv 7) qe)) qe)) (jv 2) (qx _))
         (qj (qA (i:=7) Qf.nd rfl (Or.inl rfl) (wI rfl (by rfl) G.lst (by rfl) G.rev (by rfl) B.rng (jv 2)))) qz)
     (qg (qA (i:=8) Qf.nd rfl (Or.inl rfl) (jZ qe))
     (qg (jx PassesOwn.never rfl (qJ (jv 7)) (qp (i:=9) Qf.nd rfl (Or.inr rfl))
       (qg (QJ (i:=10) (N':=Ky) (ix:=[none,none,some 9,some 3]) (g:=zS K 2 (j8 (js 0) (j8 (js 1) zT))) (te:=zN (uP K) (qL 3) (qL 1)) Qf.nd rfl (Or.inl rfl) rfl ⟨rfl,rfl,rfl,rfl,rfl⟩ (qJ (jv 5))
           (λC s2 H2 fp pins=>⟨j6 rfl (qE (qp (i:=0) Vt rfl (Or.inl rfl)) (qE (qp (i:=1) Vt rfl (Or.inl rfl)) jE)),
             J3 (qt Qs (jv 0) (jv 2) (qx _)),qS QU (jv 3) (jv 1) (λ_ _=>rfl)⟩))
       (qg (qU (jY (jv 6)) (qj (jf (vV PySem.F.plainAttrs_list PySem.F.slot_list_reverse PySem.F.type_list_reverse Wq (jv 10)))) qz)
       (qj (jf (zA PySem.F.plainAttrs_list PySem.F.slot_list_append PySem.F.type_list_append QI (jv 8) (qb
         (jd (qb (qS QU (jv 3) (jv 9) (λ_ _=>rfl)) (qb (jq QE (by rfl) G.tup boot_tuple (qb (jv 10) qe)) qe))) qe)))))))
     (qj (qP (jv 8)))))))))))),?_⟩
   refine⟨_,rfl,_,rfl,d,mo,n,sd,t,rfl,hd,by omega,by omega,λr n1 t1 r0 r1=>⟨_,_,rfl,rfl,?_⟩⟩
   obtain⟨m,em,m0,m1⟩:∃m:Nat,1+r=(m:Int)/\0 < m/\m<=mo:=⟨(1+r).toNat,by omega,by omega,by omega⟩
   have em':(λi j:Int=>V.int (i+j)) 1 r=V.int (m:Int):=congrArg V.int em
   rw[em']
   refine⟨_,rfl,_,rfl,d,m,n1,sd,t1,rfl,qd,by omega,λlz zs n2 t2 H2 hlz hlz' zl zn znd hd2 fr2=>?_⟩
   have fr2:Fr H d H2:=Fr.refl.at_d.trans fr2
   refine⟨_,rfl,d,5,n2,sd,t2,rfl,hd2,by decide,by decide,λsh n3 t3 _ _=>?_⟩
   refine⟨_,rfl,_,rfl,_,rfl,_,rfl,d,5,n3,sd,t3,rfl,qd,by decide,by decide,λlw n4 t4 _ _=>⟨_,_,rfl,rfl,d,m,n4,sd,t4,sh,1+lw,rfl,qd,by omega,λlp ps ks n5 t5 H5 hlp hlp' pat kord klt k40 hd5 fr5=>?_⟩⟩
   have nzd:lz≠d:=λe=>by rw[e,qd]at hlz;cases hlz
   have hz5:H5 lz=some (.lst (zs.map V.str)):=fr5 _ _ (by rw[qf nzd,qf nzd];exact hlz') nzd
   have fr5:Fr H d H5:=fr2.at_d.at_d.trans fr5
   refine⟨_,rfl,d,2,n5,sd,t5,rfl,hd5,by decide,by decide,λab n6 t6 _ _=>⟨rfl,?_⟩⟩
   generalize decide (V.int ab=V.int 1)=b
   have npd:lp≠d:=λe=>by rw[e,qd]at hlp;cases hlp
   have fr6:Fr H d (upd H5 d (.dK (src n6 sd t6))):=fr5.at_d
   have hd6:upd H5 d (.dK (src n6 sd t6)) d=some (.dK (src n6 sd t6)):=qd
   have hz6:upd H5 d (.dK (src n6 sd t6)) lz=some (.lst (zs.map V.str)):=by rw[qf nzd];exact hz5
   have hp6:upd H5 d (.dK (src n6 sd t6)) lp=some (.lst (ps.map V.ref)):=by rw[qf npd];exact hlp'
   have pat6:Jl (upd H5 d (.dK (src n6 sd t6))) ps ks:=⟨pat.1,λi p k e1 e2=>by
     have h1:=pat.2 i p k e1 e2
     have:p≠d:=λe=>by rw[e,hd5]at h1;cases h1
     rw[qf this]
     exact h1⟩
   generalize upd H5 d (.dK (src n6 sd t6))=H6 at fr6 hd6 hz6 hp6 pat6
   refine⟨_,rfl,m,rfl,by omega,λlo hlo=>?_⟩
   refine zD ?_
   dsimp only[List.set]
   refine Wy (λc H'=>c=b/\H'=upd H6 lo (.lst (xc m))) (λσ' H'=>∃lo os,σ'=[some (.ref d),some (.int mo),some (.int m),some (.ref lz),some (.int sh),some (.ref lp),some (.bl b),some (.ref lo),none,none,none]/\Same H6 H'/\H6 lo=none/\H' lo=some (.lst (oL os))/\(os=List.range m\/os=Zw m))
     (λQ k=>⟨_,rfl,b,rfl,k _ _ ⟨rfl,rfl⟩⟩) ?_ ?_ ?_
   . rintro H1 ⟨rfl,rfl⟩ D' k
     refine⟨_,rfl,m,rfl,by omega,by omega,λD hD=>?_⟩
     refine Yo (λi σ' H'=>∃v:Option V,σ'=[v,some (.int m)]/\H'=upd (upd H6 lo (.lst (xc m))) D (.lst (oL ((List.range i).map λk=>k*5 % m)))) ⟨none,rfl,rfl⟩ ?_ ?_
     . rintro i σ' H' hi ⟨v,rfl,rfl⟩
       rw[Int.zero_add]
       have hi:i < m:=by simpa using hi
       refine⟨_,rfl,_,_,rfl,rfl,.inl ⟨by omega,by omega⟩,_,rfl,_,_,rfl,rfl,(by show (0:Int) < m;omega),_,qd,?_,_,rfl,?_⟩
       . rw[List.length_map,List.length_map,List.length_range]
         exact qo (by omega)
       . rw[jw,List.range_succ,List.map_append,oL,oL,List.map_append]
         rfl
     . rintro σ' H' ⟨v,rfl,rfl⟩
       have hD6:H6 D=none:=by
         by_cases e:D=lo
         . rw[e];exact hlo
         . rw[qf e]at hD;exact hD
       exact k _ _ ⟨D,Zw m,rfl,λa u h=>qk (qk h hlo) hD,hD6,qd,.inr rfl⟩
   . rintro H1 ⟨rfl,rfl⟩
     exact⟨lo,List.range m,rfl,qh hlo,hlo,qd,.inl rfl⟩
   rintro σ' H7 ⟨lo,os,rfl,s7,hlo6,hlo7,hos⟩
   have los:os.length=m:=by
     rcases hos with rfl | rfl
     . exact List.length_range
     . rw[Zw,List.length_map,List.length_range]
   refine Wy (λc H'=>Same H7 H'/\(c=true\/os.Nodup)) (λσ' H'=>∃lo os,σ'=[some (.ref d),some (.int mo),some (.int m),some (.ref lz),some (.int sh),some (.ref lp),some (.bl b),some (.ref lo),none,none,none]/\Same H6 H'/\H' lo=some (.lst (oL os))/\XT m os)
     ?_ ?_ ?_ ?_
   . intro Q k
     refine⟨_,rfl,lo,os.map (λk=>((k:Nat):Int)),rfl,.of (by rw[<-yA];exact hlo7),by rw[List.length_map,los];omega,λl S hl=>?_⟩
     refine⟨l,S,_,rfl,qd,_,rfl,_,_,rfl,rfl,_,rfl,k _ _ ⟨qh hl,?_⟩⟩
     by_cases h:(((firstMet (λi=>(os.map λk=>((k:Nat):Int)).getD i 0) (os.map λk=>((k:Nat):Int)).length).length:Nat):Int) < (m:Int)
     . exact .inl (decide_eq_true h)
     . exact .inr (wu (by rw[los];omega))
   . rintro H1 ⟨s1,_⟩ D' k
     refine⟨_,rfl,m,rfl,by omega,λl hl=>?_⟩
     exact k _ _ ⟨l,J9 m,rfl,λa u h=>qk (s1 _ _ (s7 _ _ h)) hl,qd,Wn m⟩
   . rintro H1 ⟨s1,h⟩
     have h:os.Nodup:=h.resolve_left (by decide)
     refine⟨lo,os,rfl,λa u h=>s1 _ _ (s7 _ _ h),s1 _ _ hlo7,?_⟩
     rcases hos with rfl | rfl
     . exact vk m
     . exact Xq (by omega) m0 h
   rintro σ' H8 ⟨lo,os,rfl,s8,hlo8,ho⟩
   refine⟨by show 0<=sizeLine;decide,λlr hlr=>⟨_,rfl,lo,rfl,⟨_,.of (qk hlo8 hlr)⟩,?_⟩⟩
   refine jA (K:=K) (a:=lo) (xs:=oL os) (λi σ' H'=>∃(v9 v10:Option V) (qs:List Addr),σ'=[some (.ref d),some (.int mo),some (.int m),some (.ref lz),some (.int sh),some (.ref lp),some (.bl b),some (.ref lo),some (.ref lr),v9,v10]/\
     Same H8 H'/\H' lr=some (.lst (qs.map V.ref))/\qH H' qs ((os.take i).map (QH zs ks b)))
     ⟨none,none,[],rfl,qh hlr,qd,rfl,λi p r e=>(nomatch e)⟩ (λi σ' H' _ ⟨_,_,_,_,s,_⟩=>.of (s _ _ hlo8)) ?_ ?_
   . rintro i x σ' H' hx ⟨v9,v10,qs,rfl,s9,hlr9,rat⟩
     have hix:i < os.length:=by
       have:=(List.getElem?_eq_some_iff.mp hx).1
       rwa [List.length_map]at this
     obtain⟨k,hk⟩:∃k,os[i]?=some k:=⟨_,List.getElem?_eq_getElem hix⟩
     have ex:x=V.int ((k:Nat):Int):=by
       rw[List.getElem?_map,hk]at hx
       exact(Option.some.inj hx).symm
     subst ex
     have hkm:k < m:=ho.lt k (List.mem_of_getElem? hk)
     refine⟨_,rfl,lp,rfl,⟨_,.of (s9 _ _ (s8 _ _ hp6))⟩,λD hD=>?_⟩
     have nDr:D≠lr:=λe=>by rw[e,hlr9]at hD;cases hD
     have hz9:H' lz=some (.lst (zs.map V.str)):=s9 _ _ (s8 _ _ hz6)
     have pat9:Jl H' ps ks:=pat6.mono λa u h=>s9 _ _ (s8 _ _ h)
     refine q5 (K:=K) (a:=lp) (xs:=ps.map V.ref) (λj σ'' H''=>∃v0 v1:Option V,σ''=[v0,v1,some (.int k),some (.ref lz)]/\H''=upd H' D (.lst (((zZ (ks.take j) k).map (Y9 zs)).map V.str))) ⟨none,none,rfl,rfl⟩
       (λj σ'' G _ ⟨_,_,_,e⟩=>e▸.of (qk (s9 _ _ (s8 _ _ hp6)) hD)) ?_ ?_
     . rintro j y σ'' G hy ⟨v0,v1,rfl,rfl⟩
       have hj:j < ps.length:=by
         have:=(List.getElem?_eq_some_iff.mp hy).1
         rwa [List.length_map]at this
       obtain⟨p,hp⟩:∃p,ps[j]?=some p:=⟨_,List.getElem?_eq_getElem hj⟩
       obtain⟨kk,hkk⟩:∃p,ks[j]?=some p:=⟨_,List.getElem?_eq_getElem (by rw[<-pat9.1];exact hj)⟩
       have ey:y=V.ref p:=by
         rw[List.getElem?_map,hp]at hy
         exact(Option.some.inj hy).symm
       subst ey
       have hpt:=pat9.2 j p kk hp hkk
       have hk2:kk.2 < zs.length:=by rw[zl];exact(klt kk (List.mem_of_getElem? hkk)).2
       refine⟨p,_,rfl,.of (qk hpt hD),rfl,_,_,rfl,_,_,rfl,rfl,_,rfl,_,rfl,rfl,_,rfl,?_⟩
       rw[UA k hkk]
       by_cases e:kk.1=k
       . have e1:decide (V.int ((kk.1:Nat):Int)=V.int ((k:Nat):Int))=true:=decide_eq_true (by rw[e])
         rw[e1,if_pos e]
         refine YS ⟨_,rfl,_,rfl,lz,_,_,_,rfl,rfl,.of (qk hz9 hD),xb hk2,_,qd,?_,_,_,rfl,?_⟩
         . rw[List.length_map,List.length_map]
           refine qo ?_
           have h1:(zZ (ks.take j) k).length<=(ks.take j).length:=by
             unfold zZ
             rw[List.length_map]
             exact List.length_filter_le _ _
           rw[List.length_take]at h1
           omega
         . rw[jw,List.map_append,List.map_append]
           rfl
       . have e1:decide (V.int ((kk.1:Nat):Int)=V.int ((k:Nat):Int))=false:=decide_eq_false (by
           intro z
           have:=V.int.inj z
           omega)
         rw[e1,if_neg e,List.append_nil]
         exact jR ⟨_,_,rfl,rfl⟩
     . rintro σ'' G ⟨v0,v1,rfl,rfl⟩
       rw[List.length_map,pat9.1,List.take_of_length_le (Nat.le_refl _)]
       refine zD ?_
       dsimp only[List.set]
       refine Wy (λc G=>c=b/\G=upd H' D (.lst (((zZ ks k).map (Y9 zs)).map V.str)))
         (λσ' G=>σ'=[some (.ref d),some (.int mo),some (.int m),some (.ref lz),some (.int sh),some (.ref lp),some (.bl b),some (.ref lo),some (.ref lr),some (.int k),some (.ref D)]/\G=upd H' D (.lst ((QH zs ks b k).2.map V.str)))
         (λQ k=>⟨_,rfl,b,rfl,k _ _ ⟨rfl,rfl⟩⟩) ?_ ?_ ?_
       . rintro H1 ⟨rfl,rfl⟩ D' kk
         refine⟨_,rfl,.inl ⟨rfl,_,.of qd⟩,D,_,rfl,rfl,qd,?_⟩
         refine kk _ _ ⟨rfl,?_⟩
         rw[jw,QH,if_pos rfl,List.map_reverse]
       . rintro H1 ⟨rfl,rfl⟩
         exact⟨rfl,rfl⟩
       rintro σ' G ⟨rfl,rfl⟩
       have hlrG:upd H' D (.lst ((QH zs ks b k).2.map V.str)) lr=some (.lst (qs.map V.ref)):=by rw[qf (Ne.symm nDr)];exact hlr9
       have sG:Same H' (upd H' D (.lst ((QH zs ks b k).2.map V.str))):=qh hD
       refine⟨_,rfl,.inl ⟨rfl,_,.of hlrG⟩,_,rfl,_,rfl,lz,_,_,_,rfl,rfl,.of (sG _ _ hz9),xb (by rw[zl];exact hkm),_,rfl,D,_,rfl,.inl ⟨.of qd,λlq hq=>⟨by show 2<=sizeLine;decide,λlt hlt=>?_⟩⟩⟩
       have hqlr:=qk (o':=HO.tup ((QH zs ks b k).2.map V.str)) hlrG hq
       have htlr:=qk (o':=HO.tup [V.str (Y9 zs k),V.ref lq]) hqlr hlt
       refine⟨lr,_,_,rfl,rfl,htlr,?_,_,_,qs++[lt],rfl,?_,?_,?_⟩
       . rw[List.length_map,rat.1,List.length_map,List.length_take]
         refine qo ?_
         have:=ho.len
         omega
       . exact Same.upd (λa u h=>qk (qk (sG _ _ (s9 _ _ h)) hq) hlt) hlr
       . rw[List.map_append]
         exact qd
       . have e:os.take (i+1)=os.take i++[k]:=by rw[List.take_add_one,hk];rfl
         rw[e,List.map_append]
         refine qH.upd_lst ?_ htlr
         exact qH.snoc (q:=lq) (rat.mono λa u h=>qk (qk (sG _ _ h) hq) hlt) qd (qk qd hlt)
   . rintro σ' H' ⟨v9,v10,qs,rfl,s9,hlr9,rat⟩
     have e:(oL os).length=os.length:=List.length_map ..
     rw[e,List.take_of_length_le (Nat.le_refl _)]at rat
     have h8:H6 lr=none:=by
       cases z:H6 lr with
       | none=>rfl
       | some u=>rw[s8 _ _ z]at hlr;cases hlr
     refine⟨_,rfl,q lr qs _ n6 t6 H' (fr6.fresh hd6 h8) hlr9 rat (Uh b zl zn znd kord klt k40 ho) ?_ ?_ (s9 _ _ (s8 _ _ hd6)) (fr6.same λa u h=>s9 _ _ (s8 _ _ h))⟩
     . rw[List.length_map,ho.len];exact m0
     . rw[List.length_map,ho.len];exact m1
end
end Rh
set_option Elab.async false
set_option linter.all false
set_option maxRecDepth 100000
set_option maxHeartbeats 4000000
namespace Rh
open PySem L2 PyProof.Rows
abbrev Z3:Stmt:=top 13
abbrev Zh:Stmt:=top 14
abbrev z7:Stmt:=top 15
abbrev ye:Stmt:=top 16
abbrev W2:Stmt:=top 17
abbrev UZ:Stmt:=top 18
abbrev Jq:Stmt:=top 19
theorem wp (x:Str):[x].Nodup:=by simp
structure Qd (K:PySem.W.Frag) (mg:Str->Option Value):Prop where
 isi:mg "isinstance"=none
 str:mg "str"=none
 all:mg "all"=none
 enu:mg "enumerate"=none
 sum:mg "sum"=none
 lets:∃t,mg "LETTERS"=some (.str Vx t)
 lgst:∃t,mg "LONGEST_NAME"=some (.int 8 t)
 mp:∃t,mg "MOST_PLACES"=some (.int 14 t)
 mr:∃t,mg "MOST_ROADS"=some (.int 40 t)
 kss:PySem.W.kitOne K (.type "str") (.type "str")=some true
 ktt:PySem.W.kitOne K (.type "tuple") (.type "tuple")=some true
 kll:PySem.W.kitOne K (.type "list") (.type "list")=some true
theorem wJ (c:Nat):(!(Builtin.Str.occurrences Vx ⟨#[c]⟩ 0 Vx.length 1).isEmpty)=jC c:=by
 rw[StrLaws.found_one,ku]
 unfold jC
 rw[Bool.eq_iff_iff]
 simp only[decide_eq_true_eq,Bool.and_eq_true,List.mem_map,List.mem_range]
 constructor
 . rintro⟨k,hk,rfl⟩
   omega
 . intro h
   exact⟨c - 97,by omega,by omega⟩
theorem kt (f:Nat->Bool) (l:List Nat) (i c:Nat) (h:l[i]?=some c):(l.take i).map f++[f c]=(l.take (i+1)).map f:=by
 rw[List.take_add_one,h]
 simp
def k8:Sp:=λvs H Q _=>∃z,vs=[.str z]/\qG z=true/\∀H',Same H H'->Q (.bl true) H'
def uB:Sp:=λvs H Q _=>∃(q:Addr) (zs:List Str),vs=[.ref q]/\H q=some (.tup (zs.map V.str))/\(∀z∈zs,qG z=true)/\zs.length<=1000/\∀H',Same H H'->Q (.bl true) H'
def UK:Sp:=λvs H Q _=>∃(p q:Addr) (r:Str×List Str),vs=[.ref p]/\H p=some (.tup [.str r.1,.ref q])/\H q=some (.tup (r.2.map V.str))/\qG r.1=true/\(∀z∈r.2,qG z=true)/\r.2.length<=1000/\∀H',Same H H'->Q (.bl true) H'
structure jm (H:Hp) (l:Addr) (ps:List Addr) (rs:List (Str×List Str)):Prop where
 at_:H l=some (.lst (ps.map V.ref))
 rows:qH H ps rs
 good:qv rs
 pos:0 < rs.length
 le:rs.length<=14
theorem jm.mono {H H':Hp} {l:Addr} {ps:List Addr} {rs:List (Str×List Str)} (h:jm H l ps rs) (s:Same H H'):jm H' l ps rs:=⟨s _ _ h.at_,h.rows.mono s,h.good,h.pos,h.le⟩
theorem qv.names {rs:List (Str×List Str)} (h:qv rs):∀r∈rs,∀z∈r.2,qG z=true:=λr hr z hz=>by
 obtain⟨r',hr',rfl⟩:=List.mem_map.mp (h.to r hr z hz)
 exact h.nm r' hr'
theorem qv.len {rs:List (Str×List Str)} (h:qv rs):∀r∈rs,r.2.length<=40:=λr hr=>by
 refine Nat.le_trans ?_ h.few
 have:∀(rs:List (Str×List Str)),r∈rs->r.2.length<=(rs.map λr=>r.2.length).sum:=by
   intro rs
   induction rs with
   | nil=>intro h;cases h
   | cons a rs ih=>
     intro h
     rw[List.map_cons,List.sum_cons]
     rcases List.mem_cons.mp h with rfl | h
     . omega
     . have:=ih h
       omega
 exact this rs hr
theorem qH.item {H:Hp} {ps:List Addr} {rs:List (Str×List Str)} (h:qH H ps rs) {i:Nat} {x:V} (hx:(ps.map V.ref)[i]?=some x):∃p q r,x=.ref p/\rs[i]?=some r/\r∈rs/\H p=some (.tup [.str r.1,.ref q])/\H q=some (.tup (r.2.map V.str)):=by
 rw[List.getElem?_map]at hx
 cases e:ps[i]? with
 | none=>rw[e]at hx;cases hx
 | some p=>
   rw[e]at hx
   have hi:i < rs.length:=by
     have:=(List.getElem?_eq_some_iff.mp e).1
     rw[h.1]at this
     exact this
   obtain⟨q,a,b⟩:=h.2 i p _ e (List.getElem?_eq_getElem hi)
   exact⟨p,q,_,(Option.some.inj hx).symm,List.getElem?_eq_getElem hi,List.getElem_mem hi,a,b⟩
def Zg:Sp:=λvs H Q _=>∃(l:Addr) (ps:List Addr) (rs:List (Str×List Str)),vs=[.ref l]/\jm H l ps rs/\∀H',Same H H'->Q .non H'
def UM:Sp:=λvs H Q _=>∃(l:Addr) (zs:List Str),vs=[.ref l]/\H l=some (.lst (zs.map V.str))/\zs.Nodup/\zs.length<=1000/\∀H',Same H H'->Q .non H'
def YA:Sp:=λvs H Q _=>∃(q l:Addr) (es zs:List Str),vs=[.ref q,.ref l]/\H q=some (.tup (es.map V.str))/\H l=some (.lst (zs.map V.str))/\es.Nodup/\(∀z∈es,z∈zs)/\es.length<=900/\∀H',Same H H'->Q .non H'
theorem JM {kvs:List (qN×V)} {k:qN} (h:¬k∈kvs.map (·.1)):jp kvs k=none:=by
 cases e:jp kvs k with
 | none=>rfl
 | some v=>exact absurd (WP e) h
theorem QK (zs:List Str):(zs.map V.str).all J7=true:=by
 rw[List.all_map,List.all_eq_true]
 intro z _
 rfl
theorem Vk {z:Str} {zs:List Str} (h:z∈zs):zB (.str z) (zs.map V.str)=true:=by
 unfold zB
 rw[List.any_eq_true]
 exact⟨.str z,List.mem_map.mpr ⟨z,h,rfl⟩,by show (z==z)=true;simp⟩
section
variable {P:Program} {w:World} {K:PySem.W.Frag} {mg:Str->Option Value} {base:Heap}
theorem xT:qB ["thing"] ["thing"] (qm Jr):=⟨rfl,rfl,rfl,by decide+kernel,rfl,by decide+kernel,by decide+kernel⟩
theorem YK {f:Addr} {fd:FuncData} (F:Qe K "is_name" "is_name" Jr f fd) (B:Zp mg) (T:Qd K mg):qu P w K mg base jh 1 f fd ["thing"] k8:=by
 refine F.okJ xT (λvs H Q E h=>?_) (λcdv A outer s H vs Q E hr h=>?_)
 . obtain⟨x,rfl,_⟩:=h
   rfl
 . obtain⟨z,rfl,hz,q⟩:=h
   obtain⟨tl,hlets⟩:=T.lets
   obtain⟨tg,hlg⟩:=T.lgst
   refine⟨_,qg (qU (Qb (jY (qr j2 (by rfl) T.isi boot_isinstance (qb (jv 0) (qb (QT (v:=.ty "str") (by rfl) T.str boot_str rfl) qe))))) (qj (qP jI)) qz)
     (qg (qU (Qi (qt Qr (qr QW (by rfl) B.len boot_len (qb (jv 0) qe)) qi (qx _))
         (j5 (qt Q7 (qr QW (by rfl) B.len boot_len (qb (jv 0) qe)) (jz (v:=.int 8) (by rfl) hlg ⟨_,rfl⟩) (qx _)))).pt (qj (qP jI)) qz)
     (qj (qP (qr (Ym rfl) (by rfl) T.all boot_all (qb (j7 (N':=["sign"]) (ix:=[none]) rfl ⟨rfl,rfl,rfl,rfl,rfl⟩ (wG (jv 0)) (λC s2 H2 fp pins=>
       ⟨qp (i:=0) (wp _) rfl (Or.inl rfl),jc,QS V0 (jv 0) (jz (v:=.str Vx) (by rfl) hlets ⟨_,rfl⟩) (by with_unfolding_all rfl)⟩)) qe))))),?_⟩
   have hn:=hz
   unfold qG at hn
   simp only[Bool.and_eq_true,decide_eq_true_eq]at hn
   obtain⟨⟨n1,n8⟩,na⟩:=hn
   have hz':z.length<=sizeLine:=Nat.le_of_lt (qo (by omega))
   refine⟨_,rfl,_,_,_,_,rfl,rfl,.str z,T.kss,_,rfl,jR ?_⟩
   refine⟨_,rfl,z,rfl,hz',_,_,rfl,rfl,_,rfl,?_⟩
   refine YT (λh=>?_) (λh=>?_)
   . exact absurd (of_decide_eq_true h) (by omega)
   . refine⟨_,rfl,z,rfl,hz',_,_,rfl,rfl,_,rfl,?_⟩
     refine YT (λh2=>?_) (λh2=>?_)
     . exact absurd (of_decide_eq_true h2) (by show ¬(8:Int) < (z.length:Int);omega)
     . refine⟨_,rfl,z,rfl,λD hD=>?_⟩
       refine y3 (λi σ' H'=>∃v,σ'=[v]/\H'=upd H D (.lst (((z.cps.toList.take i).map jC).map V.bl))) ⟨none,rfl,rfl⟩ ?_ ?_
       . rintro i c σ' H' hc ⟨v,rfl,rfl⟩
         refine⟨_,rfl,_,_,rfl,rfl,_,qd,?_,?_⟩
         . rw[List.length_map,List.length_map,List.length_take]
           exact Nat.lt_of_le_of_lt (Nat.min_le_right _ _) (qo (show z.cps.toList.length<=1000 by rw[Array.length_toList];exact Nat.le_trans n8 (by decide)))
         . refine⟨_,rfl,?_⟩
           rw[jw,wJ]
           have hc':z.cps.toList[i]?=some c:=by simpa using hc
           rw[<-kt jC z.cps.toList i c hc',List.map_append]
           rfl
       . rintro σ' H' ⟨v,rfl,rfl⟩
         refine⟨D,_,rfl,.of qd,?_⟩
         have e0:z.cps.toList.take z.cps.size=z.cps.toList:=List.take_of_length_le (by simp)
         have e1:(z.cps.toList.map jC).all id=true:=by rw[List.all_map];exact na
         rw[e0,e1]
         exact q _ (qh hD)
theorem xR:qB ["thing"] ["thing"] (qm Z3):=⟨rfl,rfl,rfl,by decide+kernel,rfl,by decide+kernel,by decide+kernel⟩
theorem yr {f fN:Addr} {fd fdN:FuncData} (F:Qe K "is_tuple_of_names" "is_tuple_of_names" Z3 f fd) (B:Zp mg) (G:Qu mg) (T:Qd K mg) (hN:j0 K mg "is_name" Jr ["thing"] fN fdN):qu P w K mg base jh 2 f fd ["thing"] uB:=by
 have GN:qu P w K mg base jh 1 fN fdN ["thing"] k8:=YK hN.fn B T
 refine F.okJ xR (λvs H Q E h=>?_) (λcdv A outer s H vs Q E hr h=>?_)
 . obtain⟨x,zs,rfl,_⟩:=h
   rfl
 . obtain⟨x,zs,rfl,hx,hz,hl,q⟩:=h
   refine⟨_,qj (qP (Wv (qr j2 (by rfl) T.isi boot_isinstance (qb (jv 0) (qb (QT (v:=.ty "tuple") (by rfl) G.tup boot_tuple rfl) qe)))
     (Wu (qr (Ym rfl) (by rfl) T.all boot_all (qb (j7 (N':=["part"]) (ix:=[none]) rfl ⟨rfl,rfl,rfl,rfl,rfl⟩ (YQ (jv 0)) (λC s2 H2 fp pins=>
       ⟨qp (i:=0) (wp _) rfl (Or.inl rfl),jc,ja hN GN hr (by rfl) (qb (jv 0) qe)⟩)) qe))))),?_⟩
   refine⟨_,rfl,_,_,_,_,rfl,rfl,.tup hx,T.ktt,_,rfl,YS ⟨_,rfl,x,rfl,⟨_,.of hx⟩,λD hD=>?_⟩⟩
   refine Y3 (K:=K) (a:=x) (xs:=zs.map V.str) (λi σ' H'=>∃v,σ'=[v]/\Same H H'/\H' D=some (.lst ((List.replicate i true).map V.bl))) ⟨none,rfl,qh hD,qd⟩ (λi σ' H' _ ⟨_,_,s,_⟩=>.of (s _ _ hx)) ?_ ?_
   . rintro i y σ' H' hy ⟨v,rfl,s1,hD1⟩
     rw[List.getElem?_map]at hy
     cases e:zs[i]? with
     | none=>rw[e]at hy;cases hy
     | some z=>
       rw[e]at hy
       obtain rfl:=(Option.some.inj hy).symm
       have hi:=(List.getElem?_eq_some_iff.mp e).1
       refine⟨_,rfl,z,rfl,hz z (List.mem_of_getElem? e),λH2 s2=>⟨_,s2 _ _ hD1,?_,_,rfl,?_,?_⟩⟩
       . rw[List.length_map,List.length_replicate]
         exact qo (by omega)
       . exact Same.upd (s1.trans s2) hD
       . rw[qd,List.replicate_succ',List.map_append]
         rfl
   . rintro σ' H' ⟨v,rfl,s1,hD1⟩
     refine⟨D,_,rfl,.of hD1,?_⟩
     have e:(List.replicate (zs.map V.str).length true).all id=true:=by simp
     rw[e]
     exact q _ s1
theorem yd:qB ["thing"] ["thing"] (qm Zh):=⟨rfl,rfl,rfl,by decide+kernel,rfl,by decide+kernel,by decide+kernel⟩
theorem Xs {f fN fP:Addr} {fd fdN fdP:FuncData} (F:Qe K "is_row" "is_row" Zh f fd) (B:Zp mg) (G:Qu mg) (T:Qd K mg) (hN:j0 K mg "is_name" Jr ["thing"] fN fdN) (hP:j0 K mg "is_tuple_of_names" Z3 ["thing"] fP fdP):qu P w K mg base jh 3 f fd ["thing"] UK:=by
 have GN:qu P w K mg base jh 1 fN fdN ["thing"] k8:=YK hN.fn B T
 have GP:qu P w K mg base jh 2 fP fdP ["thing"] uB:=yr hP.fn B G T hN
 refine F.okJ yd (λvs H Q E h=>?_) (λcdv A outer s H vs Q E hr h=>?_)
 . obtain⟨p,x,r,rfl,_⟩:=h
   rfl
 . obtain⟨p,x,r,rfl,hp,hx,hn,hz,hl,q⟩:=h
   refine⟨_,qg (qU (Qi (Qb (jY (qr j2 (by rfl) T.isi boot_isinstance (qb (jv 0) (qb (QT (v:=.ty "tuple") (by rfl) G.tup boot_tuple rfl) qe)))))
       (j5 (qt vm (qr qy (by rfl) B.len boot_len (qb (jv 0) qe)) qi (qx _)))).pt qM qz)
     (qj (qP (Wv (ja hN GN (hr.mono (by decide)) (by rfl) (qb (qS qR (jv 0) qi (λ_ _=>rfl)) qe)) (Wu (ja hP GP hr (by rfl) (qb (qS qR (jv 0) qi (λ_ _=>rfl)) qe)))))),?_⟩
   refine⟨_,rfl,_,_,_,_,rfl,rfl,.tup hp,T.ktt,_,rfl,jR ⟨_,rfl,p,_,rfl,.inr (.of hp),rfl,_,rfl,jR ?_⟩⟩
   refine⟨_,rfl,p,_,0,_,rfl,rfl,.of hp,rfl,r.1,rfl,hn,λH1 s1=>⟨_,rfl,YS ?_⟩⟩
   exact⟨_,rfl,p,_,1,_,rfl,rfl,.of (s1 _ _ hp),rfl,x,r.2,rfl,s1 _ _ hx,hz,hl,λH2 s2=>q H2 (s1.trans s2)⟩
end
end Rh
set_option Elab.async false
set_option linter.all false
set_option maxRecDepth 100000
set_option maxHeartbeats 4000000
namespace Rh
open PySem L2 PyProof.Rows
section
variable {P:Program} {w:World} {K:PySem.W.Frag} {mg:Str->Option Value} {base:Heap}
abbrev Kl:List Str:=["rows","number","row"]
theorem Jx:qB Kl ["rows"] (qm z7):=⟨rfl,rfl,rfl,by decide+kernel,rfl,by decide+kernel,by decide+kernel⟩
theorem yv {f fN fP fR:Addr} {fd fdN fdP fdR:FuncData} (F:Qe K "need_form" "need_form" z7 f fd) (B:Zp mg) (G:Qu mg) (T:Qd K mg) (hN:j0 K mg "is_name" Jr ["thing"] fN fdN) (hP:j0 K mg "is_tuple_of_names" Z3 ["thing"] fP fdP)
   (hR:j0 K mg "is_row" Zh ["thing"] fR fdR):qu P w K mg base jh 4 f fd ["rows"] Zg:=by
 have GR:qu P w K mg base jh 3 fR fdR ["thing"] UK:=Xs hR.fn B G T hN hP
 obtain⟨tm,hmp⟩:=T.mp
 refine F.okJ Jx (λvs H Q E h=>?_) (λcdv A outer s H vs Q E hr h=>?_)
 . obtain⟨l,ps,rs,rfl,_⟩:=h
   rfl
 . obtain⟨l,ps,rs,rfl,g,q⟩:=h
   refine⟨_,qg (qU (Qi (Qb (jY (qr j2 (by rfl) T.isi boot_isinstance (qb (jv 0) (qb (QT (v:=.ty "list") (by rfl) G.lst boot_list rfl) qe)))))
       (j5 (qt Qs (qr qy (by rfl) B.len boot_len (qb (jv 0) qe)) qi (qx _)))).pt qM qz)
     (qg (qU (qt Q7 (qr qy (by rfl) B.len boot_len (qb (jv 0) qe)) (jz (v:=.int 14) (by rfl) hmp ⟨_,rfl⟩) (qx _)) qM qz)
     (qj (jx PassesOwn.never rfl (ZM (by rfl) T.enu (qb (jv 0) qe)) (j6 rfl (qE (qp (i:=1) Jx.nd rfl (Or.inl rfl)) (qE (qp (i:=2) Jx.nd rfl (Or.inl rfl)) jE)))
       (qj (qU (Qb (jY (ja hR GR hr (by rfl) (qb (jv 2) qe)))) qM qz))))),?_⟩
   have lp:(ps.map V.ref).length=rs.length:=by rw[List.length_map,g.rows.1]
   refine⟨_,rfl,_,_,_,_,rfl,rfl,.lst g.at_,T.kll,_,rfl,jR ⟨_,rfl,l,_,rfl,.inl (.of g.at_),rfl,_,rfl,?_⟩⟩
   have e0:decide (V.int (((ps.map V.ref).length:Nat):Int)=V.int 0)=false:=decide_eq_false (by
     intro z
     have:=V.int.inj z
     have:=g.pos
     omega)
   rw[e0]
   refine jR ⟨_,rfl,l,_,rfl,.inl (.of g.at_),_,_,rfl,rfl,_,rfl,?_⟩
   have e1:decide ((14:Int) < (((ps.map V.ref).length:Nat):Int))=false:=decide_eq_false (by
     have:=g.le
     omega)
   refine YT (λz=>absurd z (by rw[e1];decide)) (λ_=>?_)
   refine⟨_,rfl,l,rfl,⟨_,.of g.at_⟩,?_⟩
   refine zE (K:=K) (a:=l) (xs:=ps.map V.ref) (λi σ' H'=>∃v1 v2,σ'=[some (.ref l),v1,v2]/\Same H H') ⟨none,none,rfl,Same.refl H⟩ (λi σ' H' _ ⟨_,_,_,s⟩=>.of (s _ _ g.at_)) ?_ ?_
   . rintro i x σ' H' p hx hp ⟨v1,v2,rfl,s1⟩
     have g1:=g.mono (s1.trans (qh (o:=.tup [.int (i:Nat),x]) hp))
     obtain⟨p',q',r,rfl,_,hr',a,b⟩:=g1.rows.item hx
     refine⟨p,_,rfl,.of qd,rfl,_,_,rfl,_,_,rfl,rfl,_,rfl,p',q',r,rfl,a,b,g.good.nm r hr',g.good.names r hr',Nat.le_trans (g.good.len r hr') (by decide),λH2 s2=>⟨_,rfl,jR ⟨_,_,rfl,?_⟩⟩⟩
     exact(s1.trans (qh hp)).trans s2
   . rintro σ' H' ⟨v1,v2,rfl,s1⟩
     exact q H' s1
abbrev Gn:List Str:=["order","ahead","name"]
theorem UT:qB Gn ["order"] (qm ye):=⟨rfl,rfl,rfl,by decide+kernel,rfl,by decide+kernel,by decide+kernel⟩
theorem Zk {zs:List Str} (hn:zs.Nodup) {i:Nat} {z:Str} (e:zs[i]?=some z):¬(Sum.inr z:qN)∈(zs.take i).map Sum.inr:=λh=>by
 obtain⟨y,hy,ey⟩:=List.mem_map.mp h
 have ey':y=z:=Sum.inr.inj ey
 subst ey'
 obtain⟨j,hj⟩:=List.getElem?_of_mem hy
 have hj1:=(List.getElem?_eq_some_iff.mp hj).1
 rw[List.length_take]at hj1
 have hji:j < i:=by omega
 rw[List.getElem?_take_of_lt hji]at hj
 have h1:=(List.getElem?_eq_some_iff.mp hj)
 have h2:=(List.getElem?_eq_some_iff.mp e)
 exact absurd (h1.2.trans h2.2.symm) (List.pairwise_iff_getElem.mp hn j i h1.1 h2.1 hji)
theorem YG {kvs:List (qN×V)} {k:qN} (v:V) (h:jp kvs k=none):(jL kvs k v).map (·.1)=kvs.map (·.1)++[k]:=by
 rw[zc v h,List.map_append]
 rfl
theorem vo {f:Addr} {fd:FuncData} (F:Qe K "need_own_names" "need_own_names" ye f fd):qu P w K mg base jh 1 f fd ["order"] UM:=by
 refine F.okJ UT (λvs H Q E h=>?_) (λcdv A outer s H vs Q E hr h=>?_)
 . obtain⟨l,zs,rfl,_⟩:=h
   rfl
 . obtain⟨l,zs,rfl,hl,hn,hz,q⟩:=h
   have hu:=Q1 hr
   refine⟨_,qg (qA (i:=1) UT.nd rfl (Or.inl rfl) zz)
     (qj (jx PassesOwn.never rfl (qJ (jv 0)) (qp (i:=2) UT.nd rfl (Or.inl rfl))
       (qg (qU (YO (Ww hu (jv 2) (jv 1))) qM qz) (qj (jV hu (jv 1) (jv 2) jI rfl))))),?_⟩
   intro D hD
   refine⟨_,rfl,l,rfl,⟨_,.of (qk hl hD)⟩,?_⟩
   refine jA (K:=K) (a:=l) (xs:=zs.map V.str) (λi σ' H'=>∃v kvs,σ'=[some (.ref l),some (.ref D),v]/\Same H H'/\H' D=some (.dK kvs)/\kvs.map (·.1)=(zs.take i).map Sum.inr) ⟨none,[],rfl,qh hD,qd,rfl⟩ (λi σ' H' _ ⟨_,_,_,s,_⟩=>.of (s _ _ hl)) ?_ ?_
   . rintro i x σ' H' hx ⟨v,kvs,rfl,s1,hD1,ek⟩
     rw[List.getElem?_map]at hx
     cases e:zs[i]? with
     | none=>rw[e]at hx;cases hx
     | some z=>
       rw[e]at hx
       obtain rfl:=(Option.some.inj hx).symm
       have hi:=(List.getElem?_eq_some_iff.mp e).1
       have ez:jp kvs (Sum.inr z:qN)=none:=JM (by rw[ek];exact Zk hn e)
       have gz:jK H' D (.str z) none:=by
         have:=jK.k (k:=(Sum.inr z:qN)) hD1
         rw[ez]at this
         exact this
       have lk:kvs.length < sizeLine:=by
         have:=congrArg List.length ek
         rw[List.length_map,List.length_map,List.length_take]at this
         exact qo (by omega)
       refine⟨_,rfl,_,rfl,D,none,rfl,gz,_,rfl,jR ?_⟩
       refine⟨_,rfl,_,rfl,D,_,rfl,Jp.k (k:=(Sum.inr z:qN)) hD1 lk,_,_,rfl,Same.upd s1 hD,qd,?_⟩
       rw[YG _ ez,ek,List.take_add_one,e,List.map_append]
       rfl
   . rintro σ' H' ⟨v,kvs,rfl,s1,_⟩
     exact q H' s1
abbrev Km:List Str:=["ends","order","ahead","name"]
theorem Wf:qB Km ["ends","order"] (qm W2):=⟨rfl,rfl,rfl,by decide+kernel,rfl,by decide+kernel,by decide+kernel⟩
theorem Vd {f:Addr} {fd:FuncData} (F:Qe K "need_ends" "need_ends" W2 f fd):qu P w K mg base jh 1 f fd ["ends","order"] YA:=by
 refine F.okJ Wf (λvs H Q E h=>?_) (λcdv A outer s H vs Q E hr h=>?_)
 . obtain⟨x,l,es,zs,rfl,_⟩:=h
   rfl
 . obtain⟨x,l,es,zs,rfl,hx,hl,hn,hin,hz,q⟩:=h
   have hu:=Q1 hr
   refine⟨_,qg (qA (i:=2) Wf.nd rfl (Or.inl rfl) zz)
     (qj (jx PassesOwn.never rfl (YQ (jv 0)) (qp (i:=3) Wf.nd rfl (Or.inl rfl))
       (qg (qU (qt YI (jv 3) (jv 1) (by with_unfolding_all rfl)) qM qz)
       (qg (qU (YO (Ww hu (jv 3) (jv 2))) qM qz) (qj (jV hu (jv 2) (jv 3) jI rfl)))))),?_⟩
   intro D hD
   refine⟨_,rfl,x,rfl,⟨_,.of (qk hx hD)⟩,?_⟩
   refine yU (K:=K) (a:=x) (xs:=es.map V.str) (λi σ' H'=>∃v kvs,σ'=[some (.ref x),some (.ref l),some (.ref D),v]/\Same H H'/\H' D=some (.dK kvs)/\kvs.map (·.1)=(es.take i).map Sum.inr) ⟨none,[],rfl,qh hD,qd,rfl⟩ (λi σ' H' _ ⟨_,_,_,s,_⟩=>.of (s _ _ hx)) ?_ ?_
   . rintro i y σ' H' hy ⟨v,kvs,rfl,s1,hD1,ek⟩
     rw[List.getElem?_map]at hy
     cases e:es[i]? with
     | none=>rw[e]at hy;cases hy
     | some z=>
       rw[e]at hy
       obtain rfl:=(Option.some.inj hy).symm
       have hi:=(List.getElem?_eq_some_iff.mp e).1
       have ez:jp kvs (Sum.inr z:qN)=none:=JM (by rw[ek];exact Zk hn e)
       have gz:jK H' D (.str z) none:=by
         have:=jK.k (k:=(Sum.inr z:qN)) hD1
         rw[ez]at this
         exact this
       have lk:kvs.length < sizeLine:=by
         have:=congrArg List.length ek
         rw[List.length_map,List.length_map,List.length_take]at this
         exact qo (by omega)
       refine⟨_,rfl,_,rfl,l,_,rfl,.inl (.of (s1 _ _ hl)),rfl,QK zs,_,rfl,?_⟩
       rw[Vk (hin z (List.mem_of_getElem? e))]
       refine jR ⟨_,rfl,_,rfl,D,none,rfl,gz,_,rfl,jR ?_⟩
       refine⟨_,rfl,_,rfl,D,_,rfl,Jp.k (k:=(Sum.inr z:qN)) hD1 lk,_,_,rfl,Same.upd s1 hD,qd,?_⟩
       rw[YG _ ez,ek,List.take_add_one,e,List.map_append]
       rfl
   . rintro σ' H' ⟨v,kvs,rfl,s1,_⟩
     exact q H' s1
abbrev Gq:List Str:=["rows","many"]
theorem W0:qB Gq ["rows"] (qm UZ):=⟨rfl,rfl,rfl,by decide+kernel,rfl,by decide+kernel,by decide+kernel⟩
theorem wm {f:Addr} {fd:FuncData} (F:Qe K "need_few_roads" "need_few_roads" UZ f fd) (B:Zp mg) (T:Qd K mg):qu P w K mg base jh 1 f fd ["rows"] Zg:=by
 obtain⟨tm,hmr⟩:=T.mr
 refine F.okJ W0 (λvs H Q E h=>?_) (λcdv A outer s H vs Q E hr h=>?_)
 . obtain⟨l,ps,rs,rfl,_⟩:=h
   rfl
 . obtain⟨l,ps,rs,rfl,g,q⟩:=h
   refine⟨_,qg (qA (i:=1) W0.nd rfl (Or.inl rfl) (qr (Zn rfl) (by rfl) T.sum boot_sum (qb (j7 (N':=["row"]) (ix:=[none]) (te:=Uw (λxs H Q=>∃p ys,xs=[.ref p]/\(SqL K H p ys\/Zc K H p ys)/\Q (.int ys.length) H) (qI (zN (Zi K) (qL 0) (tC (.int 1))) jH)) rfl ⟨rfl,rfl,rfl,rfl,rfl⟩ (qJ (jv 0)) (λC s2 H2 fp pins=>
       ⟨qp (i:=0) (wp _) rfl (Or.inl rfl),jc,qr qy (by rfl) B.len boot_len (qb (qS qR (jv 0) qi (λ_ _=>rfl)) qe)⟩)) qe)))
     (qj (qU (qt Q7 (jv 1) (jz (v:=.int 40) (by rfl) hmr ⟨_,rfl⟩) (qx _)) qM qz)),?_⟩
   refine⟨_,rfl,l,rfl,⟨_,.of g.at_⟩,λD hD=>?_⟩
   refine q5 (K:=K) (a:=l) (xs:=ps.map V.ref) (λi σ' H'=>∃v,σ'=[v]/\H'=upd H D (.lst (((rs.take i).map λr=>r.2.length).map λn=>V.int ((n:Nat):Int)))) ⟨none,rfl,rfl⟩ (λi σ' H' _ ⟨_,_,e⟩=>e▸.of (qk g.at_ hD)) ?_ ?_
   . rintro i x σ' H' hx ⟨v,rfl,rfl⟩
     obtain⟨p',q',r,rfl,er,hr',a,b⟩:=g.rows.item hx
     have hi:=(List.getElem?_eq_some_iff.mp er).1
     refine⟨_,rfl,p',_,1,_,rfl,rfl,.of (qk a hD),rfl,q',_,rfl,.inr (.of (qk b hD)),_,qd,?_,_,rfl,?_⟩
     . rw[List.length_map,List.length_map,List.length_take]
       have:=g.le
       exact qo (by omega)
     . rw[jw,List.take_add_one,er,List.map_append,List.map_append,List.length_map]
       rfl
   . rintro σ' H' ⟨v,rfl,rfl⟩
     have e:rs.take (ps.map V.ref).length=rs:=List.take_of_length_le (by rw[List.length_map,g.rows.1];exact Nat.le_refl _)
     rw[e]
     refine⟨D,_,rfl,.of qd,Nat.lt_of_le_of_lt g.good.few (by decide),?_⟩
     refine⟨_,rfl,_,_,rfl,rfl,_,rfl,?_⟩
     have:=g.good.few
     refine YT (λz=>absurd (of_decide_eq_true z) ?_) (λ_=>q _ (qh hD))
     show ¬(40:Int) < _
     omega
abbrev Kk:List Str:=["rows","order","row"]
theorem Jw:qB Kk ["rows"] (qm Jq):=⟨rfl,rfl,rfl,by decide+kernel,rfl,by decide+kernel,by decide+kernel⟩
structure Y7 (K:PySem.W.Frag) (mg:Str->Option Value):Prop where
 nm:∃f fd,j0 K mg "is_name" Jr ["thing"] f fd
 tn:∃f fd,j0 K mg "is_tuple_of_names" Z3 ["thing"] f fd
 rw:∃f fd,j0 K mg "is_row" Zh ["thing"] f fd
 fo:∃f fd,j0 K mg "need_form" z7 ["rows"] f fd
 ow:∃f fd,j0 K mg "need_own_names" ye ["order"] f fd
 en:∃f fd,j0 K mg "need_ends" W2 ["ends","order"] f fd
 fw:∃f fd,j0 K mg "need_few_roads" UZ ["rows"] f fd
theorem yu {f:Addr} {fd:FuncData} (F:Qe K "need_rows" "need_rows" Jq f fd) (B:Zp mg) (G:Qu mg) (T:Qd K mg) (N:Y7 K mg):qu P w K mg base jh 5 f fd ["rows"] Zg:=by
 obtain⟨fN,fdN,hN⟩:=N.nm
 obtain⟨fP,fdP,hP⟩:=N.tn
 obtain⟨fR,fdR,hR⟩:=N.rw
 obtain⟨fF,fdF,hF⟩:=N.fo
 obtain⟨fO,fdO,hO⟩:=N.ow
 obtain⟨fE,fdE,hE⟩:=N.en
 obtain⟨fW,fdW,hW⟩:=N.fw
 have GF:qu P w K mg base jh 4 fF fdF ["rows"] Zg:=yv hF.fn B G T hN hP hR
 have GO:qu P w K mg base jh 1 fO fdO ["order"] UM:=vo hO.fn
 have GE:qu P w K mg base jh 1 fE fdE ["ends","order"] YA:=Vd hE.fn
 have GW:qu P w K mg base jh 1 fW fdW ["rows"] Zg:=wm hW.fn B T
 refine F.okJ Jw (λvs H Q E h=>?_) (λcdv A outer s H vs Q E hr h=>?_)
 . obtain⟨l,ps,rs,rfl,_⟩:=h
   rfl
 . obtain⟨l,ps,rs,rfl,g,q⟩:=h
   refine⟨_,qg (jf (ja hF GF hr (by rfl) (qb (jv 0) qe)))
     (qg (QJ (i:=1) (N':=["row"]) (ix:=[none]) (te:=zN (Zi K) (qL 0) (tC (.int 0))) Jw.nd rfl (Or.inl rfl) rfl ⟨rfl,rfl,rfl,rfl,rfl⟩ (qJ (jv 0)) (λC s2 H2 fp pins=>
       ⟨qp (i:=0) (wp _) rfl (Or.inl rfl),jc,qS qR (jv 0) qi (λ_ _=>rfl)⟩))
     (qg (jf (ja hO GO (hr.mono (by decide)) (by rfl) (qb (jv 1) qe)))
     (qg (jx PassesOwn.never rfl (qJ (jv 0)) (qp (i:=2) Jw.nd rfl (Or.inl rfl))
       (qj (jf (ja hE GE (hr.mono (by decide)) (by rfl) (qb (qS qR (jv 2) qi (λ_ _=>rfl)) (qb (jv 1) qe))))))
     (qj (jf (ja hW GW (hr.mono (by decide)) (by rfl) (qb (jv 0) qe))))))),?_⟩
   refine⟨_,rfl,l,ps,rs,rfl,g,λH1 s1=>?_⟩
   have g1:=g.mono s1
   refine⟨_,rfl,l,rfl,⟨_,.of g1.at_⟩,λD hD=>?_⟩
   refine q5 (K:=K) (a:=l) (xs:=ps.map V.ref) (λi σ' H'=>∃v,σ'=[v]/\H'=upd H1 D (.lst (((rs.take i).map (·.1)).map V.str))) ⟨none,rfl,rfl⟩ (λi σ' H' _ ⟨_,_,e⟩=>e▸.of (qk g1.at_ hD)) ?_ ?_
   . rintro i x σ' H' hx ⟨v,rfl,rfl⟩
     obtain⟨p',q',r,rfl,er,hr',a,b⟩:=g1.rows.item hx
     have hi:=(List.getElem?_eq_some_iff.mp er).1
     refine⟨_,rfl,p',_,0,_,rfl,rfl,.of (qk a hD),rfl,_,qd,?_,_,rfl,?_⟩
     . rw[List.length_map,List.length_map,List.length_take]
       have:=g.le
       exact qo (by omega)
     . rw[jw,List.take_add_one,er,List.map_append,List.map_append]
       rfl
   . rintro σ' H' ⟨v,rfl,rfl⟩
     have e:rs.take (ps.map V.ref).length=rs:=List.take_of_length_le (by rw[List.length_map,g.rows.1];exact Nat.le_refl _)
     rw[e]
     refine⟨_,rfl,D,rs.map (·.1),rfl,qd,g.good.nd,by rw[List.length_map];have:=g.le;omega,λH2 s2=>?_⟩
     have sD:Same H1 H2:=(qh hD).trans s2
     have hD2:H2 D=some (.lst ((rs.map (·.1)).map V.str)):=s2 _ _ qd
     have g2:=g1.mono sD
     refine⟨_,rfl,l,rfl,⟨_,.of g2.at_⟩,?_⟩
     refine jA (K:=K) (a:=l) (xs:=ps.map V.ref) (λi σ' H'=>∃v,σ'=[some (.ref l),some (.ref D),v]/\Same H2 H') ⟨none,rfl,Same.refl H2⟩ (λi σ' H' _ ⟨_,_,s⟩=>.of (s _ _ g2.at_)) ?_ ?_
     . rintro i x σ' H' hx ⟨v,rfl,s3⟩
       obtain⟨p',q',r,rfl,er,hr',a,b⟩:=(g2.mono s3).rows.item hx
       refine⟨_,rfl,p',_,1,_,rfl,rfl,.of a,rfl,_,rfl,q',D,r.2,rs.map (·.1),rfl,b,s3 _ _ hD2,g.good.rd r hr',g.good.to r hr',Nat.le_trans (g.good.len r hr') (by decide),λH4 s4=>⟨_,rfl,s3.trans s4⟩⟩
     . rintro σ' H' ⟨v,rfl,s3⟩
       exact⟨_,rfl,l,ps,rs,rfl,g2.mono s3,λH4 s4=>q H4 (((s1.trans sD).trans s3).trans s4)⟩
end
end Rh
set_option Elab.async false
set_option linter.all false
set_option maxRecDepth 100000
set_option maxHeartbeats 4000000
namespace Rh
open PySem L2 PyProof.Rows
abbrev Wg:Stmt:=Ji (top 20) 0
abbrev JU:Stmt:=Ji (top 20) 1
abbrev Z7:Stmt:=Ji (top 20) 2
def ji (rs:List (Str×List Str)) (r:Str×List Str):List Str:=(rs.map (·.1)).filter λz=>zB (.str z) (r.2.map V.str)
def jJ (CG:Addr) (H:Hp) (a:Addr) (rs:List (Str×List Str)):Prop:=∃(dx lo rd:Addr) (kvs:List (qN×V)),H a=some (.ins CG dx [("order",.ref lo),("roads",.ref rd)])/\H lo=some (.lst ((rs.map (·.1)).map V.str))/\H rd=some (.dK kvs)/\
 ∀r∈rs,∃q,jp kvs (Sum.inr r.1)=some (.ref q)/\H q=some (.lst ((ji rs r).map V.str))
theorem jJ.mono {CG:Addr} {H H':Hp} {a:Addr} {rs:List (Str×List Str)} (h:jJ CG H a rs) (s:Same H H'):jJ CG H' a rs:=by
 obtain⟨dx,lo,rd,kvs,h1,h2,h3,h4⟩:=h
 exact⟨dx,lo,rd,kvs,s _ _ h1,s _ _ h2,s _ _ h3,λr hr=>let ⟨q,a,b⟩:=h4 r hr;⟨q,a,s _ _ b⟩⟩
theorem jm.fr {H H':Hp} {l x C dx:Addr} {fs:List (Str×V)} {ps:List Addr} {rs:List (Str×List Str)} (h:jm H l ps rs) (hx:H x=some (.ins C dx fs)) (s:Fr H x H'):jm H' l ps rs:=by
 refine⟨s _ _ h.at_ (λe=>?_),⟨h.rows.1,λi p r e1 e2=>?_⟩,h.good,h.pos,h.le⟩
 . have:=h.at_
   rw[e,hx]at this
   cases this
 . obtain⟨q,a,b⟩:=h.rows.2 i p r e1 e2
   exact⟨q,s _ _ a (λe=>by rw[e,hx]at a;cases a),s _ _ b (λe=>by rw[e,hx]at b;cases b)⟩
structure w5 (K:PySem.W.Frag) (mg:Str->Option Value) (CG f:Addr) (fd:FuncData):Prop where
 cl:WN K CG
 mkr:Mk K CG f
 ns:mg "Ground"=some (.ref CG)
 no:j9 K CG "order"
 nr:j9 K CG "roads"
 fn:Qe K "__init__" "Ground.__init__" Wg f fd
 bi:jG K fd ["self","rows"] []
theorem nor:¬(Str.ofString "order")=Str.ofString "roads":=by decide+kernel
theorem Gd (v:V):QN (Str.ofString "order") v []=[(Str.ofString "order",v)]:=rfl
theorem Gc (v u:V):QN (Str.ofString "roads") u [(Str.ofString "order",v)]=[(Str.ofString "order",v),(Str.ofString "roads",u)]:=by
 unfold QN
 rw[if_neg nor]
 rfl
theorem Gr (v u:V):([(Str.ofString "order",v),(Str.ofString "roads",u)]:List (Str×V)).lookup (Str.ofString "order")=some v:=by simp [List.lookup]
theorem KN (v u:V):([(Str.ofString "order",v),(Str.ofString "roads",u)]:List (Str×V)).lookup (Str.ofString "roads")=some u:=by
 have e:((Str.ofString "roads")==(Str.ofString "order"))=false:=by decide+kernel
 simp [List.lookup,e]
def JP (CG:Addr):Sp:=λvs H Q _=>∃(x dx l:Addr) (ps:List Addr) (rs:List (Str×List Str)),vs=[.ref x,.ref l]/\jm H l ps rs/\H x=some (.ins CG dx [])/\∀H',jJ CG H' x rs->Fr H x H'->Q .non H'
def JN (CG:Addr):Sp:=λvs H Q _=>∃(a:Addr) (rs:List (Str×List Str)),vs=[.ref a]/\jJ CG H a rs/\∀l,H l=none->Q (.ref l) (upd H l (.lst ((rs.map (·.1)).map V.str)))
def WY (CG:Addr):Sp:=λvs H Q _=>∃(a:Addr) (rs:List (Str×List Str)) (r:Str×List Str),vs=[.ref a,.str r.1]/\jJ CG H a rs/\r∈rs/\qG r.1=true/\∀H1 l,Same H H1->H1 l=none->Q (.ref l) (upd H1 l (.lst ((ji rs r).map V.str)))
section
variable {P:Program} {w:World} {K:PySem.W.Frag} {mg:Str->Option Value} {base:Heap}
abbrev nGI:List Str:=["self","rows","row"]
theorem xV:qB nGI ["self","rows"] (qm Wg):=⟨rfl,rfl,rfl,by decide+kernel,rfl,by decide+kernel,by decide+kernel⟩
theorem zj {f fW CG:Addr} {fd fdW:FuncData} (C:w5 K mg CG f fd) (B:Zp mg) (G:Qu mg) (T:Qd K mg) (N:Y7 K mg) (hW:j0 K mg "need_rows" Jq ["rows"] fW fdW):qu P w K mg base jh 6 f fd ["self","rows"] (JP CG):=by
 have GW:qu P w K mg base jh 5 fW fdW ["rows"] Zg:=yu hW.fn B G T N
 refine C.fn.okJ xV (λvs H Q E h=>?_) (λcdv A outer s H vs Q E hr h=>?_)
 . obtain⟨x,dx,l,ps,rs,rfl,_⟩:=h
   rfl
 . obtain⟨x,dx,l,ps,rs,rfl,g,hx,q⟩:=h
   have hu:=Q1 hr
   refine⟨_,qg (jf (ja hW GW hr (by rfl) (qb (jv 1) qe)))
     (qg (vN (jv 0) (j7 (N':=["row"]) (ix:=[none]) (te:=zN (Zi K) (qL 0) (tC (.int 0))) rfl ⟨rfl,rfl,rfl,rfl,rfl⟩ (qJ (jv 1)) (λC s2 H2 fp pins=>
       ⟨qp (i:=0) (wp _) rfl (Or.inl rfl),jc,qS qR (jv 0) qi (λ_ _=>rfl)⟩)) rfl)
     (qg (vN (jv 0) zz rfl)
     (qj (jx PassesOwn.never rfl (qJ (jv 1)) (qp (i:=2) xV.nd rfl (Or.inr rfl))
       (qj (jV hu (Jz (jv 0) rfl) (qS qR (jv 2) qi (λ_ _=>rfl))
         (j7 (N':=["name","row"]) (ix:=[none,some 2]) (tt:=Xh (zN (KM K false) (qL 0) (zN (Zi K) (qL 1) (tC (.int 1))))) rfl ⟨rfl,rfl,rfl,rfl,rfl⟩ (qJ (Jz (jv 0) rfl)) (λC s2 H2 fp pins=>
           ⟨qp (i:=0) (show (["name","row"]:List Str).Nodup by decide+kernel) rfl (Or.inl rfl),J3 (qt Yb (jv 0) (qS qR (jv 1) qi (λ_ _=>rfl)) (by with_unfolding_all rfl)),jv 0⟩)) rfl)))))),?_⟩
   refine⟨_,rfl,l,ps,rs,rfl,g,λH1 s1=>?_⟩
   have g1:=g.mono s1
   have fr1:Fr H x H1:=λb u h _=>s1 _ _ h
   have hx1:=s1 _ _ hx
   refine⟨_,rfl,l,rfl,⟨_,.of g1.at_⟩,λlo hlo=>?_⟩
   have nlx:lo≠x:=λe=>by rw[e,hx1]at hlo;cases hlo
   refine q5 (K:=K) (a:=l) (xs:=ps.map V.ref) (λi σ' H'=>∃v,σ'=[v]/\H'=upd H1 lo (.lst (((rs.take i).map (·.1)).map V.str))) ⟨none,rfl,rfl⟩ (λi σ' H' _ ⟨_,_,e⟩=>e▸.of (qk g1.at_ hlo)) ?_ ?_
   . rintro i y σ' H' hy ⟨v,rfl,rfl⟩
     obtain⟨p',q',r,rfl,er,hr',a,b⟩:=g1.rows.item hy
     have hi:=(List.getElem?_eq_some_iff.mp er).1
     refine⟨_,rfl,p',_,0,_,rfl,rfl,.of (qk a hlo),rfl,_,qd,?_,_,rfl,?_⟩
     . rw[List.length_map,List.length_map,List.length_take]
       have:=g.le
       exact qo (by omega)
     . rw[jw,List.take_add_one,er,List.map_append,List.map_append]
       rfl
   rintro σ' H' ⟨v,rfl,rfl⟩
   have e:rs.take (ps.map V.ref).length=rs:=List.take_of_length_le (by rw[List.length_map,g.rows.1];exact Nat.le_refl _)
   rw[e]
   have fr2:Fr H x (upd H1 lo (.lst ((rs.map (·.1)).map V.str))):=fr1.new hlo
   have hlo2:upd H1 lo (.lst ((rs.map (·.1)).map V.str)) lo=some (.lst ((rs.map (·.1)).map V.str)):=qd
   have hx2:upd H1 lo (.lst ((rs.map (·.1)).map V.str)) x=some (.ins CG dx []):=qk hx1 hlo
   generalize upd H1 lo (.lst ((rs.map (·.1)).map V.str))=H2 at fr2 hlo2 hx2
   refine⟨_,rfl,x,CG,dx,[],rfl,hx2,C.cl,C.no,by decide,?_⟩
   rw[Gd]
   intro rd hrd
   have nrx:rd≠x:=λe=>by rw[e,qd]at hrd;cases hrd
   have hrd2:H2 rd=none:=by rw[qf nrx]at hrd;exact hrd
   have nrl:rd≠lo:=λe=>by rw[e,hlo2]at hrd2;cases hrd2
   have hHr:H rd=none:=fr2.fresh hx2 hrd2
   refine⟨_,rfl,x,CG,dx,_,rfl,qk qd hrd,C.cl,C.nr,by show 1 < 1000;decide,?_⟩
   rw[Gc]
   have fr5:Fr H x (upd (upd (upd H2 x (.ins CG dx [("order",.ref lo)])) rd (.dK [])) x (.ins CG dx [("order",.ref lo),("roads",.ref rd)])):=((fr2.at_d).own hHr).at_d
   have g5:=g.fr hx fr5
   refine⟨_,rfl,l,rfl,⟨_,.of g5.at_⟩,?_⟩
   refine jA (K:=K) (a:=l) (xs:=ps.map V.ref) (λi σ' H'=>∃v kvs,σ'=[some (.ref x),some (.ref l),v]/\H' x=some (.ins CG dx [("order",.ref lo),("roads",.ref rd)])/\H' lo=some (.lst ((rs.map (·.1)).map V.str))/\H' rd=some (.dK kvs)/\
     kvs.map (·.1)=((rs.map (·.1)).take i).map Sum.inr/\(∀r∈rs.take i,∃q,jp kvs (Sum.inr r.1)=some (.ref q)/\H' q=some (.lst ((ji rs r).map V.str)))/\Fr H x H')
     ⟨none,[],rfl,qd,?_,?_,rfl,λr h=>(nomatch h),fr5⟩ (λi σ' H' _ ⟨_,_,_,_,_,_,_,_,fr⟩=>.of (g.fr hx fr).at_) ?_ ?_
   . rw[qf nlx,qf (Ne.symm nrl),qf nlx]
     exact hlo2
   . rw[qf nrx]
     exact qd
   . rintro i y σ' H' hy ⟨v,kvs,rfl,hx',hlo',hrd',ek,hv,fr⟩
     have g':=g.fr hx fr
     obtain⟨p,qq,r,rfl,er,hr',a,b⟩:=g'.rows.item hy
     have hi:=(List.getElem?_eq_some_iff.mp er).1
     have hle:=g.le
     refine⟨_,rfl,x,CG,dx,_,_,rfl,hx',C.cl,C.no,Gr _ _,lo,rfl,⟨_,.of hlo'⟩,λD hD=>?_⟩
     refine q5 (K:=K) (a:=lo) (xs:=(rs.map (·.1)).map V.str) (λj σ'' H''=>∃v0,σ''=[v0,some (.ref p)]/\H''=upd H' D (.lst ((((rs.map (·.1)).take j).filter λz=>zB (.str z) (r.2.map V.str)).map V.str))) ⟨none,rfl,rfl⟩
       (λj σ'' H'' _ ⟨_,_,e⟩=>e▸.of (qk hlo' hD)) ?_ ?_
     . rintro j y σ'' H'' hy ⟨v0,rfl,rfl⟩
       rw[List.getElem?_map]at hy
       cases e:(rs.map (·.1))[j]? with
       | none=>rw[e]at hy;cases hy
       | some z=>
         rw[e]at hy
         obtain rfl:=(Option.some.inj hy).symm
         refine⟨_,rfl,_,rfl,p,_,1,_,rfl,rfl,.of (qk a hD),rfl,qq,_,rfl,.inr (.of (qk b hD)),rfl,QK _,_,rfl,?_⟩
         have et:((rs.map (·.1)).take (j+1)).filter (λz=>zB (.str z) (r.2.map V.str))=((rs.map (·.1)).take j).filter (λz=>zB (.str z) (r.2.map V.str))++if zB (.str z) (r.2.map V.str)=true then [z] else []:=by
           rw[List.take_add_one,e,List.filter_append]
           congr 1
           cases ei:zB (.str z) (r.2.map V.str)
           . simp [ei]
           . simp [ei]
         rw[et]
         show if zB (.str z) (r.2.map V.str)=true then _ else _
         cases ei:zB (.str z) (r.2.map V.str) with
         | true=>
           refine YS ⟨_,rfl,_,qd,?_,_,rfl,?_⟩
           . rw[List.length_map]
             refine qo (Nat.le_trans (List.length_filter_le _ _) ?_)
             rw[List.length_take,List.length_map]
             omega
           . rw[jw,if_pos rfl,List.map_append]
             rfl
         | false=>
           refine jR ⟨_,rfl,?_⟩
           rw[if_neg Bool.false_ne_true,List.append_nil]
     . rintro σ'' H'' ⟨v0,rfl,rfl⟩
       have ed:((rs.map (·.1)).take ((rs.map (·.1)).map V.str).length).filter (λz=>zB (.str z) (r.2.map V.str))=ji rs r:=by
         rw[List.length_map,List.take_of_length_le (Nat.le_refl _)]
         rfl
       rw[ed]
       have nD:∀{c:Addr} {o:HO},H' c=some o->c≠D:=λh e=>by rw[e,hD]at h;cases h
       have en:(rs.map (·.1))[i]?=some r.1:=by rw[List.getElem?_map,er];rfl
       have ez:jp kvs (Sum.inr r.1:qN)=none:=JM (by rw[ek];exact Zk g.good.nd en)
       have lk:kvs.length < sizeLine:=by
         have:=congrArg List.length ek
         rw[List.length_map,List.length_map,List.length_take,List.length_map]at this
         exact qo (by omega)
       refine⟨_,rfl,x,CG,dx,_,_,rfl,qk hx' hD,C.cl,C.nr,KN _ _,_,rfl,p,_,0,_,rfl,rfl,.of (qk a hD),rfl,rd,_,rfl,Jp.k (k:=(Sum.inr r.1:qN)) (qk hrd' hD) lk,?_⟩
       refine⟨_,jL kvs (Sum.inr r.1) (.ref D),rfl,?_,?_,qd,?_,λr' hr2=>?_,?_⟩
       . rw[qf (Ne.symm nrx)];exact qk hx' hD
       . rw[qf (Ne.symm nrl)];exact qk hlo' hD
       . rw[YG _ ez,ek,List.take_add_one,en,List.map_append]
         rfl
       . rw[List.take_add_one,er]at hr2
         rcases List.mem_append.mp hr2 with h | h
         . obtain⟨q1,a1,b1⟩:=hv r' h
           refine⟨q1,?_,?_⟩
           . rw[Xe,if_neg]
             . exact a1
             . intro z
               rw[z,ez]at a1
               cases a1
           . have n1:q1≠rd:=λe=>by rw[e,hrd']at b1;cases b1
             rw[qf n1]
             exact qk b1 hD
         . have er':r'=r:=by simpa using h
           subst er'
           refine⟨D,?_,?_⟩
           . rw[Xe,if_pos rfl]
           . rw[qf (Ne.symm (nD hrd'))]
             exact qd
       . exact(fr.new hD).own hHr
   . rintro σ' H' ⟨v,kvs,rfl,hx',hlo',hrd',ek,hv,fr⟩
     have e:rs.take (ps.map V.ref).length=rs:=List.take_of_length_le (by rw[List.length_map,g.rows.1];exact Nat.le_refl _)
     rw[e]at hv
     exact q H' ⟨dx,lo,rd,kvs,hx',hlo',hrd',hv⟩ fr
theorem K7:qB ["self"] ["self"] (qm JU):=⟨rfl,rfl,rfl,by decide+kernel,rfl,by decide+kernel,by decide+kernel⟩
theorem Yc {f fI CG:Addr} {fd fdI:FuncData} (F:Qe K "names" "Ground.names" JU f fd) (C:w5 K mg CG fI fdI) (G:Qu mg):qu P w K mg base jh 1 f fd ["self"] (JN CG):=by
 refine F.okJ K7 (λvs H Q E h=>?_) (λcdv A outer s H vs Q E hr h=>?_)
 . obtain⟨a,rs,rfl,_⟩:=h
   rfl
 . obtain⟨a,rs,rfl,⟨dx,lo,rd,kvs,h1,h2,h3,h4⟩,q⟩:=h
   refine⟨_,qj (qP (jq Qk (by rfl) G.lst boot_list (qb (Jz (jv 0) rfl) qe))),?_⟩
   exact⟨_,rfl,a,CG,dx,_,_,rfl,h1,C.cl,C.no,Gr _ _,lo,_,rfl,.inl (.of h2),q⟩
abbrev Gp:List Str:=["self","name"]
theorem K8:qB Gp Gp (qm Z7):=⟨rfl,rfl,rfl,by decide+kernel,rfl,by decide+kernel,by decide+kernel⟩
theorem vx {f fI fN CG:Addr} {fd fdI fdN:FuncData} (F:Qe K "roads_from" "Ground.roads_from" Z7 f fd) (C:w5 K mg CG fI fdI) (B:Zp mg) (G:Qu mg) (T:Qd K mg) (hN:j0 K mg "is_name" Jr ["thing"] fN fdN):qu P w K mg base jh 2 f fd Gp (WY CG):=by
 have GN:qu P w K mg base jh 1 fN fdN ["thing"] k8:=YK hN.fn B T
 refine F.okJ K8 (λvs H Q E h=>?_) (λcdv A outer s H vs Q E hr h=>?_)
 . obtain⟨a,rs,r,rfl,_⟩:=h
   rfl
 . obtain⟨a,rs,r,rfl,gr,hr',hn,q⟩:=h
   have hu:=Q1 hr
   refine⟨_,qg (qU (Qi (Qb (jY (ja hN GN hr (by rfl) (qb (jv 1) qe)))) (j5 (YO (Ua hu (jv 1) (Jz (jv 0) rfl))))).pt qM qz)
     (qj (qP (jq Qk (by rfl) G.lst boot_list (qb (jF hu (Jz (jv 0) rfl) (jv 1) (λ_ _=>rfl)) qe)))),?_⟩
   refine⟨_,rfl,r.1,rfl,hn,λH1 s1=>⟨_,rfl,jR ?_⟩⟩
   obtain⟨dx,lo,rd,kvs,h1,h2,h3,h4⟩:=gr.mono s1
   obtain⟨qq,hv,hq⟩:=h4 r hr'
   have gz:jK H1 rd (.str r.1) (some (.ref qq)):=by
     have:=jK.k (k:=(Sum.inr r.1:qN)) h3
     rw[hv]at this
     exact this
   refine⟨_,rfl,_,rfl,a,CG,dx,_,_,rfl,h1,C.cl,C.nr,KN _ _,rd,_,rfl,gz,_,rfl,jR ?_⟩
   exact⟨_,rfl,a,CG,dx,_,_,rfl,h1,C.cl,C.nr,KN _ _,_,rfl,rd,_,rfl,gz,qq,_,rfl,.inl (.of hq),λl hl=>q H1 l s1 hl⟩
end
end Rh
set_option Elab.async false
set_option linter.all false
set_option maxRecDepth 100000
set_option maxHeartbeats 4000000
namespace Rh
open PySem L2 PyProof.Rows
abbrev Xn:Stmt:=top 23
abbrev UX:Stmt:=top 24
abbrev UY:Stmt:=top 25
abbrev Xm:Stmt:=top 26
abbrev w6:Stmt:=top 34
abbrev uH:Stmt:=top 35
abbrev ub:Stmt:=top 36
abbrev w9:Stmt:=top 37
abbrev VN:Stmt:=top 38
abbrev KL:Stmt:=top 39
abbrev U1:Stmt:=top 40
abbrev uG:Stmt:=top 41
abbrev Jy:Stmt:=Ji (top 20) 3
abbrev Z2:Stmt:=Ji (top 4) 0
abbrev jQ:Stmt:=Ji (top 5) 0
abbrev ju:=List (Str×List Str)
def uf (rs:ju) (z:Str):List Str:=match rs.find? (λr=>decide (r.1=z)) with
 | some r=>ji rs r
 | none=>[]
theorem XE:∀{rs:ju} {r:Str×List Str},(rs.map (·.1)).Nodup->r∈rs->rs.find? (λq=>decide (q.1=r.1))=some r
 | a::rs,r,hn,h=>by
   rw[List.map_cons,List.nodup_cons]at hn
   rcases List.mem_cons.mp h with rfl | h
   . simp [List.find?_cons]
   . have:¬a.1=r.1:=λe=>hn.1 (e▸List.mem_map.mpr ⟨r,h,rfl⟩)
     simp only[List.find?_cons,decide_eq_false this]
     exact XE hn.2 h
theorem Qy {rs:ju} {r:Str×List Str} (hn:(rs.map (·.1)).Nodup) (h:r∈rs):uf rs r.1=ji rs r:=by
 unfold uf
 rw[XE hn h]
theorem JX {rs:ju} {r:Str×List Str} {y:Str} (h:y∈ji rs r):∃r'∈rs,r'.1=y:=by
 obtain⟨r',h1,h2⟩:=List.mem_map.mp (List.mem_filter.mp h).1
 exact⟨r',h1,h2⟩
theorem ZP {z:Str} {zs:List Str}:zB (.str z) (zs.map V.str)=true↔z∈zs:=by
 refine⟨λh=>?_,Vk⟩
 unfold zB at h
 obtain⟨y,hy,e⟩:=List.any_eq_true.mp h
 obtain⟨x,hx,rfl⟩:=List.mem_map.mp hy
 have e':(x==z)=true:=e
 rw[beq_iff_eq]at e'
 exact e'▸hx
theorem U3 {rs:ju} (g:qv rs) {r:Str×List Str} (h:r∈rs) {y:Str}:y∈ji rs r↔y∈r.2:=by
 unfold ji
 rw[List.mem_filter,ZP]
 exact⟨λz=>z.2,λz=>⟨g.to r h y z,z⟩⟩
theorem Yg:∀{more kvs:List (qN×V)},(more.map (·.1)).Nodup->(∀k∈more.map (·.1),¬k∈kvs.map (·.1))->Qg kvs more=kvs++more
 | [],kvs,_,_=>(List.append_nil _).symm
 | p::more,kvs,hn,h=>by
   rw[List.map_cons,List.nodup_cons]at hn
   have e:jp kvs p.1=none:=JM (h p.1 (by simp))
   show Qg (jL kvs p.1 p.2) more=_
   rw[zc p.2 e,Yg hn.2]
   . rw[List.append_assoc]
     rfl
   . intro k hk m
     rw[List.map_append]at m
     rcases List.mem_append.mp m with m | m
     . exact h k (by rw[List.map_cons];exact List.mem_cons_of_mem _ hk) m
     . have:k=p.1:=by simpa using m
       subst this
       exact hn.1 hk
structure kH (K:PySem.W.Frag) (C:Addr) (m qual:Str) (st:Stmt) (ps:List Str) (f:Addr) (fd:FuncData):Prop where
 fn:Qe K m qual st f fd
 me:Uv K C m f
 bi:jG K fd ps []
theorem zx {X:Cx} {C f:Addr} {fd:FuncData} {m qual:Str} {st:Stmt} {ps:List Str} {k:Nat} {sp:Sp} {o:Expr} {ta:TE} {apos pos:Pos} {pl:Sem Bool} (h:kH X.K C m qual st ps f fd) (c:WN X.K C) (G:qu X.prog X.w X.K X.mg X.base jh k f fd ps sp) (hr:qW k X.A) (he:JE X o ta)
   (ht:eval (.Call (.Attribute o m apos) [] [] pos) X.env=(do
     let ov <-eval o X.env
     standAt apos.atName
     let (f,first) <-holding [ov] (getMethod ov m pl)
     callWith pos f first (backTo pos (starEach [] X.env)) (backToKw pos (keywordEach [] X.env))):=by rfl):
   JE X (.Call (.Attribute o m apos) [] [] pos) (ZW C m sp [] E0 ta jH):=vS he c h.me G hr h.bi .nil JY ht
theorem xu {X:Cx} {C f:Addr} {fd:FuncData} {m qual:Str} {st:Stmt} {ps:List Str} {k:Nat} {sp:Sp} {o e:Expr} {es:List Expr} {ta:TE} {t:TA} {apos pos:Pos} {pl:Sem Bool} (h:kH X.K C m qual st ps f fd) (c:WN X.K C) (G:qu X.prog X.w X.K X.mg X.base jh k f fd ps sp) (hr:qW k X.A) (he:JE X o ta) (ha:JA X (e::es) t)
   (hst:starEach (e::es) X.env=(false,eval e X.env)::starEach es X.env:=by rfl) (hpl:(backTo pos (starEach es X.env)).any (·.1)=false:=by rfl)
   (ht:eval (.Call (.Attribute o m apos) (e::es) [] pos) X.env=(do
     let ov <-eval o X.env
     standAt apos.atName
     let (f,first) <-holding [ov] (getMethod ov m pl)
     callWith pos f first (backTo pos (starEach (e::es) X.env)) (backToKw pos (keywordEach [] X.env))):=by rfl):
   JE X (.Call (.Attribute o m apos) (e::es) [] pos) (ZW C m sp [] E0 ta t):=yN he c h.me G hr h.bi .nil JY ha hst hpl ht
structure GM (K:PySem.W.Frag) (mg:Str->Option Value) (CG:Addr):Prop where
 cls:∃f fd,w5 K mg CG f fd
 nm:∃f fd,kH K CG "names" "Ground.names" JU ["self"] f fd
 fr:∃f fd,kH K CG "roads_from" "Ground.roads_from" Z7 ["self","name"] f fd
 isn:∃f fd,j0 K mg "is_name" Jr ["thing"] f fd
theorem jJ.ins {CG:Addr} {H:Hp} {a:Addr} {rs:ju} (h:jJ CG H a rs):∃dx fs,H a=some (.ins CG dx fs)/\fs.lookup (Str.ofString "names")=none/\fs.lookup (Str.ofString "roads_from")=none:=by
 obtain⟨dx,lo,rd,kvs,h1,_⟩:=h
 refine⟨dx,_,h1,?_,?_⟩
 . have e1:((Str.ofString "names")==(Str.ofString "order"))=false:=by decide+kernel
   have e2:((Str.ofString "names")==(Str.ofString "roads"))=false:=by decide+kernel
   simp only[List.lookup]
   rw[e1,e2]
 . have e1:((Str.ofString "roads_from")==(Str.ofString "order"))=false:=by decide+kernel
   have e2:((Str.ofString "roads_from")==(Str.ofString "roads"))=false:=by decide+kernel
   simp only[List.lookup]
   rw[e1,e2]
theorem Qw {zs:List Str} {i:Nat} {y:V} (h:(zs.map V.str)[i]?=some y):∃z,zs[i]?=some z/\z∈zs/\y=.str z:=by
 rw[List.getElem?_map]at h
 cases e:zs[i]? with
 | none=>rw[e]at h;cases h
 | some z=>rw[e]at h;exact⟨z,rfl,List.mem_of_getElem? e,(Option.some.inj h).symm⟩
theorem Wi {rs:ju} (r:Str×List Str):(ji rs r).length<=rs.length:=by
 have:=List.length_filter_le (λz=>zB (.str z) (r.2.map V.str)) (rs.map (·.1))
 rwa [List.length_map]at this
theorem jM {c:Bool} {A B:Prop} (hc:c=false) (h:B):if c=true then A else B:=by
 rw[hc]
 exact jR h
theorem jW {c:Bool} {A B:Prop} (hc:c=true) (h:A):if c=true then A else B:=by
 rw[if_pos hc]
 exact h
theorem kO {kvs:List (qN×V)}:∀{i:Nat} {k:qN} {v:V},(kvs.map (·.1)).Nodup->kvs[i]?=some (k,v)->jp kvs k=some v:=by
 induction kvs with
 | nil=>intro i k v _ e;simp at e
 | cons p r ih=>
   intro i k v hn e
   rw[List.map_cons,List.nodup_cons]at hn
   cases i with
   | zero=>
     rw[List.getElem?_cons_zero]at e
     obtain rfl:=Option.some.inj e
     exact je rfl
   | succ i=>
     rw[List.getElem?_cons_succ]at e
     have:¬p.1=k:=λz=>hn.1 (z▸List.mem_map.mpr ⟨_,List.mem_of_getElem? e,rfl⟩)
     rw[qZ this]
     exact ih hn.2 e
theorem W5 {H:Hp}:∀(ps:List Addr) (rs:ju),qH H ps rs->∃qs:List Addr,qs.length=rs.length/\∀(i:Nat) (p q:Addr) (r:Str×List Str),ps[i]?=some p->rs[i]?=some r->qs[i]?=some q->H p=some (.tup [.str r.1,.ref q])/\H q=some (.tup (r.2.map V.str))
 | [],[],_=>⟨[],rfl,λi p q r e=>by simp at e⟩
 | [],_::_,h=>by cases h.1
 | _::_,[],h=>by cases h.1
 | p::ps,r::rs,h=>by
   obtain⟨qs,l,k⟩:=W5 ps rs ⟨Nat.succ.inj h.1,λi a b e1 e2=>h.2 (i+1) a b (by simpa using e1) (by simpa using e2)⟩
   obtain⟨q,a,b⟩:=h.2 0 p r rfl rfl
   refine⟨q::qs,by simp [l],λi p' q' r' e1 e2 e3=>?_⟩
   cases i with
   | zero=>cases e1;cases e2;cases e3;exact⟨a,b⟩
   | succ i=>exact k i p' q' r' (by simpa using e1) (by simpa using e2) (by simpa using e3)
def Xz (rs:ju) (qs:List Addr):List (qN×V):=List.zipWith (λr q=>((Sum.inr r.1:qN),V.ref q)) rs qs
theorem Jh:∀{rs:ju} {qs:List Addr},qs.length=rs.length->(Xz rs qs).map (·.1)=(rs.map (·.1)).map Sum.inr
 | [],[],_=>rfl
 | [],_::_,h=>by cases h
 | _::_,[],h=>by cases h
 | r::rs,q::qs,h=>by
   show Sum.inr r.1::(Xz rs qs).map (·.1)=_
   rw[Jh (Nat.succ.inj h)]
   rfl
theorem zr {rs:ju} {qs:List Addr} (h:qs.length=rs.length):(Xz rs qs).length=rs.length:=by
 have:=congrArg List.length (Jh h)
 simpa using this
theorem Vi {rs:ju} {qs:List Addr} (h:qs.length=rs.length) {i:Nat} {r:Str×List Str} (e:rs[i]?=some r):∃q,qs[i]?=some q/\(Xz rs qs)[i]?=some (Sum.inr r.1,.ref q):=by
 have hi:i < qs.length:=by rw[h];exact(List.getElem?_eq_some_iff.mp e).1
 refine⟨qs[i],List.getElem?_eq_getElem hi,?_⟩
 unfold Xz
 rw[List.getElem?_zipWith,e,List.getElem?_eq_getElem hi]
theorem vK {rs:ju} {qs:List Addr} (h:qs.length=rs.length) {i:Nat} {kv:qN×V} (e:(Xz rs qs)[i]?=some kv):∃r q,rs[i]?=some r/\qs[i]?=some q/\kv=(Sum.inr r.1,.ref q):=by
 have hi:i < rs.length:=by rw[<-zr h];exact(List.getElem?_eq_some_iff.mp e).1
 obtain⟨q,e1,e2⟩:=Vi h (List.getElem?_eq_getElem hi)
 rw[e2]at e
 exact⟨_,q,List.getElem?_eq_getElem hi,e1,(Option.some.inj e).symm⟩
theorem zm {σ:L2.St} {H:Hp} {Q:List V->Hp->Prop} (h:Q [] H):jH σ H Q:=h
theorem Qm {H H':Hp} {a:Addr} (s:Same H H') (h:H' a=none):H a=none:=by
 cases z:H a with
 | none=>rfl
 | some u=>rw[s _ _ z]at h;cases h
theorem Wp {z:Str} (h:qG z=true):(∀c∈z.cps.toList,c<=122)/\z.length<=8/\1<=z.length:=by
 unfold qG at h
 simp only[Bool.and_eq_true,decide_eq_true_eq]at h
 refine⟨λc hc=>?_,h.1.2,h.1.1⟩
 have:=List.all_eq_true.mp h.2 c hc
 unfold jC at this
 simp only[Bool.and_eq_true,decide_eq_true_eq]at this
 exact this.2
theorem JZ {z:Str} (h:qG z=true):PyData.strOk z=true:=by
 unfold PyData.strOk
 rw[Array.all_eq_true_iff_forall_mem]
 intro c hc
 have:=(Wp h).1 c (by simpa using hc)
 exact decide_eq_true (by omega)
def dL (zs:List Str):PyData:=.list (zs.map PyData.str)
theorem XU {K:PySem.W.Frag} {H:Hp}:∀zs:List Str,DVs K H (zs.map V.str) (zs.map PyData.str)
 | []=>.nil
 | z::zs=>.cons (.str z) (XU zs)
theorem GU {K:PySem.W.Frag} {H:Hp} {p:Addr} {zs:List Str} (h:H p=some (.lst (zs.map V.str))):DV K H (.ref p) (dL zs):=.lst (.of h) (XU zs)
theorem Kx:∀{zs:List Str},(∀z∈zs,qG z=true)->PyData.canLayAll0 (zs.map PyData.str)=true
 | [],_=>rfl
 | z::zs,h=>by
   rw[List.map_cons,PyData.canLayAll0,Kx λy hy=>h y (List.mem_cons_of_mem _ hy),Bool.and_true]
   exact JZ (h z List.mem_cons_self)
theorem Kt:∀zs:List Str,PyData.depthAll (zs.map PyData.str)=0
 | []=>rfl
 | z::zs=>by
   rw[List.map_cons]
   simp only[PyData.depthAll,PyData.depth,Kt zs]
   rfl
theorem kN {kvs:List (qN×V)} {ls:List Str} (h:kvs.map (·.1)=ls.map Sum.inr) {y:Str}:(jp kvs (Sum.inr y:qN)).isSome=true↔y∈ls:=by
 constructor
 . intro c
   obtain⟨v,e⟩:=Option.isSome_iff_exists.mp c
   have:=WP e
   rw[h]at this
   obtain⟨x,hx,ex⟩:=List.mem_map.mp this
   exact Sum.inr.inj ex▸hx
 . intro c
   cases e:jp kvs (Sum.inr y:qN) with
   | some v=>rfl
   | none=>
     exfalso
     have m:(Sum.inr y:qN)∈kvs.map (·.1):=by rw[h];exact List.mem_map.mpr ⟨y,c,rfl⟩
     obtain⟨x,hx,ex⟩:=List.mem_map.mp m
     have a:(kvs.any λkv=>decide (kv.1=(Sum.inr y:qN)))=true:=List.any_eq_true.mpr ⟨x,hx,decide_eq_true ex⟩
     rw[Qp,e]at a
     cases a
theorem zF {K:PySem.W.Frag} {H:Hp} {l:Addr} {ps:List Addr} {rs:ju} (g:jm H l ps rs) {Q:VK}
   (q:∀dd kvs,H dd=none->kvs.map (·.1)=(rs.map (·.1)).map Sum.inr->(∀r∈rs,∃t,jp kvs (Sum.inr r.1:qN)=some (.ref t)/\H t=some (.tup (r.2.map V.str)))->Q (.ref dd) (upd H dd (.dK kvs))):Wj K [.ref l] H Q:=by
 obtain⟨qs,lq,hqs⟩:=W5 ps rs g.rows
 have le:=g.le
 refine⟨l,ps,Xz rs qs,rfl,.of g.at_,by rw[zr lq,g.rows.1],λi a kv e1 e2=>?_,by rw[zr lq];omega,λdd hdd=>?_⟩
 . obtain⟨r',q',f1,f2,rfl⟩:=vK lq e2
   exact .of (hqs i a q' r' e1 f1 f2).1
 have nk:((Xz rs qs).map (·.1)).Nodup:=by
   rw[Jh lq]
   exact Jf g.good.nd λa _ b _ e=>Sum.inr.inj e
 rw[Yg nk (λk _ m=>by simp at m),List.nil_append]
 refine q dd _ hdd (Jh lq) λr hr=>?_
 obtain⟨i0,hi0⟩:=List.getElem?_of_mem hr
 obtain⟨q0,eq0,ekv⟩:=Vi lq hi0
 have hi0':=(List.getElem?_eq_some_iff.mp hi0).1
 exact⟨q0,kO nk ekv,(hqs i0 _ q0 r (List.getElem?_eq_getElem (by rw[g.rows.1];exact hi0')) hi0 eq0).2⟩
def jt (rs:ju):ju:=rs.map λr=>(r.1,ji rs r)
abbrev uJ (K:PySem.W.Frag):List V->Hp->VK->Prop:=λxs H Q=>∃p ys,xs=[.ref p]/\((SqL K H p ys/\∀l,H l=none->Q (.ref l) (upd H l (.tup ys)))\/(Zc K H p ys/\Q (.ref p) H))
def Yz (CG:Addr):Sp:=λvs H Q _=>∃(a:Addr) (rs:ju),vs=[.ref a]/\jJ CG H a rs/\rs.length<=14/\∀l ps H',Same H H'->H l=none->H' l=some (.lst (ps.map V.ref))->qH H' ps (jt rs)->Q (.ref l) H'
section
variable {P:Program} {w:World} {K:PySem.W.Frag} {mg:Str->Option Value} {base:Heap}
theorem K6:qB ["self"] ["self"] (qm Jy):=⟨rfl,rfl,rfl,by decide+kernel,rfl,by decide+kernel,by decide+kernel⟩
theorem Xt {f fI CG:Addr} {fd fdI:FuncData} (F:Qe K "rows" "Ground.rows" Jy f fd) (C:w5 K mg CG fI fdI) (G:Qu mg):qu P w K mg base jh 1 f fd ["self"] (Yz CG):=by
 refine F.okJ K6 (λvs H Q E h=>?_) (λcdv A outer s H vs Q E hr h=>?_)
 . obtain⟨a,rs,rfl,_⟩:=h
   rfl
 . obtain⟨a,rs,rfl,gr,le14,q⟩:=h
   have hu:=Q1 hr
   refine⟨_,qj (qP (j7 (N':=["name","self"]) (ix:=[none,some 0]) (te:=Ju (qI (qL 0) (qI (Uw (uJ K) (qI (z0 (ut K (qL 1) "roads") (qL 0)) jH)) jH))) rfl ⟨rfl,rfl,rfl,rfl,rfl⟩ (qJ (Jz (jv 0) rfl)) (λC s2 H2 fp pins=>
       ⟨qp (i:=0) (show (["name","self"]:List Str).Nodup by decide+kernel) rfl (Or.inl rfl),jc,jd (qb (jv 0) (qb (jq QE (by rfl) G.tup boot_tuple (qb (jF hu (Jz (jv 1) rfl) (jv 0) (λ_ _=>rfl)) qe)) qe))⟩))),?_⟩
   obtain⟨dx,lo,rd,kvs,h1,h2,h3,h4⟩:=gr
   refine⟨_,rfl,a,CG,dx,_,_,rfl,h1,C.cl,C.no,Gr _ _,lo,rfl,⟨_,.of h2⟩,λD hD=>?_⟩
   refine q5 (K:=K) (a:=lo) (xs:=(rs.map (·.1)).map V.str) (λi σ' X=>∃(v:Option V) (ps:List Addr),σ'=[v,some (.ref a)]/\Same H X/\X D=some (.lst (ps.map V.ref))/\qH X ps ((rs.take i).map λr=>(r.1,ji rs r)))
     ⟨none,[],rfl,qh hD,qd,rfl,λi p r e=>(nomatch e)⟩ (λi σ' X _ ⟨_,_,_,s,_⟩=>.of (s _ _ h2)) ?_ ?_
   . rintro i y σ' X hy ⟨v,ps,rfl,sX,hX,rat⟩
     rw[List.getElem?_map,List.getElem?_map]at hy
     cases er:rs[i]? with
     | none=>rw[er]at hy;cases hy
     | some r=>
       rw[er]at hy
       obtain rfl:=(Option.some.inj hy).symm
       have hr':=List.mem_of_getElem? er
       have hi:=(List.getElem?_eq_some_iff.mp er).1
       obtain⟨qq,hv,hq⟩:=h4 r hr'
       have gz:jK X rd (.str r.1) (some (.ref qq)):=by
         have:=jK.k (k:=(Sum.inr r.1:qN)) (sX _ _ h3)
         rw[hv]at this
         exact this
       refine⟨_,rfl,_,rfl,a,CG,dx,_,_,rfl,sX _ _ h1,C.cl,C.nr,KN _ _,_,rfl,rd,_,rfl,gz,qq,_,rfl,.inl ⟨.of (sX _ _ hq),λp2 hp2=>⟨by show 2<=sizeLine;decide,λp3 hp3=>?_⟩⟩⟩
       have a3:Same X (upd (upd X p2 (.tup ((ji rs r).map V.str))) p3 (.tup [.str r.1,.ref p2])):=(qh hp2).trans (qh hp3)
       have b2:upd (upd X p2 (.tup ((ji rs r).map V.str))) p3 (.tup [.str r.1,.ref p2]) p2=some (.tup ((ji rs r).map V.str)):=qk qd hp3
       have b3:upd (upd X p2 (.tup ((ji rs r).map V.str))) p3 (.tup [.str r.1,.ref p2]) p3=some (.tup [.str r.1,.ref p2]):=qd
       generalize upd (upd X p2 (.tup ((ji rs r).map V.str))) p3 (.tup [.str r.1,.ref p2])=X3 at a3 b2 b3
       have hX3:=a3 _ _ hX
       have lps:=rat.1
       rw[List.length_map,List.length_take]at lps
       refine⟨_,hX3,by rw[List.length_map];exact qo (by omega),_,ps++[p3],rfl,Same.upd (sX.trans a3) hD,by rw[List.map_append];exact qd,?_⟩
       rw[List.take_add_one,er,List.map_append]
       refine qH.upd_lst ?_ hX3
       exact qH.snoc (q:=p2) (rat.mono a3) b3 b2
   . rintro σ' X ⟨v,ps,rfl,sX,hX,rat⟩
     have e0:rs.take ((rs.map (·.1)).map V.str).length=rs:=List.take_of_length_le (by rw[List.length_map,List.length_map];exact Nat.le_refl _)
     rw[e0]at rat
     exact q D ps X sX hD hX rat
end
structure Vz (K:PySem.W.Frag) (mg:Str->Option Value) (D:Addr) (x qual:Str) (st:Stmt) (fld:Str) (C f:Addr) (fd:FuncData):Prop where
 cls:Ze K C (.ref D::j4)
 mkr:um K C f (.ref D::j4)
 ns:mg x=some (.ref C)
 na:j9 K C fld
 fn:Qe K "__init__" qual st f fd
 bi:jG K fd ["self",fld] []
theorem uX (D:Addr):Wm (.ref D::j4):=rfl
theorem V6 (D:Addr):(Value.ref D::j4).contains (.type "BaseException")=true:=rfl
theorem Vz.rcls {K:PySem.W.Frag} {mg:Str->Option Value} {D C f:Addr} {x qual fld:Str} {st:Stmt} {fd:FuncData} (h:Vz K mg D x qual st fld C f fd):wS K C:=⟨f,_,h.mkr,V6 D⟩
def xN (C:Addr) (fld:Str):Sp:=λvs H Q _=>∃e y,vs=[.ref e,y]/\H e=some (J8 e C)/\∀dx,H dx=none->Q .non (upd (upd H e (QL e C dx)) dx (.xd [(fld,y)]))
theorem Qx {H:Hp} {e dx C:Addr} {fs:List (Str×V)} (h1:H e=none) (h2:upd H e (J8 e C) dx=none):
   Same H (upd (upd (upd H e (J8 e C)) e (QL e C dx)) dx (.xd fs))/\upd (upd (upd H e (J8 e C)) e (QL e C dx)) dx (.xd fs) e=some (QL e C dx)/\upd (upd (upd H e (J8 e C)) e (QL e C dx)) dx (.xd fs) dx=some (.xd fs):=by
 have ne:e≠dx:=λz=>by rw[<-z,qd]at h2;cases h2
 refine⟨λb o hb=>?_,?_,qd⟩
 . have b1:b≠e:=ql hb h1
   have b2:b≠dx:=λz=>by rw[<-z,qf b1,hb]at h2;cases h2
   rw[qf b2,qf b1,qf b1];exact hb
 . rw[qf ne];exact qd
def QY (H H':Hp):Prop:=∀b o,H b=some o->(∀φ,o≠.ext φ)->H' b=some o
theorem _root_.L2.Same.keep {H H':Hp} (s:Same H H'):QY H H':=λb o h _=>s b o h
theorem QY.trans {H H' H'':Hp} (a:QY H H') (b:QY H' H''):QY H H'':=λc o h n=>b c o (a c o h n) n
theorem _root_.L2.SqL.keep {K:PySem.W.Frag} {H H':Hp} {p:Addr} {xs:List V} (h:SqL K H p xs) (s:QY H H'):SqL K H' p xs:=by
 rcases h with (h | ⟨o,h⟩) | h
 . exact .inl (.inl (s _ _ h (λ_ z=>nomatch z)))
 . exact .inl (.inr ⟨o,s _ _ h (λ_ z=>nomatch z)⟩)
 . exact .inr h
theorem jJ.keep {CG:Addr} {H H':Hp} {a:Addr} {rs:ju} (h:jJ CG H a rs) (s:QY H H'):jJ CG H' a rs:=by
 obtain⟨dx,lo,rd,kvs,h1,h2,h3,h4⟩:=h
 exact⟨dx,lo,rd,kvs,s _ _ h1 (λ_ z=>nomatch z),s _ _ h2 (λ_ z=>nomatch z),s _ _ h3 (λ_ z=>nomatch z),λr hr=>let ⟨q,a,b⟩:=h4 r hr;⟨q,a,s _ _ b (λ_ z=>nomatch z)⟩⟩
theorem qH.keep {H H':Hp} {ps:List Addr} {rs:ju} (h:qH H ps rs) (s:QY H H'):qH H' ps rs:=⟨h.1,λi p r e1 e2=>let ⟨q,a,b⟩:=h.2 i p r e1 e2;⟨q,s _ _ a (λ_ z=>nomatch z),s _ _ b (λ_ z=>nomatch z)⟩⟩
theorem QQ {X:Hp} {l2:Addr} {ps:List Addr} {rs:ju} {CG:Addr} {R:Hp->Prop} (hl:X l2=some (.lst (ps.map V.ref))) (rat:qH X ps rs) (good:qv rs) (pos:0 < rs.length) (le14:rs.length<=14)
   {x dx:Addr} (hx:X x=none) (hdx:X dx=none) (ndx:dx≠x) {E:XK} (k:∀H4,Same X H4->jJ CG H4 x rs->R H4):
   JP CG [.ref x,.ref l2] (upd (upd X dx (.own x)) x (.ins CG dx [])) (λv H'=>v=.non/\R H') E:=by
 have s3:Same X (upd (upd X dx (.own x)) x (.ins CG dx [])):=λb u hb=>by
   rw[qf (ql hb hx),qf (ql hb hdx)]
   exact hb
 refine⟨x,dx,l2,ps,rs,rfl,⟨s3 _ _ hl,rat.mono s3,good,pos,le14⟩,qd,λH4 gr fr4=>⟨rfl,k H4 (λb u hb=>fr4 b u (s3 _ _ hb) (ql hb hx)) gr⟩⟩
end Rh
set_option Elab.async false
set_option linter.all false
set_option maxRecDepth 100000
set_option maxHeartbeats 4000000
namespace Rh
open PySem L2 PyProof.Rows
noncomputable def srtS (zs:List Str):List Str:=by classical exact if h:∃ys:List Str,ys.Perm zs/\sortedS ys=true then h.choose else zs
def xC (zs:List Str):Prop:=(srtS zs).Perm zs/\sortedS (srtS zs)=true
theorem ZD {ys zs zs':List Str} (p:ys.Perm zs) (so:sortedS ys=true) (q:zs.Perm zs'):ys=srtS zs'/\xC zs':=by
 have h:∃ys:List Str,ys.Perm zs'/\sortedS ys=true:=⟨ys,p.trans q,so⟩
 have e:srtS zs'=h.choose:=by
   unfold srtS
   rw[dif_pos h]
 unfold xC
 rw[e]
 exact⟨VG p h.choose_spec.1 q so h.choose_spec.2,h.choose_spec.1,h.choose_spec.2⟩
theorem xC.eq {zs zs':List Str} (h:xC zs) (q:zs.Perm zs'):srtS zs=srtS zs':=(ZD h.1 h.2 q).1
def jT (H:Hp) (ps:List Addr) (rs:ju):Prop:=ps.length=rs.length/\∀(i:Nat) (p:Addr) (r:Str×List Str),ps[i]?=some p->rs[i]?=some r->xC r.2/\∃q,H p=some (.tup [.str r.1,.ref q])/\H q=some (.lst ((srtS r.2).map V.str))
theorem jT.mono {H H':Hp} {ps:List Addr} {rs:ju} (h:jT H ps rs) (s:Same H H'):jT H' ps rs:=⟨h.1,λi p r e1 e2=>let ⟨a,q,b,c⟩:=h.2 i p r e1 e2;⟨a,q,s _ _ b,s _ _ c⟩⟩
theorem jT.nil (H:Hp):jT H [] []:=⟨rfl,λi p r e=>by simp at e⟩
theorem jT.snoc {H:Hp} {ps:List Addr} {rs:ju} {p q:Addr} {r:Str×List Str} (h:jT H ps rs) (pm:xC r.2) (hp:H p=some (.tup [.str r.1,.ref q])) (hq:H q=some (.lst ((srtS r.2).map V.str))):jT H (ps++[p]) (rs++[r]):=by
 refine⟨by rw[List.length_append,List.length_append,h.1];rfl,λi p' r' e1 e2=>?_⟩
 by_cases hi:i < ps.length
 . rw[List.getElem?_append_left hi]at e1
   rw[List.getElem?_append_left (by rw[<-h.1];exact hi)]at e2
   exact h.2 i p' r' e1 e2
 . have hi':i=ps.length:=by
     have:=(List.getElem?_eq_some_iff.mp e1).1
     rw[List.length_append,List.length_singleton]at this
     omega
   subst hi'
   rw[List.getElem?_append_right (Nat.le_refl _),Nat.sub_self]at e1
   rw[h.1,List.getElem?_append_right (Nat.le_refl _),Nat.sub_self]at e2
   obtain rfl:=(Option.some.inj e1).symm
   obtain rfl:=(Option.some.inj e2).symm
   exact⟨pm,q,hp,hq⟩
theorem jT.tail {H:Hp} {p:Addr} {ps:List Addr} {r:Str×List Str} {rs:ju} (h:jT H (p::ps) (r::rs)):jT H ps rs:=⟨Nat.succ.inj h.1,λi a b e1 e2=>h.2 (i+1) a b (by simpa using e1) (by simpa using e2)⟩
def Um (H:Hp) (D:Addr):Hp:=λb=>if b=D then none else H b
theorem Jc {H:Hp} {D b:Addr} (h:b≠D):Um H D b=H b:=if_neg h
theorem ZS {H:Hp} {D:Addr} {o:HO}:Um (upd H D o) D=Um H D:=funext λb=>by
 unfold Um
 by_cases h:b=D
 . rw[if_pos h,if_pos h]
 . rw[if_neg h,if_neg h,qf h]
theorem Jb {H H':Hp} {D:Addr} (s:Same H H'):Same (Um H D) (Um H' D):=λb u hb=>by
 unfold Um at hb ⊢
 by_cases h:b=D
 . rw[if_pos h]at hb;cases hb
 . rw[if_neg h]at hb ⊢;exact s _ _ hb
theorem ZT {H:Hp} {D:Addr}:Same (Um H D) H:=λb u hb=>by
 unfold Um at hb
 by_cases h:b=D
 . rw[if_pos h]at hb;cases hb
 . rw[if_neg h]at hb;exact hb
noncomputable def dSr (r:Str×List Str):PyData:=.tuple [.str r.1,dL (srtS r.2)]
theorem Q0 {K:PySem.W.Frag} {H:Hp}:∀{ps:List Addr} {rs:ju},jT H ps rs->DVs K H (ps.map V.ref) (rs.map dSr)
 | [],[],_=>.nil
 | [],_::_,h=>by cases h.1
 | _::_,[],h=>by cases h.1
 | p::ps,r::rs,h=>by
   obtain⟨_,q,a,b⟩:=h.2 0 p r rfl rfl
   exact .cons (.tup (.of a) (.cons (.str _) (.cons (GU b) .nil))) (Q0 h.tail)
theorem Vs:∀{rs:ju},(∀r∈rs,qG r.1=true/\∀z∈srtS r.2,qG z=true)->PyData.canLayAll0 (rs.map dSr)=true
 | [],_=>rfl
 | r::rs,h=>by
   rw[List.map_cons,PyData.canLayAll0,Vs λy hy=>h y (List.mem_cons_of_mem _ hy),Bool.and_true]
   obtain⟨h1,h2⟩:=h r List.mem_cons_self
   show (PyData.strOk r.1&&(PyData.canLayAll0 ((srtS r.2).map PyData.str)&&true))=true
   rw[JZ h1,Kx h2]
   rfl
theorem Vo:∀(rs:ju),PyData.depthAll (rs.map dSr)<=2
 | []=>by decide
 | r::rs=>by
   have:=Vo rs
   rw[List.map_cons]
   simp only[PyData.depthAll,PyData.depth,dSr,dL,Kt]
   omega
theorem Wb {rs:ju} (h:∀r∈rs,qG r.1=true/\∀z∈srtS r.2,qG z=true):PySem.SeqAt.shaped (.list (rs.map dSr))=true:=by
 unfold PySem.SeqAt.shaped
 rw[Bool.and_eq_true]
 refine⟨Vs h,decide_eq_true ?_⟩
 have:=Vo rs
 simp only[PyData.depth]
 omega
theorem jT.names {H:Hp} {ps:List Addr} {rs:ju} (h:jT H ps rs) (g:∀r∈rs,qG r.1=true/\∀z∈r.2,qG z=true):∀r∈rs,qG r.1=true/\∀z∈srtS r.2,qG z=true:=λr hr=>by
 obtain⟨i,ei⟩:=List.getElem?_of_mem hr
 have hi:i < ps.length:=by rw[h.1];exact(List.getElem?_eq_some_iff.mp ei).1
 obtain⟨pm,_⟩:=h.2 i ps[i] r (List.getElem?_eq_getElem hi) ei
 exact⟨(g r hr).1,λz hz=>(g r hr).2 z (pm.1.mem_iff.mp hz)⟩
theorem wx (a b:V):([(Str.ofString "order",a),(Str.ofString "roads",b)]:List (Str×V)).lookup (Str.ofString "rows")=none:=by
 have e1:((Str.ofString "rows")==(Str.ofString "order"))=false:=by decide+kernel
 have e2:((Str.ofString "rows")==(Str.ofString "roads"))=false:=by decide+kernel
 simp [List.lookup,e1,e2]
theorem Ql {rs:ju} (g:qv rs) {r:Str×List Str} (hr:r∈rs):(ji rs r).Perm r.2:=(List.perm_ext_iff_of_nodup (by unfold ji;exact g.nd.sublist List.filter_sublist) (g.rd r hr)).mpr λy=>U3 g hr
theorem QM (rs:ju):(jt rs).map (·.1)=rs.map (·.1):=by unfold jt;rw[List.map_map];rfl
theorem kR {rs:ju} {i:Nat} {u:Str×List Str} (h:(jt rs)[i]?=some u):∃r,rs[i]?=some r/\r∈rs/\u=(r.1,ji rs r):=by
 unfold jt at h
 rw[List.getElem?_map]at h
 cases e:rs[i]? with
 | none=>rw[e]at h;cases h
 | some r=>rw[e]at h;exact⟨r,rfl,List.mem_of_getElem? e,(Option.some.inj h).symm⟩
def k7 (CG:Addr):Sp:=λvs H Q _=>∃(g:Addr) (rs:ju),vs=[.ref g]/\jJ CG H g rs/\qv rs/\rs.length<=14/\∀H' l ps,Same H H'->H l=none->H' l=some (.lst (ps.map V.ref))->jT H' ps rs->Q (.ref l) H'
def wX (H:Hp) (ps:List Addr) (ns:List Nat):Prop:=ps.length=ns.length/\∀(i:Nat) (p:Addr) (n:Nat),ps[i]?=some p->ns[i]?=some n->∃a q xs,H p=some (.tup [a,.ref q])/\(H q=some (.lst xs)\/H q=some (.tup xs))/\xs.length=n
def Xl:Sp:=λvs H Q _=>∃(l:Addr) (ps:List Addr) (ns:List Nat),vs=[.ref l]/\H l=some (.lst (ps.map V.ref))/\wX H ps ns/\ps.length<=500/\ns.sum < 2^60/\∀H',Same H H'->Q (.int (ns.sum:Nat)) H'
theorem qH.mn {H:Hp} {ps:List Addr} {rs:ju} (h:qH H ps rs):wX H ps (rs.map λr=>r.2.length):=⟨by rw[List.length_map,h.1],λi p n e1 e2=>by
 rw[List.getElem?_map]at e2
 cases e:rs[i]? with
 | none=>rw[e]at e2;cases e2
 | some r=>
   rw[e]at e2
   obtain⟨q,a,b⟩:=h.2 i p r e1 e
   exact⟨_,q,_,a,.inr b,by rw[List.length_map];exact Option.some.inj e2⟩⟩
theorem jT.mn {H:Hp} {ps:List Addr} {rs:ju} (h:jT H ps rs):wX H ps (rs.map λr=>r.2.length):=⟨by rw[List.length_map,h.1],λi p n e1 e2=>by
 rw[List.getElem?_map]at e2
 cases e:rs[i]? with
 | none=>rw[e]at e2;cases e2
 | some r=>
   rw[e]at e2
   obtain⟨pm,q,a,b⟩:=h.2 i p r e1 e
   exact⟨_,q,_,a,.inl b,by rw[List.length_map,pm.1.length_eq];exact Option.some.inj e2⟩⟩
structure kA (K:PySem.W.Frag) (mg:Str->Option Value) (D CW CM:Addr):Prop where
 nD:mg "HeapError"=some (.ref D)
 cD:xa K D
 nW:mg "Twice"=some (.ref CW)
 nM:mg "TooMany"=some (.ref CM)
 ve:mg "ValueError"=none
 w1:PySem.W.kitOne K (.ref CW) (.ref CW)=some true
 w2:PySem.W.kitOne K (.ref CW) (.ref CM)=some false
 w3:PySem.W.kitOne K (.ref CW) (.type "ValueError")=some true
 m1:PySem.W.kitOne K (.ref CM) (.ref CW)=some false
 m2:PySem.W.kitOne K (.ref CM) (.ref CM)=some true
 m3:PySem.W.kitOne K (.ref CM) (.type "ValueError")=some true
 wa:PySem.W.kitAny K (.ref CW) [.ref CW,.ref CM]=some true
 ma:PySem.W.kitAny K (.ref CM) [.ref CW,.ref CM]=some true
 spc:PySem.W.specialIn K (.builtin "object.__class__") "__get__"=some (some (.builtin "getset_descriptor.__get__"))
 tks:PySem.W.takesIn K (.builtin "object.__class__")=some true
def wR (CW CM C:Addr) (b:Bool):Prop:=(b=true/\C=CW)\/(b=false/\C=CM)
structure y8 (K:PySem.W.Frag) (mg:Str->Option Value) (D CW CM:Addr):Prop where
 w:∃f fd,Vz K mg D "Twice" "Twice.__init__" Z2 "found" CW f fd
 m:∃f fd,Vz K mg D "TooMany" "TooMany.__init__" jQ "found" CM f fd
theorem y8.cls {K:PySem.W.Frag} {mg:Str->Option Value} {D CW CM C:Addr} {b:Bool} (XS:y8 K mg D CW CM) (t:wR CW CM C b):Ze K C (.ref D::j4)/\j9 K C "found"/\∃f,um K C f (.ref D::j4):=by
 obtain⟨f,fd,xw⟩:=XS.w
 obtain⟨f',fd',xm⟩:=XS.m
 rcases t with ⟨_,rfl⟩ | ⟨_,rfl⟩
 . exact⟨xw.cls,xw.na,f,xw.mkr⟩
 . exact⟨xm.cls,xm.na,f',xm.mkr⟩
abbrev Kz (D:Addr):List Value:=.ref D::j4
def Ko (b:Bool):List V:=[.bl b,.bl (!b),.bl true]
def xL (CW CM:Addr):Sp:=λvs H Q _=>∃(e C dx:Addr) (hd:Value) (fs:List (Str×V)) (b:Bool),vs=[.ref e]/\H e=some (jD e C dx hd)/\H dx=some (.xd fs)/\wR CW CM C b/\∀l,H l=none->Q (.ref l) (upd H l (.lst (Ko b)))
def Nn (H:Hp) (p:Addr) (CW CM:Addr) (b:Bool) (v:V):Prop:=∃(lk e C dx:Addr) (hd:Value),H p=some (.tup [.str (Str.ofString "none"),.ref lk,.ref e])/\H lk=some (.lst (Ko b))/\H e=some (jD e C dx hd)/\H dx=some (.xd [(Str.ofString "found",v)])/\wR CW CM C b
theorem Nn.mono {H H':Hp} {p CW CM:Addr} {b:Bool} {v:V} (h:Nn H p CW CM b v) (s:Same H H'):Nn H' p CW CM b v:=let ⟨lk,e,C,dx,hd,a1,a2,a3,a4,t⟩:=h;⟨lk,e,C,dx,hd,s _ _ a1,s _ _ a2,s _ _ a3,s _ _ a4,t⟩
def UL (CW CM:Addr):Sp:=λvs H Q _=>∃(p k:Addr) (b:Bool) (v:V),vs=[.ref p,.ref k,v]/\Nn H p CW CM b v/\H k=some (.lst (Ko b))/\xQ v v=true/\∀H',Same H H'->Q (.bl true) H'
theorem xD {K:PySem.W.Frag} {H:Hp} {p:Addr} {b:Bool} (h:H p=some (.lst (Ko b))):DV K H (.ref p) (.list [.bool b,.bool (!b),.bool true]):=.lst (.of h) (.cons (.bl _) (.cons (.bl _) (.cons (.bl _) .nil)))
section
variable {P:Program} {w:World} {K:PySem.W.Frag} {mg:Str->Option Value} {base:Heap}
theorem K3:qB ["_law_ground"] ["_law_ground"] (qm w6):=⟨rfl,rfl,rfl,by decide+kernel,rfl,by decide+kernel,by decide+kernel⟩
theorem Xv:(["_law_name","_law_others"]:List Str).Nodup:=by decide+kernel
theorem u0 {f CG fM:Addr} {fd fdM:FuncData} (F:Qe K "_law_sorted_rows" "_law_sorted_rows" w6 f fd) (G:Qu mg) (M:GM K mg CG) (hM:kH K CG "rows" "Ground.rows" Jy ["self"] fM fdM):qu P w K mg base jh 2 f fd ["_law_ground"] (k7 CG):=by
 obtain⟨fI,fdI,C⟩:=M.cls
 have GM:qu P w K mg base jh 1 fM fdM ["self"] (Yz CG):=Xt hM.fn C G
 refine F.okJ K3 (λvs H Q E z=>?_) (λcdv A outer s H vs Q E hr z=>?_)
 . obtain⟨g,rs,rfl,_⟩:=z
   rfl
 . obtain⟨g,rs,rfl,gr,good,le14,q⟩:=z
   have r1:qW 1 _:=hr.mono (by decide)
   refine⟨_,qj (qP (j7 (N':=["_law_name","_law_others"]) (ix:=[none,none]) (g:=zS K 2 (j8 (js 0) (j8 (js 1) zT))) (te:=Ju (qI (qL 0) (qI (Uw (zb K) (qI (qL 1) jH)) jH))) rfl ⟨rfl,rfl,rfl,rfl,rfl⟩ (qJ (zx hM C.cl GM r1 (jv 0))) (λC s2 H2 fp pins=>
       ⟨j6 rfl (qE (qp (i:=0) Xv rfl (Or.inl rfl)) (qE (qp (i:=1) Xv rfl (Or.inl rfl)) jE)),jc,jd (qb (jv 0) (qb (qr JJ (by rfl) G.srt boot_sorted (qb (jv 1) qe)) qe))⟩))),?_⟩
   obtain⟨dx,lo,rd,kv0,hg,_⟩:=id gr
   refine⟨_,rfl,g,dx,_,rfl,hg,wx _ _,g,rs,rfl,gr,le14,λl ps H2 s2 nl hl rat=>⟨l,rfl,⟨_,.of hl⟩,λD hD=>?_⟩⟩
   have lt:(jt rs).length=rs.length:=List.length_map ..
   have lps:=rat.1
   refine q5 (K:=K) (a:=l) (xs:=ps.map V.ref) (λi σ' X=>∃(v0 v1:Option V) (qs:List Addr),σ'=[v0,v1]/\Same H2 X/\X D=some (.lst (qs.map V.ref))/\jT (Um X D) qs (rs.take i)) ⟨none,none,[],rfl,qh hD,qd,.nil _⟩ (λi σ' X _ ⟨_,_,_,_,sx,_⟩=>.of (sx _ _ hl)) ?_ ?_
   . rintro i y σ' X hy ⟨v0,v1,qs,rfl,sx,hX,sr⟩
     rw[List.getElem?_map]at hy
     cases ep:ps[i]? with
     | none=>rw[ep]at hy;cases hy
     | some p=>
       rw[ep]at hy
       obtain rfl:=(Option.some.inj hy).symm
       have hi:i < (jt rs).length:=by rw[<-lps];exact(List.getElem?_eq_some_iff.mp ep).1
       obtain⟨r,er,hr',eu⟩:=kR (List.getElem?_eq_getElem hi)
       obtain⟨t,hp,ht⟩:=rat.2 i p (r.1,ji rs r) ep (by rw[<-eu];exact List.getElem?_eq_getElem hi)
       have lr:=Wi (rs:=rs) r
       refine⟨p,_,rfl,.of (sx _ _ hp),rfl,_,_,rfl,_,_,rfl,rfl,?_⟩
       refine⟨_,rfl,_,rfl,t,ji rs r,rfl,.of (sx _ _ ht),by omega,λl' ys hl' pm so=>⟨by show 2<=sizeLine;decide,λp' hp'=>?_⟩⟩
       obtain⟨ey,pm2⟩:=ZD pm so (Ql good hr')
       subst ey
       have s3:=qh (o:=HO.lst ((srtS r.2).map V.str)) hl'
       have s4:=qh (o:=HO.tup [V.str r.1,.ref l']) hp'
       have s34:=s3.trans s4
       have hX4:=s34 _ _ hX
       have nlD:l'≠D:=λe=>by rw[e,hX]at hl';cases hl'
       have npD:p'≠D:=λe=>by rw[e,s3 _ _ hX]at hp';cases hp'
       have sr4:=(sr.mono (Jb s34)).snoc (r:=r) pm2 (p:=p') (q:=l') (by rw[Jc npD];exact qd) (by rw[Jc nlD];exact qk qd hp')
       refine⟨_,hX4,?_,_,_,qs++[p'],rfl,Same.upd (sx.trans s34) hD,by rw[qd,List.map_append];rfl,?_⟩
       . rw[List.length_map,sr.1,List.length_take]
         exact qo (by omega)
       . rw[List.take_add_one,er,ZS]
         exact sr4
   . rintro σ' X ⟨v0,v1,qs,rfl,sx,hX,sr⟩
     rw[List.length_map,lps,lt,List.take_of_length_le (Nat.le_refl _)]at sr
     exact q X D qs (s2.trans sx) (Qm s2 hD) hX (sr.mono ZT)
theorem uE:qB ["_law_rows_here"] ["_law_rows_here"] (qm VN):=⟨rfl,rfl,rfl,by decide+kernel,rfl,by decide+kernel,by decide+kernel⟩
theorem wk {f:Addr} {fd:FuncData} (F:Qe K "_law_many" "_law_many" VN f fd) (B:Zp mg) (T:Qd K mg):qu P w K mg base jh 1 f fd ["_law_rows_here"] Xl:=by
 refine F.okJ uE (λvs H Q E z=>?_) (λcdv A outer s H vs Q E hr z=>?_)
 . obtain⟨l,ps,ns,rfl,_⟩:=z
   rfl
 . obtain⟨l,ps,ns,rfl,hl,mn,l5,sm,q⟩:=z
   refine⟨_,qj (qP (qr (Zn rfl) (by rfl) T.sum boot_sum (qb (j7 (N':=["_law_name","_law_others"]) (ix:=[none,none]) (g:=zS K 2 (j8 (js 0) (j8 (js 1) zT))) (te:=Uw (λxs H Q=>∃p ys,xs=[.ref p]/\(SqL K H p ys\/Zc K H p ys)/\Q (.int ys.length) H) (qI (qL 1) jH)) rfl ⟨rfl,rfl,rfl,rfl,rfl⟩ (qJ (jv 0)) (λC s2 H2 fp pins=>
       ⟨j6 rfl (qE (qp (i:=0) Xv rfl (Or.inl rfl)) (qE (qp (i:=1) Xv rfl (Or.inl rfl)) jE)),jc,qr qy (by rfl) B.len boot_len (qb (jv 1) qe)⟩)) qe))),?_⟩
   refine⟨_,rfl,l,rfl,⟨_,.of hl⟩,λD hD=>?_⟩
   refine q5 (K:=K) (a:=l) (xs:=ps.map V.ref) (λi σ' X=>∃(v0 v1:Option V),σ'=[v0,v1]/\X=upd H D (.lst ((ns.take i).map λn=>V.int ((n:Nat):Int)))) ⟨none,none,rfl,rfl⟩ (λi σ' X _ ⟨_,_,_,e⟩=>e▸.of (qk hl hD)) ?_ ?_
   . rintro i y σ' X hy ⟨v0,v1,rfl,rfl⟩
     rw[List.getElem?_map]at hy
     cases ep:ps[i]? with
     | none=>rw[ep]at hy;cases hy
     | some p=>
       rw[ep]at hy
       obtain rfl:=(Option.some.inj hy).symm
       have hi:i < ns.length:=by rw[<-mn.1];exact(List.getElem?_eq_some_iff.mp ep).1
       have en:ns[i]?=some ns[i]:=List.getElem?_eq_getElem hi
       generalize ns[i]=n at en
       obtain⟨a,t,xs,hp,ht,lx⟩:=mn.2 i p n ep en
       have ht':SqL K (upd H D (.lst ((ns.take i).map λn=>V.int ((n:Nat):Int)))) t xs\/Zc K (upd H D (.lst ((ns.take i).map λn=>V.int ((n:Nat):Int)))) t xs:=by
         rcases ht with ht | ht
         . exact .inl (.of (qk ht hD))
         . exact .inr (.of (qk ht hD))
       refine⟨p,_,rfl,.of (qk hp hD),rfl,_,_,rfl,_,_,rfl,rfl,?_⟩
       refine⟨_,rfl,t,xs,rfl,ht',_,qd,?_,_,_,rfl,?_⟩
       . rw[List.length_map,List.length_take]
         exact qo (by have:=mn.1;omega)
       . rw[jw,List.take_add_one,en,List.map_append,lx]
         rfl
   . rintro σ' X ⟨v0,v1,rfl,rfl⟩
     rw[List.length_map,mn.1,List.take_of_length_le (Nat.le_refl _)]
     exact⟨D,ns,rfl,.of qd,Nat.lt_of_lt_of_le sm (by decide),q _ (qh hD)⟩
theorem y2:bootBuiltins "ValueError"=some (.type "ValueError"):=by decide+kernel
theorem K5:qB ["_law_error"] ["_law_error"] (qm uH):=⟨rfl,rfl,rfl,by decide+kernel,rfl,by decide+kernel,by decide+kernel⟩
theorem u8 {f D CW CM:Addr} {fd:FuncData} (F:Qe K "_law_kinds" "_law_kinds" uH f fd) (T:Qd K mg) (XS:y8 K mg D CW CM) (ZE:kA K mg D CW CM):kB P w K mg base 1 f fd ["_law_error"] (xL CW CM):=by
 refine F.loud K5 (λvs H Q E z=>?_) (λcdv A a0 outer s H vs Q E hr z=>?_)
 . obtain⟨e,C,dx,hd,fs,b,rfl,_⟩:=z
   rfl
 . obtain⟨e,C,dx,hd,fs,b,rfl,he,hdx,t,q⟩:=z
   refine⟨_,qj (qP (jZ (qb (qr (Jd (bm:=Kz D) ZE.spc ZE.tks) (by rfl) T.isi boot_isinstance (qb (jv 0) (qb (jz (v:=.ref CW) (by rfl) ZE.nW rfl) qe)))
     (qb (qr (Jd (bm:=Kz D) ZE.spc ZE.tks) (by rfl) T.isi boot_isinstance (qb (jv 0) (qb (jz (v:=.ref CM) (by rfl) ZE.nM rfl) qe)))
     (qb (qr (Jd (bm:=Kz D) ZE.spc ZE.tks) (by rfl) T.isi boot_isinstance (qb (jv 0) (qb (QT (v:=.ty "ValueError") (by rfl) ZE.ve y2 rfl) qe))) qe))))),?_⟩
   obtain⟨ec,_,_⟩:=XS.cls t
   have k1:PySem.W.kitOne K (.ref C) (.ref CW)=some b:=t.elim (λ⟨a,c⟩=>by subst a c;exact ZE.w1) (λ⟨a,c⟩=>by subst a c;exact ZE.m1)
   have k2:PySem.W.kitOne K (.ref C) (.ref CM)=some (!b):=t.elim (λ⟨a,c⟩=>by subst a c;exact ZE.w2) (λ⟨a,c⟩=>by subst a c;exact ZE.m2)
   have k3:PySem.W.kitOne K (.ref C) (.type "ValueError")=some true:=t.elim (λ⟨a,c⟩=>by subst a c;exact ZE.w3) (λ⟨a,c⟩=>by subst a c;exact ZE.m3)
   exact⟨_,rfl,e,C,dx,hd,fs,.ref CW,b,rfl,rfl,he,hdx,ec,k1,_,rfl,e,C,dx,hd,fs,.ref CM, !b,rfl,rfl,he,hdx,ec,k2,_,rfl,e,C,dx,hd,fs,.ty "ValueError",true,rfl,rfl,he,hdx,ec,k3,by show 3<=sizeLine;decide,λl hl=>q l hl⟩
abbrev yD:List Str:=["_law_told","_law_kinds_here","_law_due"]
theorem K4:qB yD yD (qm w9):=⟨rfl,rfl,rfl,by decide+kernel,rfl,by decide+kernel,by decide+kernel⟩
theorem u3 {f D CW CM:Addr} {fd:FuncData} (F:Qe K "_law_refused" "_law_refused" w9 f fd) (T:Qd K mg) (XS:y8 K mg D CW CM) (ZE:kA K mg D CW CM):qu P w K mg base jh 1 f fd yD (UL CW CM):=by
 refine F.okJ K4 (λvs H Q E z=>?_) (λcdv A outer s H vs Q E hr z=>?_)
 . obtain⟨p,k,b,v,rfl,_⟩:=z
   rfl
 . obtain⟨p,k,b,v,rfl,⟨lk,e,C,dx,hd,a1,a2,a3,a4,t⟩,hk,sc,q⟩:=z
   refine⟨_,qg (qU (JW.pt (Qi (qt vm (qS qR (jv 0) qi (λ_ _=>rfl)) jy (qx _)) (Qi (qt (Wo hr.units) (qS qR (jv 0) qi (λ_ _=>rfl)) (jv 1) (qx _))
       (j5 (Qb (jY (qr (XN (bm:=Kz D) ZE.spc ZE.tks) (by rfl) T.isi boot_isinstance (qb (qS qR (jv 0) qi (λ_ _=>rfl)) (qb (jd (qb (jz (v:=.ref CW) (by rfl) ZE.nW rfl) (qb (jz (v:=.ref CM) (by rfl) ZE.nM rfl) qe))) qe))))))))) (qj (qP jI)) qz)
     (qj (qP (QS Qs (yO (bm:=Kz D) (qS qR (jv 0) qi (λ_ _=>rfl)) rfl) (jv 2) (qx _)))),?_⟩
   obtain⟨ec,na,_⟩:=XS.cls t
   have ka:PySem.W.kitAny K (.ref C) [.ref CW,.ref CM]=some true:=t.elim (λ⟨a,c⟩=>by subst a c;exact ZE.wa) (λ⟨a,c⟩=>by subst a c;exact ZE.ma)
   have sh:PySem.SeqAt.shaped (.list [.bool b,.bool (!b),.bool true])=true:=by cases b<;>decide+kernel
   refine⟨_,rfl,p,_,0,_,rfl,rfl,.of a1,qK (j:=0) rfl,rfl,_,rfl,jM (by rw[decide_eq_true rfl];rfl) ?_⟩
   refine⟨_,rfl,p,_,1,_,rfl,rfl,.of a1,qK (j:=1) rfl,_,rfl,_,xD a2,xD hk,sh,_,rfl,jR ?_⟩
   refine⟨_,rfl,p,_,2,_,rfl,rfl,.of a1,qK (j:=2) rfl,by show 2<=sizeLine;decide,λtp htp=>?_⟩
   have s1:=qh (o:=HO.tup [V.ref CW,.ref CM]) htp
   refine⟨e,tp,C,dx,hd,_,[CW,CM],true,rfl,s1 _ _ a3,s1 _ _ a4,ec,qd,ka,_,rfl,jR ?_⟩
   have lk':([(Str.ofString "found",v)]:List (Str×V)).lookup (Str.ofString "found")=some v:=by simp [List.lookup]
   refine⟨_,rfl,p,_,2,_,rfl,rfl,.of (s1 _ _ a1),qK (j:=2) rfl,e,C,dx,hd,_,v,rfl,s1 _ _ a3,s1 _ _ a4,ec,na,lk',_,rfl,sc,?_⟩
   rw[decide_eq_true rfl]
   exact q _ s1
end
end Rh
set_option Elab.async false
set_option linter.all false
set_option maxRecDepth 100000
set_option maxHeartbeats 4000000
namespace Rh
open PySem L2 PyProof.Rows
structure jB (rs:ju):Prop where
 nm:∀r∈rs,qG r.1=true
 nd:(rs.map (·.1)).Nodup
 to:∀r∈rs,∀z∈r.2,z∈rs.map (·.1)
 rd:∀r∈rs,r.2.Nodup
 len:∀r∈rs,r.2.length<=40
theorem jB.names {rs:ju} (h:jB rs):∀r∈rs,∀z∈r.2,qG z=true:=λr hr z hz=>by
 obtain⟨r',hr',rfl⟩:=List.mem_map.mp (h.to r hr z hz)
 exact h.nm r' hr'
theorem jB.good {rs:ju} (h:jB rs) (f:(rs.map λr=>r.2.length).sum<=40):qv rs:=⟨h.nm,h.nd,h.to,h.rd,f⟩
structure zL (H:Hp) (l:Addr) (ps:List Addr) (rs:ju):Prop where
 at_:H l=some (.lst (ps.map V.ref))
 rows:qH H ps rs
 good:jB rs
 pos:0 < rs.length
 le:rs.length<=14
theorem zL.mono {H H':Hp} {l:Addr} {ps:List Addr} {rs:ju} (h:zL H l ps rs) (s:Same H H'):zL H' l ps rs:=⟨s _ _ h.at_,h.rows.mono s,h.good,h.pos,h.le⟩
def UI:Sp:=λvs H Q _=>∃(l:Addr) (ps:List Addr) (rs:ju),vs=[.ref l]/\zL H l ps rs/\∀H',Same H H'->Q .non H'
def ZZ (CM:Addr):Sp:=λvs H Q E=>∃(l:Addr) (ps:List Addr) (rs:ju),vs=[.ref l]/\zL H l ps rs/\40 < (rs.map λr=>r.2.length).sum/\(rs.map λr=>r.2.length).sum < 2^60/\∀H1 dx,Same H H1->H1 dx=some (.xd [(Str.ofString "found",.int ((rs.map λr=>r.2.length).sum:Nat))])->E (.ref CM) (some dx) H1
def JQ (CM:Addr):Sp:=λvs H Q E=>∃(l:Addr) (xs:List V),vs=[.ref l]/\H l=some (.lst xs)/\14 < xs.length/\xs.length<=1000/\∀H1 dx,Same H H1->H1 dx=some (.xd [(Str.ofString "found",.int (xs.length:Nat))])->E (.ref CM) (some dx) H1
section
variable {P:Program} {w:World} {K:PySem.W.Frag} {mg:Str->Option Value} {base:Heap}
theorem vz {f fN fP fR:Addr} {fd fdN fdP fdR:FuncData} (F:Qe K "need_form" "need_form" z7 f fd) (B:Zp mg) (G:Qu mg) (T:Qd K mg) (hN:j0 K mg "is_name" Jr ["thing"] fN fdN) (hP:j0 K mg "is_tuple_of_names" Z3 ["thing"] fP fdP)
   (hR:j0 K mg "is_row" Zh ["thing"] fR fdR):qu P w K mg base jh 4 f fd ["rows"] UI:=by
 have GR:qu P w K mg base jh 3 fR fdR ["thing"] UK:=Xs hR.fn B G T hN hP
 obtain⟨tm,hmp⟩:=T.mp
 refine F.okJ Jx (λvs H Q E h=>?_) (λcdv A outer s H vs Q E hr h=>?_)
 . obtain⟨l,ps,rs,rfl,_⟩:=h
   rfl
 . obtain⟨l,ps,rs,rfl,g,q⟩:=h
   refine⟨_,qg (qU (Qi (Qb (jY (qr j2 (by rfl) T.isi boot_isinstance (qb (jv 0) (qb (QT (v:=.ty "list") (by rfl) G.lst boot_list rfl) qe)))))
       (j5 (qt Qs (qr qy (by rfl) B.len boot_len (qb (jv 0) qe)) qi (qx _)))).pt qM qz)
     (qg (qU (qt Q7 (qr qy (by rfl) B.len boot_len (qb (jv 0) qe)) (jz (v:=.int 14) (by rfl) hmp ⟨_,rfl⟩) (qx _)) qM qz)
     (qj (jx PassesOwn.never rfl (ZM (by rfl) T.enu (qb (jv 0) qe)) (j6 rfl (qE (qp (i:=1) Jx.nd rfl (Or.inl rfl)) (qE (qp (i:=2) Jx.nd rfl (Or.inl rfl)) jE)))
       (qj (qU (Qb (jY (ja hR GR hr (by rfl) (qb (jv 2) qe)))) qM qz))))),?_⟩
   have lp:(ps.map V.ref).length=rs.length:=by rw[List.length_map,g.rows.1]
   refine⟨_,rfl,_,_,_,_,rfl,rfl,.lst g.at_,T.kll,_,rfl,jR ⟨_,rfl,l,_,rfl,.inl (.of g.at_),rfl,_,rfl,?_⟩⟩
   have e0:decide (V.int (((ps.map V.ref).length:Nat):Int)=V.int 0)=false:=decide_eq_false (by
     intro z
     have:=V.int.inj z
     have:=g.pos
     omega)
   rw[e0]
   refine jR ⟨_,rfl,l,_,rfl,.inl (.of g.at_),_,_,rfl,rfl,_,rfl,?_⟩
   have e1:decide ((14:Int) < (((ps.map V.ref).length:Nat):Int))=false:=decide_eq_false (by
     have:=g.le
     omega)
   refine YT (λz=>absurd z (by rw[e1];decide)) (λ_=>?_)
   refine⟨_,rfl,l,rfl,⟨_,.of g.at_⟩,?_⟩
   refine zE (K:=K) (a:=l) (xs:=ps.map V.ref) (λi σ' H'=>∃v1 v2,σ'=[some (.ref l),v1,v2]/\Same H H') ⟨none,none,rfl,Same.refl H⟩ (λi σ' H' _ ⟨_,_,_,s⟩=>.of (s _ _ g.at_)) ?_ ?_
   . rintro i x σ' H' p hx hp ⟨v1,v2,rfl,s1⟩
     have g1:=g.mono (s1.trans (qh (o:=.tup [.int (i:Nat),x]) hp))
     obtain⟨p',q',r,rfl,_,hr',a,b⟩:=g1.rows.item hx
     refine⟨p,_,rfl,.of qd,rfl,_,_,rfl,_,_,rfl,rfl,_,rfl,p',q',r,rfl,a,b,g.good.nm r hr',g.good.names r hr',Nat.le_trans (g.good.len r hr') (by decide),λH2 s2=>⟨_,rfl,jR ⟨_,_,rfl,?_⟩⟩⟩
     exact(s1.trans (qh hp)).trans s2
   . rintro σ' H' ⟨v1,v2,rfl,s1⟩
     exact q H' s1
theorem Vj {X:Cx} {x:Str} {st:Stmt} {ps:List Str} {f:Addr} {fd:FuncData} {k:Nat} {sp:Sp} {E:XK} {e:Expr} {es:List Expr} {t:TA} {p pos:Pos} (h:j0 X.K X.mg x st ps f fd) (G:qu X.prog X.w X.K X.mg X.base (Qv X.prog X.w) k f fd ps sp) (hr:qW k X.A) (hx:jP (Qv X.prog X.w) X E)
   (hg:Gl X x) (ha:JA X (e::es) t) (hdb:(x==("__debug__":Str))=false:=by decide) (he:starEach (e::es) X.env=(false,eval e X.env)::starEach es X.env:=by rfl) (hpl:(backTo pos (starEach es X.env)).any (·.1)=false:=by rfl):
   JE X (.Call (.Name x p) (e::es) [] pos) (Zq sp [] E t):=.of (Vc G hr hg h.ns h.fn.kp h.bi .nil hx ha.to hdb he hpl)
theorem VM:qB ["self","found"] ["self","found"] (qm jQ):=⟨rfl,rfl,rfl,by decide+kernel,rfl,by decide+kernel,by decide+kernel⟩
theorem yc:qB ["self","found"] ["self","found"] (qm Z2):=⟨rfl,rfl,rfl,by decide+kernel,rfl,by decide+kernel,by decide+kernel⟩
theorem Zj {D C f:Addr} {fd:FuncData} (x:Vz K mg D "TooMany" "TooMany.__init__" jQ "found" C f fd):qu P w K mg base jh 1 f fd ["self","found"] (xN C "found"):=by
 refine x.fn.okJ VM (λvs H Q E h=>?_) (λcdv A outer s H vs Q E hr h=>?_)
 . obtain⟨e,y,rfl,_⟩:=h
   rfl
 . obtain⟨e,y,rfl,hH,k⟩:=h
   exact⟨_,qj (vO (bm:=.ref D::j4) (jv 0) (jv 1) rfl),_,rfl,_,rfl,e,C,rfl,hH,x.cls,uX D,x.na,λdx hdx=>k dx hdx⟩
theorem yy {D C f:Addr} {fd:FuncData} (x:Vz K mg D "Twice" "Twice.__init__" Z2 "found" C f fd):qu P w K mg base jh 1 f fd ["self","found"] (xN C "found"):=by
 refine x.fn.okJ yc (λvs H Q E h=>?_) (λcdv A outer s H vs Q E hr h=>?_)
 . obtain⟨e,y,rfl,_⟩:=h
   rfl
 . obtain⟨e,y,rfl,hH,k⟩:=h
   exact⟨_,qj (vO (bm:=.ref D::j4) (jv 0) (jv 1) rfl),_,rfl,_,rfl,e,C,rfl,hH,x.cls,uX D,x.na,λdx hdx=>k dx hdx⟩
theorem yw {f D CM fX:Addr} {fd fdX:FuncData} (F:Qe K "need_few_roads" "need_few_roads" UZ f fd) (B:Zp mg) (T:Qd K mg) (xM:Vz K mg D "TooMany" "TooMany.__init__" jQ "found" CM fX fdX):qu P w K mg base (Qv P w) 3 f fd ["rows"] (ZZ CM):=by
 obtain⟨tm,hmr⟩:=T.mr
 have GX:qu P w K mg base jh 1 fX fdX ["self","found"] (xN CM "found"):=Zj xM
 refine F.okX W0 (λvs H Q E h=>?_) (λcdv A outer s H vs Q E hr h=>?_)
 . obtain⟨l,ps,rs,rfl,_⟩:=h
   rfl
 . obtain⟨l,ps,rs,rfl,g,big,sm,q⟩:=h
   refine⟨_,qg (qA (i:=1) W0.nd rfl (Or.inl rfl) (qr (Zn rfl) (by rfl) T.sum boot_sum (qb (j7 (N':=["row"]) (ix:=[none]) (te:=Uw (λxs H Q=>∃p ys,xs=[.ref p]/\(SqL K H p ys\/Zc K H p ys)/\Q (.int ys.length) H) (qI (zN (Zi K) (qL 0) (tC (.int 1))) jH)) rfl ⟨rfl,rfl,rfl,rfl,rfl⟩ (qJ (jv 0)) (λC s2 H2 fp pins=>
       ⟨qp (i:=0) (wp _) rfl (Or.inl rfl),jc,qr qy (by rfl) B.len boot_len (qb (qS qR (jv 0) qi (λ_ _=>rfl)) qe)⟩)) qe)))
     (qj (qU (qt Q7 (jv 1) (jz (v:=.int 40) (by rfl) hmr ⟨_,rfl⟩) (qx _)) (qj (J4 rfl Je (J6 xM.mkr GX hr (by rfl) xM.ns xM.bi JY (qb (jv 1) qe)))) qz)),?_⟩
   refine⟨_,rfl,l,rfl,⟨_,.of g.at_⟩,λD0 hD=>?_⟩
   refine q5 (K:=K) (a:=l) (xs:=ps.map V.ref) (λi σ' H'=>∃v,σ'=[v]/\H'=upd H D0 (.lst (((rs.take i).map λr=>r.2.length).map λn=>V.int ((n:Nat):Int)))) ⟨none,rfl,rfl⟩ (λi σ' H' _ ⟨_,_,e⟩=>e▸.of (qk g.at_ hD)) ?_ ?_
   . rintro i x σ' H' hx ⟨v,rfl,rfl⟩
     obtain⟨p',q',r,rfl,er,hr',a,b⟩:=g.rows.item hx
     have hi:=(List.getElem?_eq_some_iff.mp er).1
     refine⟨_,rfl,p',_,1,_,rfl,rfl,.of (qk a hD),rfl,q',_,rfl,.inr (.of (qk b hD)),_,qd,?_,_,rfl,?_⟩
     . rw[List.length_map,List.length_map,List.length_take]
       have:=g.le
       exact qo (by omega)
     . rw[jw,List.take_add_one,er,List.map_append,List.map_append,List.length_map]
       rfl
   . rintro σ' H' ⟨v,rfl,rfl⟩
     have e:rs.take (ps.map V.ref).length=rs:=List.take_of_length_le (by rw[List.length_map,g.rows.1];exact Nat.le_refl _)
     rw[e]
     refine⟨D0,_,rfl,.of qd,Nat.lt_of_lt_of_le sm (by decide),?_⟩
     have s0:=qh (o:=HO.lst ((rs.map λr=>r.2.length).map λn=>V.int ((n:Nat):Int))) hD
     generalize upd H D0 (.lst ((rs.map λr=>r.2.length).map λn=>V.int ((n:Nat):Int)))=H1 at s0
     refine⟨_,rfl,_,_,rfl,rfl,_,rfl,jW (decide_eq_true (by show (40:Int) < _;omega)) ?_⟩
     refine⟨_,rfl,by show 1<=sizeLine;decide,λe he=>⟨e,_,rfl,qd,λdx hdx=>⟨rfl,e,CM,dx,rfl,(Qx he hdx).2.1,xM.rcls,?_⟩⟩⟩
     obtain⟨m1,m2,m3⟩:=Qx (fs:=[(Str.ofString "found",V.int ((rs.map λr=>r.2.length).sum:Nat))]) he hdx
     exact q _ dx (s0.trans m1) m3
theorem vy {f D CM fX:Addr} {fd fdX:FuncData} (F:Qe K "need_form" "need_form" z7 f fd) (B:Zp mg) (G:Qu mg) (T:Qd K mg) (xM:Vz K mg D "TooMany" "TooMany.__init__" jQ "found" CM fX fdX):qu P w K mg base (Qv P w) 3 f fd ["rows"] (JQ CM):=by
 obtain⟨tm,hmp⟩:=T.mp
 have GX:qu P w K mg base jh 1 fX fdX ["self","found"] (xN CM "found"):=Zj xM
 refine F.okX Jx (λvs H Q E h=>?_) (λcdv A outer s H vs Q E hr h=>?_)
 . obtain⟨l,xs,rfl,_⟩:=h
   rfl
 . obtain⟨l,xs,rfl,hl,big,sm,q⟩:=h
   refine⟨_,qg (qU (Qi (Qb (jY (qr j2 (by rfl) T.isi boot_isinstance (qb (jv 0) (qb (QT (v:=.ty "list") (by rfl) G.lst boot_list rfl) qe)))))
       (j5 (qt Qs (qr qy (by rfl) B.len boot_len (qb (jv 0) qe)) qi (qx _)))).pt qM qz)
     (qg (qU (qt Q7 (qr qy (by rfl) B.len boot_len (qb (jv 0) qe)) (jz (v:=.int 14) (by rfl) hmp ⟨_,rfl⟩) (qx _)) (qj (J4 rfl Je (J6 xM.mkr GX hr (by rfl) xM.ns xM.bi JY (qb (qr qy (by rfl) B.len boot_len (qb (jv 0) qe)) qe)))) qz) qM),?_⟩
   refine⟨_,rfl,_,_,_,_,rfl,rfl,.lst hl,T.kll,_,rfl,jR ⟨_,rfl,l,_,rfl,.inl (.of hl),rfl,_,rfl,?_⟩⟩
   refine jM (decide_eq_false λz=>by have:=V.int.inj z;omega) ⟨_,rfl,l,_,rfl,.inl (.of hl),_,_,rfl,rfl,_,rfl,jW (decide_eq_true (by omega)) ?_⟩
   refine⟨_,rfl,l,_,rfl,.inl (.of hl),by show 1<=sizeLine;decide,λe he=>⟨e,_,rfl,qd,λdx hdx=>⟨rfl,e,CM,dx,rfl,(Qx he hdx).2.1,xM.rcls,?_⟩⟩⟩
   obtain⟨m1,m2,m3⟩:=Qx (fs:=[(Str.ofString "found",V.int (xs.length:Nat))]) he hdx
   exact q _ dx m1 m3
theorem vp {f D CM fX:Addr} {fd fdX:FuncData} (F:Qe K "need_rows" "need_rows" Jq f fd) (B:Zp mg) (G:Qu mg) (T:Qd K mg) (N:Y7 K mg) (xM:Vz K mg D "TooMany" "TooMany.__init__" jQ "found" CM fX fdX):qu P w K mg base (Qv P w) 5 f fd ["rows"] (ZZ CM):=by
 obtain⟨fN,fdN,hN⟩:=N.nm
 obtain⟨fP,fdP,hP⟩:=N.tn
 obtain⟨fR,fdR,hR⟩:=N.rw
 obtain⟨fF,fdF,hF⟩:=N.fo
 obtain⟨fO,fdO,hO⟩:=N.ow
 obtain⟨fE,fdE,hE⟩:=N.en
 obtain⟨fW,fdW,hW⟩:=N.fw
 have GF:qu P w K mg base jh 4 fF fdF ["rows"] UI:=vz hF.fn B G T hN hP hR
 have GO:qu P w K mg base jh 1 fO fdO ["order"] UM:=vo hO.fn
 have GE:qu P w K mg base jh 1 fE fdE ["ends","order"] YA:=Vd hE.fn
 have GW:qu P w K mg base (Qv P w) 3 fW fdW ["rows"] (ZZ CM):=yw hW.fn B T xM
 refine F.okX Jw (λvs H Q E h=>?_) (λcdv A outer s H vs Q E hr h=>?_)
 . obtain⟨l,ps,rs,rfl,_⟩:=h
   rfl
 . obtain⟨l,ps,rs,rfl,g,big,sm,q⟩:=h
   refine⟨_,qg (jf (ja hF GF hr (by rfl) (qb (jv 0) qe)))
     (qg (QJ (i:=1) (N':=["row"]) (ix:=[none]) (te:=zN (Zi K) (qL 0) (tC (.int 0))) Jw.nd rfl (Or.inl rfl) rfl ⟨rfl,rfl,rfl,rfl,rfl⟩ (qJ (jv 0)) (λC s2 H2 fp pins=>
       ⟨qp (i:=0) (wp _) rfl (Or.inl rfl),jc,qS qR (jv 0) qi (λ_ _=>rfl)⟩))
     (qg (jf (ja hO GO (hr.mono (by decide)) (by rfl) (qb (jv 1) qe)))
     (qg (ZJ (t:=UD (XB K (qL 0)) (js 2) (UE (Zq YA [] E0 (qI (zN (Zi K) (qL 2) (tC (.int 1))) (qI (qL 1) jH))))) λpn W hO hP hR=>jx hO rfl (qJ (jv 0)) (qp (i:=2) Jw.nd rfl (Or.inl rfl))
       (qj (jf (ja hE GE (hr.mono (by decide)) (by rfl) (qb (qS qR (jv 2) qi (λ_ _=>rfl)) (qb (jv 1) qe))))))
     (qj (jf (Vj hW GW (hr.mono (by decide)) Qn (by rfl) (qb (jv 0) qe))))))),?_⟩
   refine⟨_,rfl,l,ps,rs,rfl,g,λH1 s1=>?_⟩
   have g1:=g.mono s1
   refine⟨_,rfl,l,rfl,⟨_,.of g1.at_⟩,λD hD=>?_⟩
   refine q5 (K:=K) (a:=l) (xs:=ps.map V.ref) (λi σ' H'=>∃v,σ'=[v]/\H'=upd H1 D (.lst (((rs.take i).map (·.1)).map V.str))) ⟨none,rfl,rfl⟩ (λi σ' H' _ ⟨_,_,e⟩=>e▸.of (qk g1.at_ hD)) ?_ ?_
   . rintro i x σ' H' hx ⟨v,rfl,rfl⟩
     obtain⟨p',q',r,rfl,er,hr',a,b⟩:=g1.rows.item hx
     have hi:=(List.getElem?_eq_some_iff.mp er).1
     refine⟨_,rfl,p',_,0,_,rfl,rfl,.of (qk a hD),rfl,_,qd,?_,_,rfl,?_⟩
     . rw[List.length_map,List.length_map,List.length_take]
       have:=g.le
       exact qo (by omega)
     . rw[jw,List.take_add_one,er,List.map_append,List.map_append]
       rfl
   . rintro σ' H' ⟨v,rfl,rfl⟩
     have e:rs.take (ps.map V.ref).length=rs:=List.take_of_length_le (by rw[List.length_map,g.rows.1];exact Nat.le_refl _)
     rw[e]
     refine⟨_,rfl,D,rs.map (·.1),rfl,qd,g.good.nd,by rw[List.length_map];have:=g.le;omega,λH2 s2=>?_⟩
     have sD:Same H1 H2:=(qh hD).trans s2
     have hD2:H2 D=some (.lst ((rs.map (·.1)).map V.str)):=s2 _ _ qd
     have g2:=g1.mono sD
     refine⟨_,rfl,l,rfl,⟨_,.of g2.at_⟩,?_⟩
     refine jA (K:=K) (a:=l) (xs:=ps.map V.ref) (λi σ' H'=>∃v,σ'=[some (.ref l),some (.ref D),v]/\Same H2 H') ⟨none,rfl,Same.refl H2⟩ (λi σ' H' _ ⟨_,_,s⟩=>.of (s _ _ g2.at_)) ?_ ?_
     . rintro i x σ' H' hx ⟨v,rfl,s3⟩
       obtain⟨p',q',r,rfl,er,hr',a,b⟩:=(g2.mono s3).rows.item hx
       refine⟨_,rfl,p',_,1,_,rfl,rfl,.of a,rfl,_,rfl,q',D,r.2,rs.map (·.1),rfl,b,s3 _ _ hD2,g.good.rd r hr',g.good.to r hr',Nat.le_trans (g.good.len r hr') (by decide),λH4 s4=>⟨_,rfl,s3.trans s4⟩⟩
     . rintro σ' H' ⟨v,rfl,s3⟩
       exact⟨_,rfl,l,ps,rs,rfl,g2.mono s3,big,sm,λH4 dx s4=>q H4 dx (((s1.trans sD).trans s3).trans s4)⟩
theorem vq {f D CM fX:Addr} {fd fdX:FuncData} (F:Qe K "need_rows" "need_rows" Jq f fd) (B:Zp mg) (G:Qu mg) (T:Qd K mg) (N:Y7 K mg) (xM:Vz K mg D "TooMany" "TooMany.__init__" jQ "found" CM fX fdX):qu P w K mg base (Qv P w) 5 f fd ["rows"] (JQ CM):=by
 obtain⟨fF,fdF,hF⟩:=N.fo
 have GF:qu P w K mg base (Qv P w) 3 fF fdF ["rows"] (JQ CM):=vy hF.fn B G T xM
 refine F.okX Jw (λvs H Q E h=>?_) (λcdv A outer s H vs Q E hr h=>?_)
 . obtain⟨l,xs,rfl,_⟩:=h
   rfl
 . obtain⟨l,xs,rfl,h⟩:=h
   exact⟨_,qg (jf (Vj hF GF (hr.mono (by decide)) Qn (by rfl) (qb (jv 0) qe))) qM,_,rfl,l,xs,rfl,h⟩
def UN (CM:Addr):Sp:=λvs H Q E=>∃(x l:Addr),vs=[.ref x,.ref l]/\(ZZ CM [.ref l] H Q E\/JQ CM [.ref l] H Q E)
theorem Yd {f fW CG D CM fX:Addr} {fd fdW fdX:FuncData} (C:w5 K mg CG f fd) (B:Zp mg) (G:Qu mg) (T:Qd K mg) (N:Y7 K mg) (hW:j0 K mg "need_rows" Jq ["rows"] fW fdW) (xM:Vz K mg D "TooMany" "TooMany.__init__" jQ "found" CM fX fdX):qu P w K mg base (Qv P w) 6 f fd ["self","rows"] (UN CM):=by
 have GW:qu P w K mg base (Qv P w) 5 fW fdW ["rows"] (λvs H Q E=>ZZ CM vs H Q E\/JQ CM vs H Q E):=(vp hW.fn B G T N xM).either (vq hW.fn B G T N xM)
 refine C.fn.okX xV (λvs H Q E h=>?_) (λcdv A outer s H vs Q E hr h=>?_)
 . obtain⟨x,l,rfl,_⟩:=h
   rfl
 . obtain⟨x,l,rfl,h⟩:=h
   refine⟨_,qg (jf (Vj hW GW hr Qn (by rfl) (qb (jv 1) qe))) qM,_,rfl,?_⟩
   rcases h with ⟨l',ps,rs,e,h⟩ | ⟨l',xs,e,h⟩
   . exact .inl ⟨l',ps,rs,e,h⟩
   . exact .inr ⟨l',xs,e,h⟩
def wW (sp:Sp):Prop:=∀(vs:List V) (H:Hp) (Q Q':VK) (E E':XK),sp vs H Q E->(∀v H1,Q v H1->Q' v H1)->(∀c d Hx,E c d Hx->E' c d Hx)->sp vs H Q' E'
def ya (CW CM:Addr) (Cs:Addr->Sp->Prop):Sp:=λvs H Q _=>∃(fc a b:Addr) (sp:Sp),vs=[.ref fc,.ref a,.ref b]/\Cs fc sp/\sp [.ref a,.ref b] H (λv H1=>∀p,H1 p=none->Q (.ref p) (upd H1 p (.tup [.str (Str.ofString "told"),v])))
 (λc d Hx=>∃C dx v bb,c=.ref C/\d=some dx/\Same H Hx/\Hx dx=some (.xd [(Str.ofString "found",v)])/\wR CW CM C bb/\∀H' p,QY H H'->Nn H' p CW CM bb v->Q (.ref p) H')
abbrev nCd:List Str:=["_law_call","_law_one","_law_other","_law_told","e"]
abbrev xl:List Str:=["_law_call","_law_one","_law_other"]
theorem UU:qB nCd xl (qm ub):=⟨rfl,rfl,rfl,by decide+kernel,rfl,by decide+kernel,by decide+kernel⟩
theorem Kb {k:Nat} {f fK D CW CM:Addr} {fd fdK:FuncData} {Cs:Addr->Sp->Prop} (F:Qe K "_law_called" "_law_called" ub f fd) (XS:y8 K mg D CW CM) (ZE:kA K mg D CW CM) (T:Qd K mg) (hK:j0 K mg "_law_kinds" uH ["_law_error"] fK fdK) (hk:1<=k)
   (hC:∀f sp,Cs f sp->∃(fd:FuncData) (ps:List Str),qu P w K mg base (Qv P w) k f fd ps sp/\PySem.W.keepIn K (.ref f)=true/\jG K fd ps []/\wW sp):qu P w K mg base jh (k+1) f fd xl (ya CW CM Cs):=by
 have GK:kB P w K mg base 1 fK fdK ["_law_error"] (xL CW CM):=u8 hK.fn T XS ZE
 refine F.okJ UU (λvs H Q E h=>?_) (λcdv A outer s H vs Q E hr h=>?_)
 . obtain⟨fc,a,b,sp,rfl,_⟩:=h
   rfl
 . obtain⟨fc,a,b,sp,rfl,cs,h⟩:=h
   have r1:qW 1 _:=hr.mono hk
   refine⟨_,qg (qA (i:=3) UU.nd rfl (Or.inl rfl) wH)
     (qg (wE rfl rfl (λpn W E hE=>qj (qA (i:=3) UU.nd rfl (Or.inl rfl) (jd (qb jy (qb (vT (i:=0) (C:=Cs) rfl (.inl rfl) (λf sp c=>by
           obtain⟨fd',ps',g1,g2,g3,_⟩:=hC f sp c
           exact⟨k,fd',ps',g1,hr,g2,g3⟩) hE (qb (jv 1) (qb (jv 2) qe))) qe)))))
       (vR (j:=4) (ts:=kU (Ju (qI (tC (.str (Str.ofString "none"))) (qI (Zq (xL CW CM) [] E0 (qI (qL 4) jH)) (qI (qL 4) jH)))) (js 3)) (by rfl) ZE.nD ZE.cD UU.nd rfl rfl (λv E=>qj (qA (i:=3) UU.nd rfl (Or.inl rfl) (jd (qb jy (qb (vU GK r1 (by rfl) hK.ns hK.fn.kp hK.bi (qb (jv 4) qe)) (qb (jv 4) qe))))))
       vQ))
     (qj (qP (jv 3)))),?_⟩
   refine⟨λC dx Hx=>∃v bb,Same H Hx/\Hx dx=some (.xd [(Str.ofString "found",v)])/\wR CW CM C bb/\∀H' p,QY H H'->Nn H' p CW CM bb v->Q (.ref p) H',⟨fc,sp,rfl,cs,_,rfl,_,rfl,?_⟩,?_⟩
   . obtain⟨_,_,_,_,_,mono⟩:=hC fc sp cs
     refine mono _ _ _ _ _ _ h ?_ ?_
     . intro v H1 hv
       exact⟨by show 2<=sizeLine;decide,λp hp=>⟨_,rfl,hv p hp⟩⟩
     . rintro c d Hx ⟨C,dx,v,bb,rfl,rfl,sx,hdx,t,q⟩
       exact⟨rfl,C,dx,rfl,rfl,v,bb,sx,hdx,t,q⟩
   . rintro a0 C dx T' Hx H' ⟨v,bb,sx,hdx,t,q⟩ ha kp ha'
     have nda:dx≠a0:=λz=>by
       rw[z,ha]at hdx
       cases hdx
     have hdx':=kp dx _ nda hdx
     have k1:QY H H':=λb o hb nx=>kp b o (λz=>by
       rw[z]at hb
       have:=sx _ _ hb
       rw[ha]at this
       exact nx _ (Option.some.inj this).symm) (sx _ _ hb)
     obtain⟨ec,na,fE,em⟩:=XS.cls t
     refine⟨fE,_,em,?_⟩
     rw[if_pos (by simp [List.contains_cons])]
     refine⟨_,rfl,a0,C,dx,_,_,bb,rfl,ha',hdx',t,λlk hlk=>⟨_,rfl,by show 3<=sizeLine;decide,λp hp=>⟨_,rfl,?_⟩⟩⟩
     have s1:=qh (o:=HO.lst (Ko bb)) hlk
     have s2:=qh (o:=HO.tup [V.str (Str.ofString "none"),.ref lk,.ref a0]) hp
     have s12:=s1.trans s2
     exact q _ p (k1.trans s12.keep) ⟨lk,a0,C,dx,_,qd,qk qd hp,s12 _ _ ha',s12 _ _ hdx',t⟩
end
end Rh
set_option Elab.async false
set_option linter.all false
set_option maxRecDepth 100000
set_option maxHeartbeats 4000000
namespace Rh
open PySem L2 PyProof.Rows
abbrev KW (C:Addr) (sp:Sp) (E:XK) (t:TA):TE:=λσ H Q=>t σ H λvs H1=>vs.length<=sizeLine/\∀x,H1 x=none->sp (.ref x::vs) (upd H1 x (J8 x C)) (λv H2=>v=.non/\Q (.ref x) H2) E
def qF (rs:ju):Nat:=(rs.map λr=>r.2.length).sum
theorem z8 (a b:ju):qF (a++b)=qF a+qF b:=by unfold qF;rw[List.map_append,List.sum_append]
theorem Z9 {rs:ju} (g:qv rs):qF (jt rs)=qF rs:=by
 unfold qF jt
 rw[List.map_map]
 congr 1
 exact List.map_congr_left λr hr=>(Ql g hr).length_eq
def QD (rs us:ju):Option (Bool×V):=match (us.map (·.1)).find? (λz=>decide (z∈rs.map (·.1))) with
 | some z=>some (true,.str z)
 | none=>if 14 < rs.length+us.length then some (false,.int ((rs.length+us.length:Nat):Int)) else if 40 < qF rs+qF us then some (false,.int ((qF rs+qF us:Nat):Int)) else none
def VF (CG CW CM:Addr):Sp:=λvs H Q E=>∃(g h:Addr) (rs us:ju),vs=[.ref g,.ref h]/\jJ CG H g rs/\jJ CG H h us/\qv rs/\qv us/\0 < rs.length/\rs.length<=14/\us.length<=14/\
 (∀b v,QD rs us=some (b,v)->∀Hx dx C,Same H Hx->Hx dx=some (.xd [(Str.ofString "found",v)])->wR CW CM C b->E (.ref C) (some dx) Hx)/\
 (QD rs us=none->∀H' x,Same H H'->jJ CG H' x (jt rs++jt us)->qv (jt rs++jt us)->Q (.ref x) H')
theorem yG (CG CW CM:Addr):wW (VF CG CW CM):=λvs H Q Q' E E' ⟨g,h,rs,us,a1,a2,a3,a4,a5,a6,a7,a8,a9,a10⟩ hQ hE=>⟨g,h,rs,us,a1,a2,a3,a4,a5,a6,a7,a8,λb v e Hx dx C s hd t=>hE _ _ _ (a9 b v e Hx dx C s hd t),λe H' x s gr gd=>hQ _ _ (a10 e H' x s gr gd)⟩
theorem zV {rs:ju} (g:qv rs):jB (jt rs):=by
 refine⟨λr hr=>?_,by rw[QM];exact g.nd,λr hr z hz=>?_,λr hr=>?_,λr hr=>?_⟩
 all_goals obtain⟨r0,h0,rfl⟩:=List.mem_map.mp hr
 . exact g.nm r0 h0
 . rw[QM];exact(List.mem_filter.mp hz).1
 . exact g.nd.sublist List.filter_sublist
 . show (ji rs r0).length<=40
   rw[(Ql g h0).length_eq]
   exact g.len r0 h0
theorem VA {rs us:ju} (a:jB rs) (b:jB us) (d:∀z∈us.map (·.1),z∉rs.map (·.1)):jB (rs++us):=by
 refine⟨λr hr=>?_,?_,λr hr z hz=>?_,λr hr=>?_,λr hr=>?_⟩
 . rcases List.mem_append.mp hr with hr | hr
   . exact a.nm r hr
   . exact b.nm r hr
 . rw[List.map_append]
   exact List.nodup_append.mpr ⟨a.nd,b.nd,λx hx y hy e=>d y hy (by rw[<-e];exact hx)⟩
 . rw[List.map_append]
   rcases List.mem_append.mp hr with hr | hr
   . exact List.mem_append_left _ (a.to r hr z hz)
   . exact List.mem_append_right _ (b.to r hr z hz)
 . rcases List.mem_append.mp hr with hr | hr
   . exact a.rd r hr
   . exact b.rd r hr
 . rcases List.mem_append.mp hr with hr | hr
   . exact a.len r hr
   . exact b.len r hr
theorem qH.app {H:Hp} {ps qs:List Addr} {rs us:ju} (a:qH H ps rs) (b:qH H qs us):qH H (ps++qs) (rs++us):=⟨by rw[List.length_append,List.length_append,a.1,b.1],λi p r e1 e2=>by
 by_cases hi:i < ps.length
 . rw[List.getElem?_append_left hi]at e1
   rw[List.getElem?_append_left (by rw[<-a.1];exact hi)]at e2
   exact a.2 i p r e1 e2
 . rw[List.getElem?_append_right (by omega)]at e1
   rw[List.getElem?_append_right (by rw[<-a.1];omega),<-a.1]at e2
   exact b.2 _ p r e1 e2⟩
theorem XF {p:Str->Bool}:∀{l:List Str} {z:Str},l.find? p=some z->∃a b,l=a++z::b/\p z=true/\∀y∈a,p y=false
 | [],_,h=>by cases h
 | x::l,z,h=>by
   rw[List.find?_cons]at h
   cases c:p x with
   | true=>
     rw[c]at h
     cases h
     exact⟨[],l,rfl,c,λy hy=>(nomatch hy)⟩
   | false=>
     rw[c]at h
     obtain⟨a,b,e,pz,no⟩:=XF h
     refine⟨x::a,b,by rw[e];rfl,pz,λy hy=>?_⟩
     rcases List.mem_cons.mp hy with e | hy
     . rw[e];exact c
     . exact no y hy
section
variable {P:Program} {w:World} {K:PySem.W.Frag} {mg:Str->Option Value} {base:Heap}
abbrev nJn:List Str:=["one","other","ahead","name"]
abbrev Xa:List Str:=["one","other"]
theorem xU:qB nJn Xa (qm Xn):=⟨rfl,rfl,rfl,by decide+kernel,rfl,by decide+kernel,by decide+kernel⟩
theorem Ka {f CG D CW CM fW fRw:Addr} {fd fdW fdRw:FuncData} (F:Qe K "joined" "joined" Xn f fd) (B:Zp mg) (G:Qu mg) (T:Qd K mg) (N:Y7 K mg) (M:GM K mg CG) (hW:j0 K mg "need_rows" Jq ["rows"] fW fdW) (hRw:kH K CG "rows" "Ground.rows" Jy ["self"] fRw fdRw) (XS:y8 K mg D CW CM):
   qu P w K mg base (Qv P w) 8 f fd Xa (VF CG CW CM):=by
 obtain⟨fI,fdI,C⟩:=M.cls
 obtain⟨fM,fdM,hM⟩:=M.nm
 obtain⟨fX,fdX,xW⟩:=XS.w
 obtain⟨fY,fdY,xM⟩:=XS.m
 have GN:qu P w K mg base jh 1 fM fdM ["self"] (JN CG):=Yc hM.fn C G
 have GRw:qu P w K mg base jh 1 fRw fdRw ["self"] (Yz CG):=Xt hRw.fn C G
 have GX:qu P w K mg base jh 1 fX fdX ["self","found"] (xN CW "found"):=yy xW
 have GI:qu P w K mg base (Qv P w) 6 fI fdI ["self","rows"] (λvs H Q E=>JP CG vs H Q E\/UN CM vs H Q E):=(zj C B G T N hW).toX.either (Yd C B G T N hW xM)
 refine F.okX xU (λvs H Q E h=>?_) (λcdv A outer s H vs Q E hr h=>?_)
 . obtain⟨g,h,rs,us,rfl,_⟩:=h
   rfl
 . obtain⟨g,h,rs,us,rfl,gr,gh,gd,ud,pos,le1,le2,qX,qQ⟩:=h
   have r1:qW 1 _:=hr.mono (by decide)
   have r2:qW 2 _:=hr.mono (by decide)
   refine⟨_,qg (qA (i:=2) xU.nd rfl (Or.inl rfl) (zx hM C.cl GN r1 (jv 0)))
     (qg (ZJ (t:=UD (XB K (ZW CG "names" (JN CG) [] E0 (qL 1) jH)) (js 3) (UC (Xh (zN (KM K false) (qL 3) (qL 2))) (UW K E (KW CW (xN CW "found") E0 (qI (qL 3) jH))) Xi)) λpn W hO hP hR=>
         jx hO rfl (qJ (zx hM C.cl GN r1 (jv 1))) (qp (i:=3) xU.nd rfl (Or.inl rfl))
         (qj (qU (qt Yb (jv 3) (jv 2) (by with_unfolding_all rfl)) (qj (J4 rfl hR (J6 xW.mkr GX r2 (by rfl) xW.ns xW.bi JY (qb (jv 3) qe)))) qz)))
     (qj (qP (ZN C.mkr GI hr (by rfl) C.ns C.bi .nil Qn (qb (qV YJ (zx hRw C.cl GRw r1 (jv 0)) (zx hRw C.cl GRw r1 (jv 1))) qe))))),?_⟩
   obtain⟨dx,fs,hg,l1,_⟩:=gr.ins
   refine⟨_,rfl,g,dx,fs,rfl,hg,l1,g,rs,rfl,gr,λln hln=>?_⟩
   have s1:Same H (upd H ln (.lst ((rs.map (·.1)).map V.str))):=qh hln
   have h1:upd H ln (.lst ((rs.map (·.1)).map V.str)) ln=some (.lst ((rs.map (·.1)).map V.str)):=qd
   generalize upd H ln (.lst ((rs.map (·.1)).map V.str))=H1 at s1 h1
   obtain⟨dxh,fsh,hgh,l1h,_⟩:=(gh.mono s1).ins
   refine⟨_,rfl,h,dxh,fsh,rfl,hgh,l1h,h,us,rfl,gh.mono s1,λlm hlm=>?_⟩
   have s2:Same H1 (upd H1 lm (.lst ((us.map (·.1)).map V.str))):=qh hlm
   have h2:upd H1 lm (.lst ((us.map (·.1)).map V.str)) lm=some (.lst ((us.map (·.1)).map V.str)):=qd
   generalize upd H1 lm (.lst ((us.map (·.1)).map V.str))=H2 at s2 h2
   have s02:=s1.trans s2
   have h12:=s2 _ _ h1
   refine⟨lm,rfl,⟨_,.of h2⟩,?_⟩
   cases fd0:(us.map (·.1)).find? (λz=>decide (z∈rs.map (·.1))) with
   | some z=>
     have res:QD rs us=some (true,.str z):=by unfold QD;rw[fd0]
     obtain⟨a,b,eab,pz,no⟩:=XF fd0
     rw[eab]at h2
     refine jA (K:=K) (a:=lm) (xs:=(a++z::b).map V.str) (λi σ' X=>(∃v,σ'=[some (.ref g),some (.ref h),some (.ref ln),v])/\X=H2/\i<=a.length) ⟨⟨_,rfl⟩,rfl,Nat.zero_le _⟩ (λi σ' X _ ⟨_,e,_⟩=>by rw[e];exact .of h2) ?_ ?_
     . rintro i y σ' X hy ⟨⟨v,rfl⟩,rfl,hi⟩
       rcases Nat.lt_or_ge i a.length with c | c
       . rw[List.map_append,List.getElem?_append_left (by rw[List.length_map];exact c)]at hy
         obtain⟨x,ex,hx,rfl⟩:=Qw hy
         have nx:x∉rs.map (·.1):=of_decide_eq_false (no x hx)
         have ix:zB (.str x) ((rs.map (·.1)).map V.str)=false:=by
           cases e:zB (.str x) ((rs.map (·.1)).map V.str) with
           | false=>rfl
           | true=>exact absurd (ZP.mp e) nx
         refine⟨_,rfl,_,rfl,ln,_,rfl,.inl (.of h12),rfl,QK _,_,rfl,?_⟩
         show if (zB (.str x) ((rs.map (·.1)).map V.str))=true then _ else _
         exact jM ix ⟨⟨_,rfl⟩,rfl,c⟩
       . have e:i=a.length:=by omega
         subst e
         rw[List.map_append,List.getElem?_append_right (by rw[List.length_map];exact Nat.le_refl _),List.length_map,Nat.sub_self]at hy
         obtain rfl:V.str z=y:=by simpa using hy
         refine⟨_,rfl,_,rfl,ln,_,rfl,.inl (.of h12),rfl,QK _,_,rfl,?_⟩
         show if (zB (.str z) ((rs.map (·.1)).map V.str))=true then _ else _
         refine jW (ZP.mpr (of_decide_eq_true pz)) ?_
         refine⟨_,rfl,by show 1<=sizeLine;decide,λe he=>⟨e,_,rfl,qd,λdx hdx=>⟨rfl,e,CW,dx,rfl,(Qx he hdx).2.1,xW.rcls,?_⟩⟩⟩
         obtain⟨m1,m2,m3⟩:=Qx (fs:=[(Str.ofString "found",V.str z)]) he hdx
         exact qX _ _ res _ dx CW (s02.trans m1) m3 (.inl ⟨rfl,rfl⟩)
     . rintro σ' X ⟨_,_,hi⟩
       rw[List.length_map,List.length_append,List.length_cons]at hi
       omega
   | none=>
     have no:∀z∈us.map (·.1),z∉rs.map (·.1):=λz hz m=>by
       have:=List.find?_eq_none.mp fd0 z hz
       exact this (decide_eq_true m)
     refine jA (K:=K) (a:=lm) (xs:=(us.map (·.1)).map V.str) (λi σ' X=>(∃v,σ'=[some (.ref g),some (.ref h),some (.ref ln),v])/\X=H2) ⟨⟨_,rfl⟩,rfl⟩ (λi σ' X _ ⟨_,e⟩=>by rw[e];exact .of h2) ?_ ?_
     . rintro i y σ' X hy ⟨⟨v,rfl⟩,rfl⟩
       obtain⟨x,ex,hx,rfl⟩:=Qw hy
       have ix:zB (.str x) ((rs.map (·.1)).map V.str)=false:=by
         cases e:zB (.str x) ((rs.map (·.1)).map V.str) with
         | false=>rfl
         | true=>exact absurd (ZP.mp e) (no x hx)
       refine⟨_,rfl,_,rfl,ln,_,rfl,.inl (.of h12),rfl,QK _,_,rfl,?_⟩
       show if (zB (.str x) ((rs.map (·.1)).map V.str))=true then _ else _
       exact jM ix ⟨⟨_,rfl⟩,rfl⟩
     . rintro σ' X ⟨⟨v,rfl⟩,rfl⟩
       have gr2:=gr.mono s02
       have gh2:=gh.mono s02
       obtain⟨da,la,ra,ka,hga,_⟩:=id gr2
       refine⟨_,rfl,g,da,_,rfl,hga,wx _ _,g,rs,rfl,gr2,le1,λm1 ps1 X1 t1 nm1 hm1 rat1=>?_⟩
       obtain⟨db,lb,rb,kb,hgb,_⟩:=id (gh2.mono t1)
       refine⟨_,rfl,h,db,_,rfl,hgb,wx _ _,h,us,rfl,gh2.mono t1,le2,λm2 ps2 X2 t2 nm2 hm2 rat2=>?_⟩
       have lt1:(jt rs).length=rs.length:=List.length_map ..
       have lt2:(jt us).length=us.length:=List.length_map ..
       have p1:=rat1.1
       have p2:=rat2.1
       refine⟨m1,m2,_,_,rfl,rfl,.of (t2 _ _ hm1),.of hm2,by rw[List.length_map,List.length_map];exact Nat.le_of_lt (qo (by omega)),λl3 hl3 x dx' hx hdx' ndx=>?_⟩
       have e3:ps1.map V.ref++ps2.map V.ref=(ps1++ps2).map V.ref:=(List.map_append).symm
       rw[e3]at hx hdx' ⊢
       have t3:Same X2 (upd X2 l3 (.lst ((ps1++ps2).map V.ref))):=qh hl3
       have h3:upd X2 l3 (.lst ((ps1++ps2).map V.ref)) l3=some (.lst ((ps1++ps2).map V.ref)):=qd
       have rat3:qH (upd X2 l3 (.lst ((ps1++ps2).map V.ref))) (ps1++ps2) (jt rs++jt us):=((rat1.mono t2).mono t3).app (rat2.mono t3)
       generalize upd X2 l3 (.lst ((ps1++ps2).map V.ref))=X3 at t3 h3 rat3 hx hdx'
       have s03:=s02.trans ((t1.trans t2).trans t3)
       have s4:Same X3 (upd (upd X3 dx' (.own x)) x (.ins CG dx' [])):=λb u hb=>by
         rw[qf (ql hb hx),qf (ql hb hdx')]
         exact hb
       have wide:jB (jt rs++jt us):=VA (zV gd) (zV ud) (by rw[QM,QM];exact no)
       have rd:((jt rs++jt us).map λr=>r.2.length).sum=qF rs+qF us:=by
         show qF (jt rs++jt us)=_
         rw[z8,Z9 gd,Z9 ud]
       have few1:qF rs<=40:=gd.few
       have few2:qF us<=40:=ud.few
       have lps:(ps1++ps2).length=rs.length+us.length:=by rw[List.length_append];omega
       have lall:(jt rs++jt us).length=rs.length+us.length:=by rw[List.length_append];omega
       by_cases c1:14 < rs.length+us.length
       . have res:QD rs us=some (false,.int ((rs.length+us.length:Nat):Int)):=by unfold QD;rw[fd0];show (if _ then _ else _)=_;rw[if_pos c1]
         refine .inr ⟨x,l3,rfl,.inr ⟨l3,_,rfl,s4 _ _ h3,by rw[List.length_map];omega,by rw[List.length_map];omega,λH5 dx5 s5 hd5=>?_⟩⟩
         rw[List.length_map,lps]at hd5
         exact qX _ _ res H5 dx5 CM ((s03.trans s4).trans s5) hd5 (.inr ⟨rfl,rfl⟩)
       . by_cases c2:40 < qF rs+qF us
         . have res:QD rs us=some (false,.int ((qF rs+qF us:Nat):Int)):=by unfold QD;rw[fd0];show (if _ then _ else _)=_;rw[if_neg c1,if_pos c2]
           refine .inr ⟨x,l3,rfl,.inl ⟨l3,ps1++ps2,jt rs++jt us,rfl,⟨s4 _ _ h3,rat3.mono s4,wide,by omega,by omega⟩,by rw[rd];exact c2,by rw[rd];exact Nat.lt_of_le_of_lt (Nat.add_le_add few1 few2) (by decide),λH5 dx5 s5 hd5=>?_⟩⟩
           rw[rd]at hd5
           exact qX _ _ res H5 dx5 CM ((s03.trans s4).trans s5) hd5 (.inr ⟨rfl,rfl⟩)
         . have res:QD rs us=none:=by unfold QD;rw[fd0];show (if _ then _ else _)=_;rw[if_neg c1,if_neg c2]
           have gall:=wide.good (by rw[rd];omega)
           exact .inl (QQ h3 rat3 gall (by omega) (by omega) hx hdx' ndx λH5 s5 gr5=>qQ res H5 x (s03.trans s5) gr5 gall)
end
end Rh
set_option Elab.async false
set_option linter.all false
set_option maxRecDepth 100000
set_option maxHeartbeats 4000000
namespace Rh
open PySem L2 PyProof.Rows
theorem jm.keep {H H':Hp} {l:Addr} {ps:List Addr} {rs:ju} (h:jm H l ps rs) (s:QY H H'):jm H' l ps rs:=⟨s _ _ h.at_ (λ_ z=>nomatch z),h.rows.keep s,h.good,h.pos,h.le⟩
def kE (CG CW CM:Addr) (H:Hp) (p:Addr) (rs us:ju):Prop:=match QD rs us with
 | some (b,v)=>Nn H p CW CM b v
 | none=>∃x,H p=some (.tup [.str (Str.ofString "told"),.ref x])/\jJ CG H x (jt rs++jt us)/\qv (jt rs++jt us)
theorem kE.mono {CG CW CM:Addr} {H H':Hp} {p:Addr} {rs us:ju} (h:kE CG CW CM H p rs us) (s:Same H H'):kE CG CW CM H' p rs us:=by
 unfold kE at h ⊢
 cases e:QD rs us with
 | some bv=>rw[e]at h;exact Nn.mono h s
 | none=>
   rw[e]at h
   obtain⟨x,a,b,c⟩:=h
   exact⟨x,s _ _ a,b.mono s,c⟩
theorem Zx {p:Str->Bool}:∀{l:List Str},l.find? p=(l.filter p).head?
 | []=>rfl
 | x::l=>by
   rw[List.find?_cons,List.filter_cons]
   cases c:p x with
   | true=>rfl
   | false=>exact Zx
def k9 (CG:Addr):Sp:=λvs H Q _=>∃(l m g h:Addr) (ps qs:List Addr) (rs us:ju),vs=[.ref l,.ref m,.ref g,.ref h]/\jm H l ps rs/\jm H m qs us/\jJ CG H g rs/\jJ CG H h us/\∀H',QY H H'->Q (.bl true) H'
section
variable {P:Program} {w:World} {K:PySem.W.Frag} {mg:Str->Option Value} {base:Heap}
abbrev nJR:List Str:=["_law_rows_here","_law_more","_law_one","_law_other","_law_told","_law_both","_law_due","_law_many_here","_law_most","_law_sorted_due"]
abbrev xk:List Str:=["_law_rows_here","_law_more","_law_one","_law_other"]
theorem We:qB nJR xk (qm KL):=⟨rfl,rfl,rfl,by decide+kernel,rfl,by decide+kernel,by decide+kernel⟩
theorem Kg:(["_law_name","_law_others","_law_rows_here"]:List Str).Nodup:=by decide+kernel
theorem zI {l D:Addr} {ps:List Addr} {rs:ju} {H:Hp} {Q:Hp->Prop} (hl:H l=some (.lst (ps.map V.ref))) (rat:qH H ps rs) (le:rs.length<=500) (l40:∀r∈rs,r.2.length<=40) (hD:H D=none)
   (q:∀X qs,Same H X->X D=some (.lst (qs.map V.ref))->jT X qs rs->Q X):
   Yy (wZ K l) (zS K 2 (j8 (js 0) (j8 (js 1) zT))) xE (Ju (qI (qL 0) (qI (Uw (zb K) (qI (qL 1) jH)) jH))) D [none,none] H Q:=by
 have lps:=rat.1
 refine q5 (K:=K) (a:=l) (xs:=ps.map V.ref) (λi σ' X=>∃(v0 v1:Option V) (qs:List Addr),σ'=[v0,v1]/\Same H X/\X D=some (.lst (qs.map V.ref))/\jT (Um X D) qs (rs.take i)) ⟨none,none,[],rfl,qh hD,qd,.nil _⟩ (λi σ' X _ ⟨_,_,_,_,sx,_⟩=>.of (sx _ _ hl)) ?_ ?_
 . rintro i y σ' X hy ⟨v0,v1,qs,rfl,sx,hX,sr⟩
   obtain⟨p,t,r,rfl,er,hr',hp,ht⟩:=(rat.mono sx).item hy
   have hi:=(List.getElem?_eq_some_iff.mp er).1
   have lr:=l40 r hr'
   refine⟨p,_,rfl,.of hp,rfl,_,_,rfl,_,_,rfl,rfl,?_⟩
   refine⟨_,rfl,_,rfl,t,r.2,rfl,.of ht,by omega,λl' ys hl' pm so=>⟨by show 2<=sizeLine;decide,λp' hp'=>?_⟩⟩
   obtain⟨ey,pm2⟩:=ZD pm so (List.Perm.refl _)
   subst ey
   have s3:=qh (o:=HO.lst ((srtS r.2).map V.str)) hl'
   have s4:=qh (o:=HO.tup [V.str r.1,.ref l']) hp'
   have s34:=s3.trans s4
   have hX4:=s34 _ _ hX
   have nlD:l'≠D:=λe=>by rw[e,hX]at hl';cases hl'
   have npD:p'≠D:=λe=>by rw[e,s3 _ _ hX]at hp';cases hp'
   have sr4:=(sr.mono (Jb s34)).snoc (r:=r) pm2 (p:=p') (q:=l') (by rw[Jc npD];exact qd) (by rw[Jc nlD];exact qk qd hp')
   refine⟨_,hX4,?_,_,_,qs++[p'],rfl,Same.upd (sx.trans s34) hD,by rw[qd,List.map_append];rfl,?_⟩
   . rw[List.length_map,sr.1,List.length_take]
     exact qo (by omega)
   . rw[List.take_add_one,er,ZS]
     exact sr4
 . rintro σ' X ⟨v0,v1,qs,rfl,sx,hX,sr⟩
   rw[List.length_map,lps,List.take_of_length_le (Nat.le_refl _)]at sr
   exact q X qs sx hX (sr.mono ZT)
theorem u9 {f CG D CW CM fC fJ fRf fMn fSR:Addr} {fd fdC fdJ fdRf fdMn fdSR:FuncData} {Cs:Addr->Sp->Prop} (F:Qe K "_law_joined_right" "_law_joined_right" KL f fd) (B:Zp mg) (G:Qu mg) (T:Qd K mg) (hdi:mg "dict"=none)
   (hC:j0 K mg "_law_called" ub xl fC fdC) (GC:qu P w K mg base jh 10 fC fdC xl (ya CW CM Cs)) (hJ:j0 K mg "joined" Xn Xa fJ fdJ) (cj:Cs fJ (VF CG CW CM)) (hRf:j0 K mg "_law_refused" w9 yD fRf fdRf) (GRf:qu P w K mg base jh 1 fRf fdRf yD (UL CW CM))
   (hMn:j0 K mg "_law_many" VN ["_law_rows_here"] fMn fdMn) (GMn:qu P w K mg base jh 1 fMn fdMn ["_law_rows_here"] Xl) (hSR:j0 K mg "_law_sorted_rows" w6 ["_law_ground"] fSR fdSR) (GSR:qu P w K mg base jh 2 fSR fdSR ["_law_ground"] (k7 CG)):qu P w K mg base jh 11 f fd xk (k9 CG):=by
 refine F.okJ We (λvs H Q E z=>?_) (λcdv A outer s H vs Q E hr z=>?_)
 . obtain⟨l,m,g,h,ps,qs,rs,us,rfl,_⟩:=z
   rfl
 . obtain⟨l,m,g,h,ps,qs,rs,us,rfl,ga,gb,gr,gh,q⟩:=z
   have hu:=Q1 hr
   have r1:qW 1 _:=hr.mono (by decide)
   have r2:qW 2 _:=hr.mono (by decide)
   refine⟨_,ZI (qA (i:=4) We.nd rfl (Or.inl rfl) (ja hC GC hr (by rfl) (qb (jz (v:=.ref fJ) (by rfl) hJ.ns rfl) (qb (jv 2) (qb (jv 3) qe)))))
     (qg (QJ (i:=5) (N':=["_law_name","_law_others","_law_rows_here"]) (ix:=[none,none,some 0]) (g:=zS K 2 (j8 (js 0) (j8 (js 1) zT))) (tt:=tB (uw (qL 0) (Uw (Wj K) (qI (qL 2) jH)))) (te:=qL 0) We.nd rfl (Or.inl rfl) rfl ⟨rfl,rfl,rfl,rfl,rfl⟩ (qJ (jv 1)) (λC s2 H2 fp pins=>
         ⟨j6 rfl (qE (qp (i:=0) Kg rfl (Or.inl rfl)) (qE (qp (i:=1) Kg rfl (Or.inl rfl)) jE)),J3 (YO (Ww hu (jv 0) (jq (JK rfl) (by rfl) hdi boot_dict (qb (jv 2) qe)))),jv 0⟩))
     (qg (qU (qt (yn (Nat.lt_of_succ_lt hu)) (jv 5) (jZ qe) (qx _)) (qj (qP (ja hRf GRf r1 (by rfl) (qb (jv 4) (qb (jZ (qb jI (qb jI (qb jI qe)))) (qb (qS QU (jv 5) qi (λ_ _=>rfl)) qe)))))) qz)
     (qg (qA (i:=6) We.nd rfl (Or.inl rfl) (qV YJ (jv 0) (jv 1)))
     (qg (jx PassesOwn.never rfl (qJ (jZ (qb (jd (qb (qr qy (by rfl) B.len boot_len (qb (jv 6) qe)) (qb qi qe))) (qb (jd (qb (ja hMn GMn r1 (by rfl) (qb (jv 6) qe)) (qb qi qe))) qe)))) (j6 rfl (qE (qp (i:=7) We.nd rfl (Or.inl rfl)) (qE (qp (i:=8) We.nd rfl (Or.inl rfl)) jE)))
       (qj (qU (qt Q7 (jv 7) (jv 8) (qx _)) (qj (qP (ja hRf GRf r1 (by rfl) (qb (jv 4) (qb (jZ (qb jI (qb jI (qb jI qe)))) (qb (jv 7) qe)))))) qz)))
     (qg (QJ (i:=9) (N':=["_law_name","_law_others"]) (ix:=[none,none]) (g:=zS K 2 (j8 (js 0) (j8 (js 1) zT))) (te:=Ju (qI (qL 0) (qI (Uw (zb K) (qI (qL 1) jH)) jH))) We.nd rfl (Or.inl rfl) rfl ⟨rfl,rfl,rfl,rfl,rfl⟩ (qJ (jv 6)) (λC s2 H2 fp pins=>
         ⟨j6 rfl (qE (qp (i:=0) Xv rfl (Or.inl rfl)) (qE (qp (i:=1) Xv rfl (Or.inl rfl)) jE)),jc,jd (qb (jv 0) (qb (qr JJ (by rfl) G.srt boot_sorted (qb (jv 1) qe)) qe))⟩))
     (qj (qP (Wv (QS Qs (qS qR (jv 4) qi (λ_ _=>rfl)) jy (qx _)) (Wu (QS (wg hr.units) (ja hSR GSR r2 (by rfl) (qb (qS qR (jv 4) qi (λ_ _=>rfl)) qe)) (jv 9) (qx _))))))))))),?_⟩
   refine⟨λσ' H1=>∃p,σ'=[some (.ref l),some (.ref m),some (.ref g),some (.ref h),some (.ref p),none,none,none,none,none]/\QY H H1/\kE CG CW CM H1 p rs us,⟨_,rfl,_,rfl,fJ,g,h,VF CG CW CM,rfl,cj,g,h,rs,us,rfl,gr,gh,ga.good,gb.good,ga.pos,ga.le,gb.le,λb v e Hx dx C s hd t=>⟨C,dx,v,b,rfl,rfl,s,hd,t,λH' p k nn=>⟨p,rfl,k,?_⟩⟩,λe H' x s gr' gd' p hp=>⟨p,rfl,(s.trans (qh hp)).keep,?_⟩⟩,?_⟩
   . unfold kE
     rw[e]
     exact nn
   . unfold kE
     rw[e]
     exact⟨x,qd,gr'.mono (qh hp),gd'⟩
   rintro σ' H1 ⟨p,rfl,k1,td⟩
   have ga1:=ga.keep k1
   have gb1:=gb.keep k1
   have le1:=ga.le
   have le2:=gb.le
   have lp1:=ga.rows.1
   have lp2:=gb.rows.1
   refine⟨_,rfl,m,rfl,⟨_,.of gb1.at_⟩,λD0 hD=>?_⟩
   refine q5 (K:=K) (a:=m) (xs:=qs.map V.ref) (λi σ'' X=>∃(v0 v1:Option V),σ''=[v0,v1,some (.ref l)]/\Same H1 X/\X D0=some (.lst ((((us.map (·.1)).take i).filter λz=>decide (z∈rs.map (·.1))).map V.str))) ⟨none,none,rfl,qh hD,qd⟩ (λi σ'' X _ ⟨_,_,_,sx,_⟩=>.of (sx _ _ gb1.at_)) ?_ ?_
   . rintro i y σ'' X hy ⟨v0,v1,rfl,sx,hX⟩
     obtain⟨p',t,r,rfl,er,hr',hp',ht⟩:=(gb1.rows.mono sx).item hy
     have hi:=(List.getElem?_eq_some_iff.mp er).1
     have ez:(us.map (·.1))[i]?=some r.1:=by rw[List.getElem?_map,er];rfl
     have gaX:jm X l ps rs:=⟨sx _ _ ga1.at_,ga1.rows.mono sx,ga.good,ga.pos,ga.le⟩
     refine⟨p',_,rfl,.of hp',rfl,_,_,rfl,_,_,rfl,rfl,?_⟩
     refine⟨_,rfl,_,rfl,zm ?_⟩
     refine zF gaX λd kvs hd ek hv=>⟨d,_,rfl,jK.k (k:=(Sum.inr r.1:qN)) qd,_,rfl,?_⟩
     have s3:=qh (o:=HO.dK kvs) hd
     have vi:=kN ek (y:=r.1)
     cases c:(jp kvs (Sum.inr r.1:qN)).isSome with
     | true=>
       refine YS ⟨_,rfl,_,s3 _ _ hX,?_,_,_,rfl,Same.upd (sx.trans s3) hD,?_⟩
       . rw[List.length_map]
         refine qo (Nat.le_trans (List.length_filter_le ..) ?_)
         rw[List.length_take,List.length_map]
         omega
       . rw[qd,List.take_add_one,ez,List.filter_append,List.map_append]
         have:decide (r.1∈rs.map (·.1))=true:=decide_eq_true (vi.mp c)
         simp [this]
     | false=>
       refine jR ⟨_,_,rfl,sx.trans s3,?_⟩
       rw[List.take_add_one,ez,List.filter_append]
       have:decide (r.1∈rs.map (·.1))=false:=decide_eq_false λz=>by rw[vi.mpr z]at c;cases c
       simp only[Option.toList_some,List.filter_cons,this,List.filter_nil]
       rw[if_neg Bool.false_ne_true,List.append_nil]
       exact s3 _ _ hX
   . rintro σ'' X ⟨v0,v1,rfl,sx,hX⟩
     rw[List.length_map,lp2,List.take_of_length_le (by rw[List.length_map];exact Nat.le_refl _)]at hX
     have td1:=td.mono sx
     have ff:=Zx (p:=λz=>decide (z∈rs.map (·.1))) (l:=us.map (·.1))
     generalize hbo:(us.map (·.1)).filter (λz=>decide (z∈rs.map (·.1)))=both at hX ff
     refine⟨_,rfl,by show 0<=sizeLine;decide,λl0 hl0=>?_⟩
     have s3:Same X (upd X l0 (.lst [])):=qh hl0
     refine⟨D0,l0,_,rfl,rfl,.of (s3 _ _ hX),.of qd,_,rfl,?_⟩
     generalize upd X l0 (.lst [])=X1 at s3
     have k2:QY H X1:=k1.trans (sx.trans s3).keep
     have td2:=td1.mono s3
     cases both with
     | cons z rest=>
       have res:QD rs us=some (true,.str z):=by unfold QD;rw[ff];rfl
       refine jW rfl ⟨_,rfl,by show 3<=sizeLine;decide,λlk hlk=>?_⟩
       have s4:=qh (o:=HO.lst [V.bl true,.bl false,.bl true]) hlk
       unfold kE at td2
       rw[res]at td2
       exact⟨_,rfl,D0,_,0,_,rfl,rfl,.of (s4 _ _ (s3 _ _ hX)),qK (j:=0) rfl,p,lk,true,.str z,rfl,Nn.mono td2 s4,qd,rfl,λH' s'=>q H' (k2.trans (s4.trans s').keep)⟩
     | nil=>
       have fd0:(us.map (·.1)).find? (λz=>decide (z∈rs.map (·.1)))=none:=by rw[ff];rfl
       have no:∀z∈us.map (·.1),z∉rs.map (·.1):=λz hz mm=>List.find?_eq_none.mp fd0 z hz (decide_eq_true mm)
       refine jM rfl ?_
       have s03:=sx.trans s3
       have hl1:=s03 _ _ ga1.at_
       have hm1:=s03 _ _ gb1.at_
       refine⟨_,rfl,_,rfl,l,m,_,_,rfl,rfl,.of hl1,.of hm1,by rw[List.length_map,List.length_map];exact Nat.le_of_lt (qo (by omega)),λl3 hl3=>?_⟩
       have e3:ps.map V.ref++qs.map V.ref=(ps++qs).map V.ref:=(List.map_append).symm
       rw[e3]
       have s4:Same X1 (upd X1 l3 (.lst ((ps++qs).map V.ref))):=qh hl3
       have h3:upd X1 l3 (.lst ((ps++qs).map V.ref)) l3=some (.lst ((ps++qs).map V.ref)):=qd
       have rat3:qH (upd X1 l3 (.lst ((ps++qs).map V.ref))) (ps++qs) (rs++us):=((ga1.rows.mono s03).mono s4).app ((gb1.rows.mono s03).mono s4)
       generalize upd X1 l3 (.lst ((ps++qs).map V.ref))=X2 at s4 h3 rat3
       have lpq:(ps++qs).length=rs.length+us.length:=by rw[List.length_append];omega
       refine⟨_,rfl,l3,_,rfl,.inl (.of h3),by show 2<=sizeLine;decide,λt1 ht1=>?_⟩
       have s5:=qh (o:=HO.tup [V.int (((ps++qs).map V.ref).length:Nat),.int 14]) ht1
       have htt1:upd X2 t1 (.tup [V.int (((ps++qs).map V.ref).length:Nat),.int 14]) t1=some (.tup [V.int (((ps++qs).map V.ref).length:Nat),.int 14]):=qd
       generalize upd X2 t1 (.tup [V.int (((ps++qs).map V.ref).length:Nat),.int 14])=X3 at s5 htt1
       have few1:qF rs<=40:=ga.good.few
       have few2:qF us<=40:=gb.good.few
       have rd:((rs++us).map λr=>r.2.length).sum=qF rs+qF us:=z8 rs us
       refine⟨_,rfl,l3,ps++qs,(rs++us).map λr=>r.2.length,rfl,s5 _ _ h3,(rat3.mono s5).mn,by omega,by rw[rd];exact Nat.lt_of_le_of_lt (Nat.add_le_add few1 few2) (by decide),λX4 s6=>?_⟩
       rw[rd]
       refine⟨by show 2<=sizeLine;decide,λt2 ht2=>⟨by show 2<=sizeLine;decide,λl5 hl5=>?_⟩⟩
       have s7:=qh (o:=HO.tup [V.int ((qF rs+qF us:Nat):Int),.int 40]) ht2
       have htt2:upd X4 t2 (.tup [V.int ((qF rs+qF us:Nat):Int),.int 40]) t2=some (.tup [V.int ((qF rs+qF us:Nat):Int),.int 40]):=qd
       generalize upd X4 t2 (.tup [V.int ((qF rs+qF us:Nat):Int),.int 40])=X5 at s7 htt2 hl5
       have s8:=qh (o:=HO.lst [V.ref t1,.ref t2]) hl5
       have h5:upd X5 l5 (.lst [V.ref t1,.ref t2]) l5=some (.lst [V.ref t1,.ref t2]):=qd
       generalize upd X5 l5 (.lst [V.ref t1,.ref t2])=X6 at s8 h5
       have s26:=((s5.trans s6).trans s7).trans s8
       have htt1':=((s6.trans s7).trans s8) _ _ htt1
       have htt2':=s8 _ _ htt2
       rw[List.length_map,lpq]at htt1'
       have td6:=td2.mono (s4.trans s26)
       have k6:QY H X6:=k2.trans (s4.trans s26).keep
       have h36:=s26 _ _ h3
       have rat6:=rat3.mono s26
       refine⟨l5,rfl,⟨_,.of h5⟩,?_⟩
       refine jA (K:=K) (a:=l5) (xs:=[V.ref t1,.ref t2]) (λi σ' Y=>(∃v7 v8:Option V,σ'=[some (.ref l),some (.ref m),some (.ref g),some (.ref h),some (.ref p),some (.ref D0),some (.ref l3),v7,v8,none])/\Y=X6/\(1<=i->¬14 < rs.length+us.length)/\(2<=i->¬40 < qF rs+qF us)) ⟨⟨_,_,rfl⟩,rfl,λz=>absurd z (by decide),λz=>absurd z (by decide)⟩ (λi σ' Y _ ⟨_,e,_⟩=>by rw[e];exact .of h5) ?_ ?_
       . rintro i y σ' Y hy ⟨⟨v7,v8,rfl⟩,rfl,g1,g2⟩
         have ref:∀(n:Nat),QD rs us=some (false,.int (n:Int))->∀lk,Y lk=none->UL CW CM [.ref p,.ref lk,.int (n:Int)] (upd Y lk (.lst [V.bl false,.bl true,.bl true])) Q E0:=λn res lk hlk=>by
           have s9:=qh (o:=HO.lst [V.bl false,.bl true,.bl true]) hlk
           unfold kE at td6
           rw[res]at td6
           exact⟨p,lk,false,.int (n:Int),rfl,Nn.mono td6 s9,qd,rfl,λH' s'=>q H' (k6.trans (s9.trans s').keep)⟩
         match i,hy with
         | 0,hy=>
           obtain rfl:V.ref t1=y:=by simpa using hy
           refine⟨t1,_,rfl,.of htt1',rfl,_,_,rfl,_,_,rfl,rfl,?_⟩
           refine⟨_,rfl,_,rfl,_,_,rfl,rfl,_,rfl,YT (λc=>?_) (λc=>?_)⟩
           . have c1:14 < rs.length+us.length:=by have:decide ((14:Int) < ((rs.length+us.length:Nat):Int))=true:=c;have:=of_decide_eq_true this;omega
             have res:QD rs us=some (false,.int ((rs.length+us.length:Nat):Int)):=by unfold QD;rw[fd0];show (if _ then _ else _)=_;rw[if_pos c1]
             exact⟨_,rfl,by show 3<=sizeLine;decide,λlk hlk=>⟨_,rfl,ref _ res lk hlk⟩⟩
           . have c1:¬14 < rs.length+us.length:=λz=>c (decide_eq_true (by show (14:Int) < ((rs.length+us.length:Nat):Int);omega))
             exact⟨⟨_,_,rfl⟩,rfl,λ_=>c1,λz=>absurd z (by decide)⟩
         | 1,hy=>
           obtain rfl:V.ref t2=y:=by simpa using hy
           have c1:=g1 (by decide)
           refine⟨t2,_,rfl,.of htt2',rfl,_,_,rfl,_,_,rfl,rfl,?_⟩
           refine⟨_,rfl,_,rfl,_,_,rfl,rfl,_,rfl,YT (λc=>?_) (λc=>?_)⟩
           . have c2:40 < qF rs+qF us:=by have:decide ((40:Int) < ((qF rs+qF us:Nat):Int))=true:=c;have:=of_decide_eq_true this;omega
             have res:QD rs us=some (false,.int ((qF rs+qF us:Nat):Int)):=by unfold QD;rw[fd0];show (if _ then _ else _)=_;rw[if_neg c1,if_pos c2]
             exact⟨_,rfl,by show 3<=sizeLine;decide,λlk hlk=>⟨_,rfl,ref _ res lk hlk⟩⟩
           . have c2:¬40 < qF rs+qF us:=λz=>c (decide_eq_true (by show (40:Int) < ((qF rs+qF us:Nat):Int);omega))
             exact⟨⟨_,_,rfl⟩,rfl,λ_=>c1,λ_=>c2⟩
         | n+2,hy=>simp at hy
       . rintro σ' Y ⟨⟨v7,v8,rfl⟩,rfl,g1,g2⟩
         have c1:=g1 (show 1<=2 by decide)
         have c2:=g2 (show 2<=2 by decide)
         have res:QD rs us=none:=by unfold QD;rw[fd0];show (if _ then _ else _)=_;rw[if_neg c1,if_neg c2]
         unfold kE at td6
         rw[res]at td6
         obtain⟨x,hpx,grx,gdx⟩:=td6
         have lall:(rs++us).length=rs.length+us.length:=List.length_append ..
         have l40:∀r∈rs++us,r.2.length<=40:=λr hr=>by
           rcases List.mem_append.mp hr with hr | hr
           . exact ga.good.len r hr
           . exact gb.good.len r hr
         refine⟨_,rfl,l3,rfl,⟨_,.of h36⟩,λD9 hD9=>?_⟩
         refine zI h36 rat6 (by omega) l40 hD9 λX7 qs7 s9 hD7 sr7=>?_
         have hpx7:=s9 _ _ hpx
         refine⟨_,rfl,p,_,0,_,rfl,rfl,.of hpx7,qK (j:=0) rfl,rfl,_,rfl,jW (decide_eq_true rfl) ?_⟩
         have lt:(jt rs++jt us).length<=14:=by
           rw[List.length_append,show (jt rs).length=rs.length from List.length_map ..,show (jt us).length=us.length from List.length_map ..]
           omega
         refine⟨_,rfl,p,_,1,_,rfl,rfl,.of hpx7,qK (j:=1) rfl,x,_,rfl,grx.mono s9,gdx,lt,λX8 l8 ps8 s10 nl8 hl8 sr8=>⟨_,rfl,?_⟩⟩
         have ed:(jt rs++jt us).map dSr=(rs++us).map dSr:=by
           rw[List.map_append,List.map_append]
           have one:∀{ws:ju},qv ws->(∀r∈jt ws,xC r.2)->(jt ws).map dSr=ws.map dSr:=λ{ws} gw hs=>by
             unfold jt at hs ⊢
             rw[List.map_map]
             refine List.map_congr_left λr hr=>?_
             have:=hs (r.1,ji ws r) (List.mem_map.mpr ⟨r,hr,rfl⟩)
             show PyData.tuple [.str r.1,dL (srtS (ji ws r))]=PyData.tuple [.str r.1,dL (srtS r.2)]
             rw[this.eq (Ql gw hr)]
           have hs:∀r∈jt rs++jt us,xC r.2:=λr hr=>by
             obtain⟨i,ei⟩:=List.getElem?_of_mem hr
             have hi:i < ps8.length:=by rw[sr8.1];exact(List.getElem?_eq_some_iff.mp ei).1
             exact(sr8.2 i ps8[i] r (List.getElem?_eq_getElem hi) ei).1
           rw[one ga.good λr hr=>hs r (List.mem_append_left _ hr),one gb.good λr hr=>hs r (List.mem_append_right _ hr)]
         have nm:∀r∈rs++us,qG r.1=true/\∀z∈r.2,qG z=true:=λr hr=>by
           rcases List.mem_append.mp hr with hr | hr
           . exact⟨ga.good.nm r hr,ga.good.names r hr⟩
           . exact⟨gb.good.nm r hr,gb.good.names r hr⟩
         have d1:DV K X8 (.ref l8) (.list ((rs++us).map dSr)):=by rw[<-ed];exact .lst (.of hl8) (Q0 sr8)
         refine⟨.list ((rs++us).map dSr),d1,.lst (.of (s10 _ _ hD7)) (Q0 (sr7.mono s10)),Wb (sr7.names nm),?_⟩
         exact q X8 (k6.trans (s9.trans s10).keep)
end
end Rh
set_option Elab.async false
set_option linter.all false
set_option maxRecDepth 100000
set_option maxHeartbeats 4000000
namespace Rh
open PySem L2 PyProof.Rows
abbrev j3:=Str×Str
def XV (A B:List Str):List j3:=A.flatMap λa=>B.map λb=>(a,b)
theorem J0 {A B:List Str} {p:j3}:p∈XV A B↔p.1∈A/\p.2∈B:=by
 unfold XV
 rw[List.mem_flatMap]
 constructor
 . rintro⟨a,ha,h⟩
   obtain⟨b,hb,rfl⟩:=List.mem_map.mp h
   exact⟨ha,hb⟩
 . rintro⟨h1,h2⟩
   exact⟨p.1,h1,List.mem_map.mpr ⟨p.2,h2,rfl⟩⟩
theorem vC:∀{A B:List Str},A.Nodup->B.Nodup->(XV A B).Nodup
 | [],_,_,_=>List.nodup_nil
 | a::A,B,ha,hb=>by
   obtain⟨n1,n2⟩:=List.nodup_cons.mp ha
   show (B.map (λb=>(a,b))++XV A B).Nodup
   refine List.nodup_append.mpr ⟨List.pairwise_map.mpr (hb.imp λne e=>ne (Prod.mk.inj e).2),vC n2 hb,λx hx y hy e=>?_⟩
   obtain⟨b,_,rfl⟩:=List.mem_map.mp hx
   subst e
   exact n1 (J0.mp hy).1
theorem Vg (A B:List Str):(XV A B).length=A.length*B.length:=by
 induction A with
 | nil=>simp [XV]
 | cons a A ih=>
   show (B.map (λb=>(a,b))++XV A B).length=_
   rw[List.length_append,List.length_map,ih,List.length_cons,Nat.succ_mul,Nat.add_comm]
def jO (H:Hp) (ps:List Addr) (xs:List j3):Prop:=ps.length=xs.length/\∀(i:Nat) (p:Addr) (x:j3),ps[i]?=some p->xs[i]?=some x->H p=some (.tup [.str x.1,.str x.2])
theorem jO.mono {H H':Hp} {ps:List Addr} {xs:List j3} (h:jO H ps xs) (s:Same H H'):jO H' ps xs:=⟨h.1,λi p x e1 e2=>s _ _ (h.2 i p x e1 e2)⟩
theorem jO.nil (H:Hp):jO H [] []:=⟨rfl,λi p x e=>by simp at e⟩
theorem jO.app {H:Hp} {ps qs:List Addr} {xs ys:List j3} (a:jO H ps xs) (b:jO H qs ys):jO H (ps++qs) (xs++ys):=⟨by rw[List.length_append,List.length_append,a.1,b.1],λi p x e1 e2=>by
 by_cases hi:i < ps.length
 . rw[List.getElem?_append_left hi]at e1
   rw[List.getElem?_append_left (by rw[<-a.1];exact hi)]at e2
   exact a.2 i p x e1 e2
 . rw[List.getElem?_append_right (by omega)]at e1
   rw[List.getElem?_append_right (by rw[<-a.1];omega),<-a.1]at e2
   exact b.2 _ p x e1 e2⟩
theorem jO.one {H:Hp} {p:Addr} {x:j3} (h:H p=some (.tup [.str x.1,.str x.2])):jO H [p] [x]:=⟨rfl,λi p' x' e1 e2=>by
 cases i with
 | zero=>
   obtain rfl:p=p':=by simpa using e1
   obtain rfl:x=x':=by simpa using e2
   exact h
 | succ i=>simp at e1⟩
theorem jO.lst {H:Hp} {ps:List Addr} {xs:List j3} {D:Addr} {ys zs:List V} (h:jO H ps xs) (hD:H D=some (.lst ys)):jO (upd H D (.lst zs)) ps xs:=⟨h.1,λi p x e1 e2=>by
 have hp:=h.2 i p x e1 e2
 rw[qf (λe=>by rw[e,hD]at hp;cases hp)]
 exact hp⟩
theorem jO.at_ {H:Hp} {ps:List Addr} {xs:List j3} (h:jO H ps xs) {i:Nat} {y:V} (hy:(ps.map V.ref)[i]?=some y):∃p x,y=.ref p/\ps[i]?=some p/\xs[i]?=some x/\x∈xs/\H p=some (.tup [.str x.1,.str x.2]):=by
 rw[List.getElem?_map]at hy
 cases e:ps[i]? with
 | none=>rw[e]at hy;cases hy
 | some p=>
   rw[e]at hy
   have hi:i < xs.length:=by rw[<-h.1];exact(List.getElem?_eq_some_iff.mp e).1
   have ex:xs[i]?=some xs[i]:=List.getElem?_eq_getElem hi
   exact⟨p,xs[i],(Option.some.inj hy).symm,rfl,ex,List.getElem_mem hi,h.2 i p _ e ex⟩
def dP (x:j3):PyData:=.tuple [.str x.1,.str x.2]
theorem ko (x y:j3):PyData.eqv (dP x) (dP y)=decide (x=y):=by
 have key:PyData.eqv (dP x) (dP y)=((x.1==y.1)&&((x.2==y.2)&&true)):=rfl
 rw[key,Bool.and_true,Bool.eq_iff_iff,Bool.and_eq_true,beq_iff_eq,beq_iff_eq,decide_eq_true_iff]
 exact⟨λh=>Prod.ext h.1 h.2,λh=>by rw[h];exact⟨rfl,rfl⟩⟩
theorem w4 {K:PySem.W.Frag} {H:Hp} {p:Addr} {x:j3} (h:H p=some (.tup [.str x.1,.str x.2])):DV K H (.ref p) (dP x):=.tup (.of h) (.cons (.str _) (.cons (.str _) .nil))
theorem kC {K:PySem.W.Frag} {H:Hp}:∀{ps:List Addr} {xs:List j3},jO H ps xs->DVs K H (ps.map V.ref) (xs.map dP)
 | [],[],_=>.nil
 | [],_::_,h=>by cases h.1
 | _::_,[],h=>by cases h.1
 | p::ps,x::xs,h=>.cons (w4 (h.2 0 p x rfl rfl)) (kC ⟨Nat.succ.inj h.1,λi a b e1 e2=>h.2 (i+1) a b (by simpa using e1) (by simpa using e2)⟩)
def KC (x:j3):Prop:=qG x.1=true/\qG x.2=true
theorem kq {x:j3} (h:KC x):(dP x).canLay0=true:=by
 show (PyData.strOk x.1&&(PyData.strOk x.2&&true))=true
 rw[JZ h.1,JZ h.2]
 rfl
theorem wP:∀{xs:List j3},(∀x∈xs,KC x)->PyData.canLayAll0 (xs.map dP)=true
 | [],_=>rfl
 | x::xs,h=>by
   rw[List.map_cons,PyData.canLayAll0,wP λy hy=>h y (List.mem_cons_of_mem _ hy),Bool.and_true]
   exact kq (h x List.mem_cons_self)
theorem xB (xs:List j3) (x:j3):(xs.map dP).any (λz=>PyData.eqv z (dP x))=decide (x∈xs):=by
 rw[Bool.eq_iff_iff,List.any_eq_true,decide_eq_true_iff]
 constructor
 . rintro⟨d,hd,e⟩
   obtain⟨y,hy,rfl⟩:=List.mem_map.mp hd
   rw[ko]at e
   rw[<-of_decide_eq_true e]
   exact hy
 . intro h
   exact⟨dP x,List.mem_map.mpr ⟨x,h,rfl⟩,by rw[ko];exact decide_eq_true rfl⟩
def zO (rs:ju) (x:j3):List j3:=(uf rs x.1).map λe=>(e,x.2)
def xj (us:ju) (x:j3):List j3:=(uf us x.2).map λe=>(x.1,e)
def ZG (rs us:ju) (x:j3):List j3:=zO rs x++(xj us x).filter λy=>decide (y∉zO rs x)
def uC (CG:Addr):Sp:=λvs H Q _=>∃(g h:Addr) (rs us:ju),vs=[.ref g,.ref h]/\jJ CG H g rs/\jJ CG H h us/\rs.length<=14/\us.length<=14/\∀H' l ps,Same H H'->H l=none->H' l=some (.lst (ps.map V.ref))->jO H' ps (XV (rs.map (·.1)) (us.map (·.1)))->Q (.ref l) H'
def xK (CG:Addr):Sp:=λvs H Q _=>∃(g h t:Addr) (rs us:ju) (r u:Str×List Str),vs=[.ref g,.ref h,.ref t]/\jJ CG H g rs/\jJ CG H h us/\qv rs/\qv us/\rs.length<=14/\us.length<=14/\r∈rs/\u∈us/\H t=some (.tup [.str r.1,.str u.1])/\
 ∀H' l ps,Same H H'->H l=none->H' l=some (.lst (ps.map V.ref))->jO H' ps (ZG rs us (r.1,u.1))->Q (.ref l) H'
section
variable {P:Program} {w:World} {K:PySem.W.Frag} {mg:Str->Option Value} {base:Heap}
abbrev nPs:List Str:=["one","other","pairs","name"]
theorem xS:qB nPs Xa (qm UX):=⟨rfl,rfl,rfl,by decide+kernel,rfl,by decide+kernel,by decide+kernel⟩
theorem Gh:(["beside","name"]:List Str).Nodup:=by decide+kernel
theorem u4 {f CG:Addr} {fd:FuncData} (F:Qe K "pairs_of" "pairs_of" UX f fd) (G:Qu mg) (M:GM K mg CG):qu P w K mg base jh 2 f fd Xa (uC CG):=by
 obtain⟨fI,fdI,C⟩:=M.cls
 obtain⟨fM,fdM,hM⟩:=M.nm
 have GN:qu P w K mg base jh 1 fM fdM ["self"] (JN CG):=Yc hM.fn C G
 refine F.okJ xS (λvs H Q E z=>?_) (λcdv A outer s H vs Q E hr z=>?_)
 . obtain⟨g,h,rs,us,rfl,_⟩:=z
   rfl
 . obtain⟨g,h,rs,us,rfl,gr,gh,le1,le2,q⟩:=z
   refine⟨_,qg (qA (i:=2) xS.nd rfl (Or.inl rfl) (jZ qe))
     (qg (jx PassesOwn.never rfl (qJ (zx hM C.cl GN hr (jv 0))) (qp (i:=3) xS.nd rfl (Or.inr rfl))
       (qj (jf (zA PySem.F.plainAttrs_list PySem.F.slot_list_extend PySem.F.type_list_extend Ye (jv 2) (qb (j7 (N':=["beside","name"]) (ix:=[none,some 3]) (te:=Ju (qI (qL 1) (qI (qL 0) jH))) rfl ⟨rfl,rfl,rfl,rfl,rfl⟩ (qJ (zx hM C.cl GN hr (jv 1))) (λC s2 H2 fp pins=>
         ⟨qp (i:=0) Gh rfl (Or.inl rfl),jc,jd (qb (jv 1) (qb (jv 0) qe))⟩)) qe)))))
     (qj (qP (jv 2)))),?_⟩
   refine⟨by show 0<=sizeLine;decide,λL hL=>?_⟩
   have s1:Same H (upd H L (.lst [])):=qh hL
   have h1:upd H L (.lst []) L=some (.lst []):=qd
   generalize upd H L (.lst [])=H1 at s1 h1
   obtain⟨dx,fs,hg,l1,_⟩:=(gr.mono s1).ins
   refine⟨_,rfl,g,dx,fs,rfl,hg,l1,g,rs,rfl,gr.mono s1,λln hln=>?_⟩
   have s2:Same H1 (upd H1 ln (.lst ((rs.map (·.1)).map V.str))):=qh hln
   have h2:upd H1 ln (.lst ((rs.map (·.1)).map V.str)) ln=some (.lst ((rs.map (·.1)).map V.str)):=qd
   generalize upd H1 ln (.lst ((rs.map (·.1)).map V.str))=H2 at s2 h2
   have nlL:ln≠L:=λe=>by rw[e,h1]at hln;cases hln
   have hL2:=s2 _ _ h1
   refine⟨ln,rfl,⟨_,.of h2⟩,?_⟩
   refine jA (K:=K) (a:=ln) (xs:=(rs.map (·.1)).map V.str) (λi σ X=>∃(v3:Option V) (ps:List Addr),σ=[some (.ref g),some (.ref h),some (.ref L),v3]/\Fr H2 L X/\X L=some (.lst (ps.map V.ref))/\jO X ps (XV ((rs.map (·.1)).take i) (us.map (·.1)))) ⟨none,[],rfl,Fr.refl,hL2,.nil _⟩ (λi σ X _ ⟨_,_,_,fr,_⟩=>.of (fr _ _ h2 nlL)) ?_ ?_
   . rintro i y σ X hy ⟨v3,ps,rfl,fr,hX,pr⟩
     obtain⟨z,ez,hz,rfl⟩:=Qw hy
     have hi:=(List.getElem?_eq_some_iff.mp ez).1
     rw[List.length_map]at hi
     have ghX:jJ CG X h us:=gh.mono λb u hb=>fr _ _ (s2 _ _ (s1 _ _ hb)) (ql hb hL)
     obtain⟨dxh,fsh,hgh,l1h,_⟩:=ghX.ins
     refine⟨_,rfl,.inl ⟨rfl,_,.of hX⟩,_,rfl,h,dxh,fsh,rfl,hgh,l1h,h,us,rfl,ghX,λlm hlm=>⟨lm,rfl,⟨_,.of qd⟩,λD hD=>?_⟩⟩
     have t1:Same X (upd X lm (.lst ((us.map (·.1)).map V.str))):=qh hlm
     have hm1:upd X lm (.lst ((us.map (·.1)).map V.str)) lm=some (.lst ((us.map (·.1)).map V.str)):=qd
     generalize upd X lm (.lst ((us.map (·.1)).map V.str))=X1 at t1 hm1 hD
     refine q5 (K:=K) (a:=lm) (xs:=(us.map (·.1)).map V.str) (λj σ'' Y=>∃(v0:Option V) (qs:List Addr),σ''=[v0,some (.str z)]/\Same X1 Y/\Y D=some (.lst (qs.map V.ref))/\jO Y qs (((us.map (·.1)).take j).map λb=>(z,b))) ⟨none,[],rfl,qh hD,qd,.nil _⟩ (λj σ'' Y _ ⟨_,_,_,sy,_⟩=>.of (sy _ _ hm1)) ?_ ?_
     . rintro j y σ'' Y hy ⟨v0,qs,rfl,sy,hY,pq⟩
       obtain⟨b,eb,hb,rfl⟩:=Qw hy
       have hj:=(List.getElem?_eq_some_iff.mp eb).1
       rw[List.length_map]at hj
       refine⟨_,rfl,_,rfl,by show 2<=sizeLine;decide,λt ht=>?_⟩
       have st:=qh (o:=HO.tup [V.str z,.str b]) ht
       refine⟨_,st _ _ hY,?_,_,qs++[t],rfl,Same.upd (sy.trans st) hD,by rw[qd,List.map_append];rfl,?_⟩
       . rw[List.length_map,pq.1,List.length_map,List.length_take]
         exact qo (by omega)
       . rw[List.take_add_one,eb,List.map_append]
         exact((pq.mono st).app (.one (x:=(z,b)) qd)).lst (st _ _ hY)
     . rintro σ'' Y ⟨v0,qs,rfl,sy,hY,pq⟩
       rw[List.length_map,List.take_of_length_le (Nat.le_refl _)]at pq
       have tY:=t1.trans sy
       have hXY:=tY _ _ hX
       have lp:=pr.1
       have lq:=pq.1
       rw[Vg,List.length_take,List.length_map,List.length_map]at lp
       rw[List.length_map,List.length_map]at lq
       have lp2:ps.length<=14*14:=by rw[lp];exact Nat.mul_le_mul (by omega) le2
       refine⟨L,D,_,_,rfl,rfl,hXY,hY,?_,_,ps++qs,rfl,(fr.same tY).at_d,by rw[qd,List.map_append],?_⟩
       . rw[List.length_map,List.length_map]
         exact Nat.le_of_lt (qo (by omega))
       . have e:XV ((rs.map (·.1)).take (i+1)) (us.map (·.1))=XV ((rs.map (·.1)).take i) (us.map (·.1))++(us.map (·.1)).map λb=>(z,b):=by
           unfold XV
           rw[List.take_add_one,ez,List.flatMap_append]
           simp
         rw[e]
         exact((pr.mono tY).app pq).lst hXY
   . rintro σ X ⟨v3,ps,rfl,fr,hX,pr⟩
     rw[List.length_map,List.take_of_length_le (Nat.le_refl _)]at pr
     exact⟨_,rfl,q X L ps (λb u hb=>fr _ _ (s2 _ _ (s1 _ _ hb)) (ql hb hL)) hL hX pr⟩
abbrev nPb:List Str:=["one","other","pair","ends"]
abbrev uW:List Str:=["one","other","pair"]
theorem uD:qB nPb uW (qm UY):=⟨rfl,rfl,rfl,by decide+kernel,rfl,by decide+kernel,by decide+kernel⟩
theorem Kf:(["end","pair"]:List Str).Nodup:=by decide+kernel
theorem Ke:(["end","pair","ends"]:List Str).Nodup:=by decide+kernel
theorem u7 {f CG:Addr} {fd:FuncData} (F:Qe K "pairs_behind" "pairs_behind" UY f fd) (B:Zp mg) (G:Qu mg) (T:Qd K mg) (M:GM K mg CG):qu P w K mg base jh 3 f fd uW (xK CG):=by
 obtain⟨fI,fdI,C⟩:=M.cls
 obtain⟨fF,fdF,hF⟩:=M.fr
 obtain⟨fN,fdN,hN⟩:=M.isn
 have GF:qu P w K mg base jh 2 fF fdF ["self","name"] (WY CG):=vx hF.fn C B G T hN
 refine F.okJ uD (λvs H Q E z=>?_) (λcdv A outer s H vs Q E hr z=>?_)
 . obtain⟨g,h,t,rs,us,r,u,rfl,_⟩:=z
   rfl
 . obtain⟨g,h,t,rs,us,r,u,rfl,gr,gh,gd,ud,le1,le2,hr1,hu1,ht,q⟩:=z
   refine⟨_,qg (qA (i:=3) uD.nd rfl (Or.inr rfl) (j7 (N':=["end","pair"]) (ix:=[none,some 2]) (te:=Ju (qI (qL 0) (qI (zN (Zi K) (qL 1) (tC (.int 1))) jH))) rfl ⟨rfl,rfl,rfl,rfl,rfl⟩ (qJ (xu hF C.cl GF hr (jv 0) (qb (qS qR (jv 2) qi (λ_ _=>rfl)) qe))) (λC s2 H2 fp pins=>
         ⟨qp (i:=0) Kf rfl (Or.inl rfl),jc,jd (qb (jv 0) (qb (qS qR (jv 1) qi (λ_ _=>rfl)) qe))⟩)))
     (qg (jf (zA PySem.F.plainAttrs_list PySem.F.slot_list_extend PySem.F.type_list_extend Ye (jv 3) (qb (j7 (N':=["end","pair","ends"]) (ix:=[none,some 2,some 3]) (tt:=Xh (zN (x8 K true) (Ju (qI (zN (Zi K) (qL 1) (tC (.int 0))) (qI (qL 0) jH))) (qL 2))) (te:=Ju (qI (zN (Zi K) (qL 1) (tC (.int 0))) (qI (qL 0) jH))) rfl ⟨rfl,rfl,rfl,rfl,rfl⟩ (qJ (xu hF C.cl GF hr (jv 1) (qb (qS qR (jv 2) qi (λ_ _=>rfl)) qe))) (λC s2 H2 fp pins=>
         ⟨qp (i:=0) Ke rfl (Or.inl rfl),J3 (qt (Ya hr.units) (jd (qb (qS qR (jv 1) qi (λ_ _=>rfl)) (qb (jv 0) qe))) (jv 2) (by with_unfolding_all rfl)),jd (qb (qS qR (jv 1) qi (λ_ _=>rfl)) (qb (jv 0) qe))⟩)) qe)))
     (qj (qP (jv 3)))),?_⟩
   obtain⟨dx,fs,hg,_,l2⟩:=gr.ins
   have eg:uf rs r.1=ji rs r:=Qy gd.nd hr1
   have eh:uf us u.1=ji us u:=Qy ud.nd hu1
   have lr:=Wi (rs:=rs) r
   have lu:=Wi (rs:=us) u
   refine⟨_,rfl,g,dx,fs,rfl,hg,l2,_,rfl,t,_,0,_,rfl,rfl,.of ht,qK (j:=0) rfl,g,rs,r,rfl,gr,hr1,gd.nm r hr1,λH1 le s1 hle=>⟨le,rfl,⟨_,.of qd⟩,λL hL=>?_⟩⟩
   have t1:Same H (upd H1 le (.lst ((ji rs r).map V.str))):=s1.trans (qh hle)
   have h1:upd H1 le (.lst ((ji rs r).map V.str)) le=some (.lst ((ji rs r).map V.str)):=qd
   generalize upd H1 le (.lst ((ji rs r).map V.str))=H2 at t1 h1 hL
   refine q5 (K:=K) (a:=le) (xs:=(ji rs r).map V.str) (λj σ'' Y=>∃(v0:Option V) (qs:List Addr),σ''=[v0,some (.ref t)]/\Same H2 Y/\Y L=some (.lst (qs.map V.ref))/\jO Y qs (((ji rs r).take j).map λb=>(b,u.1))) ⟨none,[],rfl,qh hL,qd,.nil _⟩ (λj σ'' Y _ ⟨_,_,_,sy,_⟩=>.of (sy _ _ h1)) ?_ ?_
   . rintro j y σ'' Y hy ⟨v0,qs,rfl,sy,hY,pq⟩
     obtain⟨b,eb,hb,rfl⟩:=Qw hy
     have hj:=(List.getElem?_eq_some_iff.mp eb).1
     refine⟨_,rfl,_,rfl,t,_,1,_,rfl,rfl,.of (sy _ _ (t1 _ _ ht)),qK (j:=1) rfl,by show 2<=sizeLine;decide,λc hc=>?_⟩
     have st:=qh (o:=HO.tup [V.str b,.str u.1]) hc
     refine⟨_,st _ _ hY,?_,_,qs++[c],rfl,Same.upd (sy.trans st) hL,by rw[qd,List.map_append];rfl,?_⟩
     . rw[List.length_map,pq.1,List.length_map,List.length_take]
       exact qo (by omega)
     . rw[List.take_add_one,eb,List.map_append]
       exact((pq.mono st).app (.one (x:=(b,u.1)) qd)).lst (st _ _ hY)
   . rintro σ'' Y ⟨v0,qs,rfl,sy,hY,pq⟩
     rw[List.length_map,List.take_of_length_le (Nat.le_refl _)]at pq
     have e1:zO rs (r.1,u.1)=(ji rs r).map λb=>(b,u.1):=by unfold zO;rw[eg]
     rw[<-e1]at pq
     have sHY:=t1.trans sy
     have nLH:H L=none:=Qm t1 hL
     have ghY:=gh.mono sHY
     have htY:=sHY _ _ ht
     have nmA:∀x∈zO rs (r.1,u.1),KC x:=λx hx=>by
       rw[e1]at hx
       obtain⟨b,hb,rfl⟩:=List.mem_map.mp hx
       obtain⟨r',hr',e⟩:=JX hb
       exact⟨by rw[<-e];exact gd.nm r' hr',ud.nm u hu1⟩
     obtain⟨dxh,fsh,hgh,_,l2h⟩:=ghY.ins
     refine⟨_,rfl,.inl ⟨rfl,_,.of hY⟩,_,rfl,h,dxh,fsh,rfl,hgh,l2h,_,rfl,t,_,1,_,rfl,rfl,.of htY,qK (j:=1) rfl,h,us,u,rfl,ghY,hu1,ud.nm u hu1,λY1 lm sY1 hlm=>⟨lm,rfl,⟨_,.of qd⟩,λD hD=>?_⟩⟩
     have t3:Same Y (upd Y1 lm (.lst ((ji us u).map V.str))):=sY1.trans (qh hlm)
     have h3:upd Y1 lm (.lst ((ji us u).map V.str)) lm=some (.lst ((ji us u).map V.str)):=qd
     generalize upd Y1 lm (.lst ((ji us u).map V.str))=Y2 at t3 h3 hD
     have hY2:=t3 _ _ hY
     have pq2:=pq.mono t3
     refine q5 (K:=K) (a:=lm) (xs:=(ji us u).map V.str) (λj σ'' Z=>∃(v0:Option V) (ks:List Addr),σ''=[v0,some (.ref t),some (.ref L)]/\Same Y2 Z/\Z D=some (.lst (ks.map V.ref))/\jO Z ks ((((ji us u).take j).map λb=>(r.1,b)).filter λy=>decide (y∉zO rs (r.1,u.1)))) ⟨none,[],rfl,qh hD,qd,.nil _⟩ (λj σ'' Z _ ⟨_,_,_,sz,_⟩=>.of (sz _ _ h3)) ?_ ?_
     . rintro j y σ'' Z hy ⟨v0,ks,rfl,sz,hZ,pk⟩
       obtain⟨b,eb,hb,rfl⟩:=Qw hy
       have hj:=(List.getElem?_eq_some_iff.mp eb).1
       have nmb:KC (r.1,b):=by
         obtain⟨u',hu',e⟩:=JX hb
         exact⟨gd.nm r hr1,by rw[<-e];exact ud.nm u' hu'⟩
       have htZ:=sz _ _ (t3 _ _ htY)
       refine⟨_,rfl,t,_,0,_,rfl,rfl,.of htZ,qK (j:=0) rfl,_,rfl,by show 2<=sizeLine;decide,λc hc=>?_⟩
       have st:=qh (o:=HO.tup [V.str r.1,.str b]) hc
       refine⟨_,rfl,dP (r.1,b),(zO rs (r.1,u.1)).map dP,w4 qd,.lst (.of (st _ _ (sz _ _ hY2))) (kC ((pq2.mono sz).mono st)),kq nmb,wP nmA,by show (1:Nat)<=40;decide,_,rfl,?_⟩
       rw[xB]
       have sn:(((ji us u).take (j+1)).map λb=>(r.1,b)).filter (λy=>decide (y∉zO rs (r.1,u.1)))=(((ji us u).take j).map λb=>(r.1,b)).filter (λy=>decide (y∉zO rs (r.1,u.1)))++if (r.1,b)∈zO rs (r.1,u.1) then [] else [(r.1,b)]:=by
         rw[List.take_add_one,eb,List.map_append,List.filter_append]
         congr 1
         by_cases mm:(r.1,b)∈zO rs (r.1,u.1)<;>simp [mm]
       by_cases mm:(r.1,b)∈zO rs (r.1,u.1)
       . rw[if_pos mm,List.append_nil]at sn
         refine jM (by rw[decide_eq_true mm];rfl) ⟨_,ks,rfl,sz.trans st,st _ _ hZ,?_⟩
         rw[sn]
         exact pk.mono st
       . rw[if_neg mm]at sn
         refine jW (by rw[decide_eq_false mm];rfl) ?_
         refine⟨_,rfl,t,_,0,_,rfl,rfl,.of (st _ _ htZ),qK (j:=0) rfl,_,rfl,by show 2<=sizeLine;decide,λc2 hc2=>?_⟩
         have st2:=qh (o:=HO.tup [V.str r.1,.str b]) hc2
         have st3:=st.trans st2
         refine⟨_,st3 _ _ hZ,?_,_,ks++[c2],rfl,Same.upd (sz.trans st3) hD,by rw[qd,List.map_append];rfl,?_⟩
         . rw[List.length_map,pk.1]
           refine qo (Nat.le_trans (List.length_filter_le ..) ?_)
           rw[List.length_map,List.length_take]
           omega
         . rw[sn]
           exact((pk.mono st3).app (.one (x:=(r.1,b)) qd)).lst (st3 _ _ hZ)
     . rintro σ'' Z ⟨v0,ks,rfl,sz,hZ,pk⟩
       rw[List.length_map,List.take_of_length_le (Nat.le_refl _)]at pk
       have hYZ:=sz _ _ hY2
       have l1:=pq.1
       have l3:=pk.1
       have f3:=List.length_filter_le (λy=>decide (y∉zO rs (r.1,u.1))) ((ji us u).map λb=>(r.1,b))
       rw[List.length_map]at f3
       rw[e1,List.length_map]at l1
       have e2:ZG rs us (r.1,u.1)=zO rs (r.1,u.1)++((ji us u).map λb=>(r.1,b)).filter (λy=>decide (y∉zO rs (r.1,u.1))):=by unfold ZG xj;rw[eh]
       refine⟨L,D,_,_,rfl,rfl,hYZ,hZ,?_,_,rfl,q _ L (qs++ks) (Same.upd ((sHY.trans t3).trans sz) nLH) nLH (by rw[qd,List.map_append]) ?_⟩
       . rw[List.length_map,List.length_map]
         exact Nat.le_of_lt (qo (by omega))
       . rw[e2]
         exact(((pq2.mono sz)).app pk).lst hYZ
end
end Rh
set_option Elab.async false
set_option linter.all false
set_option maxRecDepth 100000
set_option maxHeartbeats 4000000
namespace Rh
open PySem L2 PyProof.Rows
def xi:Str:=Str.ofString "abcdefghijklmn"
def wv (n:Nat):Str:=⟨#[97+n]⟩
theorem vc:∀n < 14,xi.cps.toList[n]?=some (97+n):=by decide+kernel
theorem Va:xi.length<=sizeLine:=by decide+kernel
theorem vE:∀n < 14,qG (wv n)=true:=by decide+kernel
theorem yH {a b:Nat} (h:wv a=wv b):a=b:=by
 unfold wv at h
 have:=congrArg (λz:Str=>z.cps.toList) h
 simpa using this
def lt (Z:List j3) (x:j3):Str:=wv (Z.idxOf x)
theorem xq {Z:List j3} (nd:Z.Nodup) {i:Nat} {x:j3} (h:Z[i]?=some x):lt Z x=wv i:=by
 obtain⟨hi,e⟩:=List.getElem?_eq_some_iff.mp h
 subst e
 exact congrArg wv (nd.idxOf_getElem i hi)
theorem ww {Z:List j3} {x y:j3} (hx:x∈Z) (hy:y∈Z) (h:lt Z x=lt Z y):x=y:=by
 have e:=yH h
 have h1:=List.getElem_idxOf (List.idxOf_lt_length_of_mem hx)
 have h2:=List.getElem_idxOf (List.idxOf_lt_length_of_mem hy)
 rw[<-h1,<-h2]
 congr 1
theorem Vf {Z:List j3} (l:Z.length<=14) {x:j3} (hx:x∈Z):qG (lt Z x)=true:=vE _ (Nat.lt_of_lt_of_le (List.idxOf_lt_length_of_mem hx) l)
def kP (x:j3):List qN:=[Sum.inr x.1,Sum.inr x.2]
theorem vM {x y:j3} (h:kP x=kP y):x=y:=by
 unfold kP at h
 simp only[List.cons.injEq,Sum.inr.injEq,and_true]at h
 exact Prod.ext h.1 h.2
def kvs (Z:List j3) (g:j3->V):List (List qN×V):=Z.map λx=>(kP x,g x)
theorem Xy {g:j3->V} {x:j3}:∀{Z:List j3},x∉Z->jp (kvs Z g) (kP x)=none
 | [],_=>rfl
 | z::Z,h=>(qZ λe=>h (by rw[<-vM e];exact List.mem_cons_self)).trans (Xy λm=>h (List.mem_cons_of_mem _ m))
theorem Ja {g:j3->V} {x:j3}:∀{Z:List j3},x∈Z->jp (kvs Z g) (kP x)=some (g x)
 | z::Z,h=>by
   by_cases e:z=x
   . subst e
     exact je rfl
   . refine(qZ λq=>e (vM q)).trans (Ja ?_)
     rcases List.mem_cons.mp h with m | m
     . exact absurd m.symm e
     . exact m
theorem Vh {g:j3->V} {x:j3} {Z:List j3} (h:x∉Z):jL (kvs Z g) (kP x) (g x)=kvs (Z++[x]) g:=by
 rw[zc _ (Xy h)]
 unfold kvs
 rw[List.map_append]
 rfl
def Ux (Z:List j3):List (List qN×V):=kvs Z λx=>.str (lt Z x)
abbrev jo (rs us:ju):List j3:=XV (rs.map (·.1)) (us.map (·.1))
def VZ (rs us:ju) (x:j3):Str×List Str:=(lt (jo rs us) x,(ZG rs us x).map (lt (jo rs us)))
def jl (rs us:ju):ju:=(jo rs us).map (VZ rs us)
theorem XQ {rs us:ju} {x:j3} (h:x∈jo rs us):∃r u,r∈rs/\u∈us/\x=(r.1,u.1):=by
 obtain⟨h1,h2⟩:=J0.mp h
 obtain⟨r,hr,e1⟩:=List.mem_map.mp h1
 obtain⟨u,hu,e2⟩:=List.mem_map.mp h2
 exact⟨r,u,hr,hu,Prod.ext e1.symm e2.symm⟩
theorem zf {rs us:ju} (g:qv rs) (g':qv us) {x y:j3} (hx:x∈jo rs us) (hy:y∈ZG rs us x):y∈jo rs us:=by
 obtain⟨r,u,hr,hu,rfl⟩:=XQ hx
 unfold ZG at hy
 rcases List.mem_append.mp hy with h | h
 . unfold zO at h
   rw[Qy g.nd hr]at h
   obtain⟨e,he,rfl⟩:=List.mem_map.mp h
   obtain⟨r',hr',e'⟩:=JX he
   exact J0.mpr ⟨List.mem_map.mpr ⟨r',hr',e'⟩,List.mem_map.mpr ⟨u,hu,rfl⟩⟩
 . have h:=(List.mem_filter.mp h).1
   unfold xj at h
   rw[Qy g'.nd hu]at h
   obtain⟨e,he,rfl⟩:=List.mem_map.mp h
   obtain⟨u',hu',e'⟩:=JX he
   exact J0.mpr ⟨List.mem_map.mpr ⟨r,hr,rfl⟩,List.mem_map.mpr ⟨u',hu',e'⟩⟩
theorem xn {rs:ju} (g:qv rs) (r:Str×List Str):(ji rs r).Nodup:=by unfold ji;exact g.nd.sublist List.filter_sublist
theorem wc {rs us:ju} (g:qv rs) {x:j3} (hx:x∈jo rs us):(zO rs x).Nodup:=by
 obtain⟨r,u,hr,hu,rfl⟩:=XQ hx
 unfold zO
 rw[Qy g.nd hr]
 exact List.pairwise_map.mpr ((xn g r).imp λne e=>ne (Prod.mk.inj e).1)
theorem wb {rs us:ju} (g':qv us) {x:j3} (hx:x∈jo rs us):(xj us x).Nodup:=by
 obtain⟨r,u,hr,hu,rfl⟩:=XQ hx
 unfold xj
 rw[Qy g'.nd hu]
 exact List.pairwise_map.mpr ((xn g' u).imp λne e=>ne (Prod.mk.inj e).2)
theorem Wk {rs us:ju} (g:qv rs) (g':qv us) {x:j3} (hx:x∈jo rs us):(ZG rs us x).Nodup:=by
 unfold ZG
 refine List.nodup_append.mpr ⟨wc g hx,(wb g' hx).sublist List.filter_sublist,λa ha b hb e=>?_⟩
 have:=(List.mem_filter.mp hb).2
 exact of_decide_eq_true this (by rw[<-e];exact ha)
theorem zo:∀{xs ys:List j3},xs.Nodup->(∀x∈xs,x∈ys)->xs.length<=ys.length
 | [],_,_,_=>Nat.zero_le _
 | x::xs,ys,nd,h=>by
   obtain⟨n1,n2⟩:=List.nodup_cons.mp nd
   have m:=h x List.mem_cons_self
   have:=zo (ys:=ys.erase x) n2 λy hy=>(List.mem_erase_of_ne λe=>n1 (by rw[<-e];exact hy)).mpr (h y (List.mem_cons_of_mem _ hy))
   rw[List.length_erase_of_mem m]at this
   have:=List.length_pos_of_mem m
   rw[List.length_cons]
   omega
theorem YH {rs us:ju} (g:qv rs) (g':qv us) {x:j3} (hx:x∈jo rs us):(ZG rs us x).length<=(jo rs us).length:=zo (Wk g g' hx) λy hy=>zf g g' hx hy
theorem wo {rs us:ju} (g:qv rs) (g':qv us):(jo rs us).Nodup:=vC g.nd g'.nd
theorem xo {Z xs:List j3} (nd:xs.Nodup) (h:∀x∈xs,x∈Z):(xs.map (lt Z)).Nodup:=by
 refine List.pairwise_map.mpr (nd.imp_of_mem λha hb ne e=>ne (ww (h _ ha) (h _ hb) e))
theorem zW {rs us:ju} (g:qv rs) (g':qv us) (l:(jo rs us).length<=14):jB (jl rs us):=by
 have nn:(jl rs us).map (·.1)=(jo rs us).map (lt (jo rs us)):=by unfold jl;rw[List.map_map];rfl
 refine⟨λr hr=>?_,by rw[nn];exact xo (wo g g') λ_ h=>h,λr hr z hz=>?_,λr hr=>?_,λr hr=>?_⟩
 all_goals obtain⟨x,hx,rfl⟩:=List.mem_map.mp hr
 . exact Vf l hx
 . obtain⟨y,hy,rfl⟩:=List.mem_map.mp hz
   rw[nn]
   exact List.mem_map.mpr ⟨y,zf g g' hx hy,rfl⟩
 . exact xo (Wk g g' hx) λy hy=>zf g g' hx hy
 . show ((ZG rs us x).map (lt (jo rs us))).length<=40
   rw[List.length_map]
   have:=YH g g' hx
   omega
theorem xt (rs us:ju):(jo rs us).length=rs.length*us.length:=by rw[Vg,List.length_map,List.length_map]
theorem xI {xs:List Nat} {m:Nat} (h:∀x∈xs,x<=m):xs.sum<=xs.length*m:=by
 induction xs with
 | nil=>simp
 | cons x xs ih=>
   have h1:=h x List.mem_cons_self
   have h2:=ih λy hy=>h y (List.mem_cons_of_mem _ hy)
   rw[List.sum_cons,List.length_cons,Nat.succ_mul]
   omega
theorem za {rs us:ju} (wd:jB (jl rs us)) (l:(jo rs us).length<=14):qF (jl rs us)<=14*40:=by
 unfold qF
 refine Nat.le_trans (xI (m:=40) λn hn=>?_) (Nat.mul_le_mul_right _ ?_)
 . obtain⟨r,hr,rfl⟩:=List.mem_map.mp hn
   exact wd.len r hr
 . rw[List.length_map]
   show ((jo rs us).map (VZ rs us)).length<=14
   rw[List.length_map]
   exact l
def Jm (rs us:ju):Option (Bool×V):=if 14 < rs.length*us.length then some (false,.int ((rs.length*us.length:Nat):Int)) else if 40 < qF (jl rs us) then some (false,.int ((qF (jl rs us):Nat):Int)) else none
def Wa (CG CW CM:Addr):Sp:=λvs H Q E=>∃(g h:Addr) (rs us:ju),vs=[.ref g,.ref h]/\jJ CG H g rs/\jJ CG H h us/\qv rs/\qv us/\0 < rs.length/\0 < us.length/\rs.length<=14/\us.length<=14/\
 (∀b v,Jm rs us=some (b,v)->∀Hx dx C,Same H Hx->Hx dx=some (.xd [(Str.ofString "found",v)])->wR CW CM C b->E (.ref C) (some dx) Hx)/\
 (Jm rs us=none->∀H' x Pd t,Same H H'->jJ CG H' x (jl rs us)->qv (jl rs us)->H Pd=none->H' Pd=some (.dT (Ux (jo rs us)))->H' t=some (.tup [.ref x,.ref Pd])->Q (.ref t) H')
theorem yF (CG CW CM:Addr):wW (Wa CG CW CM):=λvs H Q Q' E E' ⟨g,h,rs,us,a1,a2,a3,a4,a5,a6,a6',a7,a8,a9,a10⟩ hQ hE=>⟨g,h,rs,us,a1,a2,a3,a4,a5,a6,a6',a7,a8,λb v e Hx dx C s hd t=>hE _ _ _ (a9 b v e Hx dx C s hd t),λe H' x Pd t s gr gd n1 n2 n3=>hQ _ _ (a10 e H' x Pd t s gr gd n1 n2 n3)⟩
abbrev xZ (K:PySem.W.Frag):List V->Hp->VK->Prop:=λxs H Q=>∃p ys,xs=[.ref p]/\((SqL K H p ys/\∀l,H l=none->Q (.ref l) (upd H l (.tup ys)))\/(Zc K H p ys/\Q (.ref p) H))
section
variable {P:Program} {w:World} {K:PySem.W.Frag} {mg:Str->Option Value} {base:Heap}
abbrev Gm:List Str:=["one","other","pairs","places","number","pair","rows"]
theorem Wd:qB Gm Xa (qm Xm):=⟨rfl,rfl,rfl,by decide+kernel,rfl,by decide+kernel,by decide+kernel⟩
theorem Gi:(["end","places"]:List Str).Nodup:=by decide+kernel
theorem u6 {f CG D CW CM fW fPs fPb:Addr} {fd fdW fdPs fdPb:FuncData} (F:Qe K "paired" "paired" Xm f fd) (B:Zp mg) (G:Qu mg) (T:Qd K mg) (N:Y7 K mg) (M:GM K mg CG) (hW:j0 K mg "need_rows" Jq ["rows"] fW fdW) (XS:y8 K mg D CW CM)
   (hPs:j0 K mg "pairs_of" UX Xa fPs fdPs) (hPb:j0 K mg "pairs_behind" UY uW fPb fdPb) (hpn:∃t,mg "PAIR_NAMES"=some (.str xi t)):
   qu P w K mg base (Qv P w) 8 f fd Xa (Wa CG CW CM):=by
 obtain⟨fI,fdI,C⟩:=M.cls
 obtain⟨fY,fdY,xM⟩:=XS.m
 obtain⟨tp,hpn⟩:=hpn
 obtain⟨tm,hmp⟩:=T.mp
 have GX:qu P w K mg base jh 1 fY fdY ["self","found"] (xN CM "found"):=Zj xM
 have GI:qu P w K mg base (Qv P w) 6 fI fdI ["self","rows"] (λvs H Q E=>JP CG vs H Q E\/UN CM vs H Q E):=(zj C B G T N hW).toX.either (Yd C B G T N hW xM)
 have GPs:qu P w K mg base jh 2 fPs fdPs Xa (uC CG):=u4 hPs.fn G M
 have GPb:qu P w K mg base jh 3 fPb fdPb uW (xK CG):=u7 hPb.fn B G T M
 refine F.okX Wd (λvs H Q E h=>?_) (λcdv A outer s H vs Q E hr h=>?_)
 . obtain⟨g,h,rs,us,rfl,_⟩:=h
   rfl
 . obtain⟨g,h,rs,us,rfl,gr,gh,gd,ud,pos,pos2,le1,le2,qX,qQ⟩:=h
   have hu:=Q1 hr
   have r2:qW 2 _:=hr.mono (by decide)
   have r3:qW 3 _:=hr.mono (by decide)
   refine⟨_,qg (qA (i:=2) Wd.nd rfl (Or.inl rfl) (ja hPs GPs r2 (by rfl) (qb (jv 0) (qb (jv 1) qe))))
     (qg (qU (qt Q7 (qr qy (by rfl) B.len boot_len (qb (jv 2) qe)) (jz (v:=.int 14) (by rfl) hmp ⟨_,rfl⟩) (qx _)) (qj (J4 rfl Je (J6 xM.mkr GX r2 (by rfl) xM.ns xM.bi JY (qb (qr qy (by rfl) B.len boot_len (qb (jv 2) qe)) qe)))) qz)
     (qg (qA (i:=3) Wd.nd rfl (Or.inr rfl) zy)
     (qg (ZJ (t:=UD (xx K (qI (qL 2) jH)) (zS K 2 (j8 (js 4) (j8 (js 5) zT))) (U0 (qL 3) (qL 5) (zN uO (tC (.str xi)) (qL 4)))) λpn W hO hP hR=>
         jx hO rfl (ZM (by rfl) T.enu (qb (jv 2) qe)) (j6 rfl (qE (qp (i:=4) Wd.nd rfl (Or.inl rfl)) (qE (qp (i:=5) Wd.nd rfl (Or.inl rfl)) jE)))
         (qj (jV hu (jv 3) (jv 5) (qS YR (jz (v:=.str xi) (by rfl) hpn ⟨_,rfl⟩) (jv 4) (λ_ _=>rfl)) rfl)))
     (qg (qA (i:=6) Wd.nd rfl (Or.inl rfl) (jZ qe))
     (qg (ZJ (t:=UD (XB K (qL 2)) (js 5) (UE (K2 K "list" W8 (qL 6) (qI (Ju (qI (z0 (qL 3) (qL 5)) (qI (Uw (xZ K) (qI (ur (XB K (Zq (xK CG) [] E0 (qI (qL 0) (qI (qL 1) (qI (qL 5) jH))))) [none,some 3] (js 0) xE (z0 (qL 1) (qL 0))) jH)) jH))) jH)))) λpn W hO hP hR=>
         jx hO rfl (qJ (jv 2)) (qp (i:=5) Wd.nd rfl (Or.inl rfl))
         (qj (jf (zA PySem.F.plainAttrs_list PySem.F.slot_list_append PySem.F.type_list_append QI (jv 6) (qb
           (jd (qb (jF hu (jv 3) (jv 5) (λ_ _=>rfl)) (qb (jq QE (by rfl) G.tup boot_tuple (qb
             (j7 (N':=["end","places"]) (ix:=[none,some 3]) (te:=z0 (qL 1) (qL 0)) rfl ⟨rfl,rfl,rfl,rfl,rfl⟩ (qJ (ja hPb GPb r3 (by rfl) (qb (jv 0) (qb (jv 1) (qb (jv 5) qe))))) (λC s2 H2 fp pins=>
               ⟨qp (i:=0) Gi rfl (Or.inl rfl),jc,jF hu (jv 1) (jv 0) (λ_ _=>rfl)⟩)) qe)) qe))) qe)))))
     (qj (qP (jd (qb (ZN C.mkr GI hr (by rfl) C.ns C.bi .nil Qn (qb (jv 6) qe)) (qb (jv 3) qe)))))))))),?_⟩
   refine⟨_,rfl,_,rfl,g,h,rs,us,rfl,gr,gh,le1,le2,λH1 L ps s1 nL hL pr=>?_⟩
   have pr:jO H1 ps (jo rs us):=pr
   have lps:=pr.1
   have lZ:=xt rs us
   have m14:rs.length*us.length<=14*14:=Nat.mul_le_mul le1 le2
   refine⟨_,rfl,L,_,rfl,.inl (.of hL),_,_,rfl,rfl,_,rfl,?_⟩
   by_cases c1:14 < rs.length*us.length
   . have res:Jm rs us=some (false,.int ((rs.length*us.length:Nat):Int)):=by unfold Jm;rw[if_pos c1]
     refine jW (decide_eq_true (by rw[List.length_map,lps,lZ];omega)) ?_
     refine⟨_,rfl,L,_,rfl,.inl (.of hL),by show 1<=sizeLine;decide,λe he=>⟨e,_,rfl,qd,λdx hdx=>⟨rfl,e,CM,dx,rfl,(Qx he hdx).2.1,xM.rcls,?_⟩⟩⟩
     obtain⟨m1,m2,m3⟩:=Qx (fs:=[(Str.ofString "found",V.int (((ps.map V.ref).length:Nat):Int))]) he hdx
     refine qX _ _ res _ dx CM (s1.trans m1) ?_ (.inr ⟨rfl,rfl⟩)
     rw[m3,List.length_map,lps,lZ]
   refine jM (decide_eq_false (by rw[List.length_map,lps,lZ];omega)) ?_
   have l14:(jo rs us).length<=14:=by rw[lZ];omega
   have ndZ:=wo gd ud
   refine λPd hPd=>?_
   have s2:Same H1 (upd H1 Pd (.dT [])):=qh hPd
   have h2:upd H1 Pd (.dT []) Pd=some (.dT []):=qd
   generalize upd H1 Pd (.dT [])=H2 at s2 h2
   have nPd0:H Pd=none:=Qm s1 hPd
   have hL2:=s2 _ _ hL
   have nLP:L≠Pd:=λe=>by rw[e,hPd]at hL;cases hL
   have pr2:=pr.mono s2
   refine⟨_,rfl,L,rfl,⟨_,.of hL2⟩,?_⟩
   refine zE (K:=K) (a:=L) (xs:=ps.map V.ref) (λi σ X=>∃(v4 v5:Option V),σ=[some (.ref g),some (.ref h),some (.ref L),some (.ref Pd),v4,v5,none]/\Fr H2 Pd X/\X Pd=some (.dT (kvs ((jo rs us).take i) λx=>.str (lt (jo rs us) x)))) ⟨none,none,rfl,Fr.refl,h2⟩ (λi σ X _ ⟨_,_,_,fr,_⟩=>.of (fr _ _ hL2 nLP)) ?_ ?_
   . rintro i y σ X p hy hp ⟨v4,v5,rfl,fr,hX⟩
     obtain⟨a,x,rfl,ea,ex,mx,ha⟩:=pr2.at_ hy
     have hi:=(List.getElem?_eq_some_iff.mp ex).1
     have naP:a≠Pd:=λe=>by rw[e,h2]at ha;cases ha
     have npP:Pd≠p:=λe=>by rw[<-e,hX]at hp;cases hp
     have haX:=fr _ _ ha naP
     have nin:x∉(jo rs us).take i:=λm=>by
       obtain⟨j,ej⟩:=List.getElem?_of_mem m
       have hj:=(List.getElem?_eq_some_iff.mp ej).1
       rw[List.length_take]at hj
       rw[List.getElem?_take_of_lt (by omega)]at ej
       have:=(List.getElem?_inj (by omega) ndZ).mp (ej.trans ex.symm)
       omega
     refine⟨p,_,rfl,.of qd,rfl,_,_,rfl,_,_,rfl,rfl,?_⟩
     refine⟨_,rfl,xi,_,97+i,rfl,rfl,Va,qK (vc i (Nat.lt_of_lt_of_le hi l14)),_,rfl,_,rfl,Pd,_,rfl,Jp.t (k:=kP x) (by rw[qf npP];exact hX) (qk haX hp) ?_,_,_,rfl,?_,?_⟩
     . unfold kvs
       rw[List.length_map,List.length_take]
       exact qo (by omega)
     . exact(fr.new hp).at_d
     . rw[qd,List.take_add_one,ex]
       have e:=Vh (g:=λx=>V.str (lt (jo rs us) x)) nin
       rw[show (some x).toList=[x] from rfl,<-e,xq ndZ ex]
       rfl
   . rintro σ X ⟨v4,v5,rfl,fr,hX⟩
     rw[List.length_map,lps,List.take_of_length_le (Nat.le_refl _)]at hX
     have s3:Same H X:=λb u hb=>fr _ _ (s2 _ _ (s1 _ _ hb)) (ql hb nPd0)
     have hLX:=fr _ _ hL2 nLP
     have prX:jO X ps (jo rs us):=⟨pr2.1,λi p x e1 e2=>by
       have hp:=pr2.2 i p x e1 e2
       exact fr _ _ hp λe=>by rw[e,h2]at hp;cases hp⟩
     refine⟨by show 0<=sizeLine;decide,λR hR=>?_⟩
     have s4:Same X (upd X R (.lst [])):=qh hR
     have h4:upd X R (.lst []) R=some (.lst []):=qd
     generalize upd X R (.lst [])=H5 at s4 h4
     have nR:H R=none:=Qm s3 hR
     have nLR:L≠R:=λe=>by rw[e,hR]at hLX;cases hLX
     have nPR:Pd≠R:=λe=>by rw[e,hR]at hX;cases hX
     have hL5:=s4 _ _ hLX
     have hP5:=s4 _ _ hX
     have pr5:=prX.mono s4
     refine⟨_,rfl,L,rfl,⟨_,.of hL5⟩,?_⟩
     refine jA (K:=K) (a:=L) (xs:=ps.map V.ref) (λi σ Y=>∃(v5:Option V) (ws:List Addr),σ=[some (.ref g),some (.ref h),some (.ref L),some (.ref Pd),v4,v5,some (.ref R)]/\Fr H5 R Y/\Y R=some (.lst (ws.map V.ref))/\qH (Um Y R) ws ((jl rs us).take i)) ⟨v5,[],rfl,Fr.refl,h4,⟨rfl,λi p r e=>by simp at e⟩⟩ (λi σ Y _ ⟨_,_,_,fr,_⟩=>.of (fr _ _ hL5 nLR)) ?_ ?_
     . rintro i y σ Y hy ⟨v5',ws,rfl,fy,hY,rat⟩
       obtain⟨a,x,rfl,ea,ex,mx,ha⟩:=pr5.at_ hy
       have hi:=(List.getElem?_eq_some_iff.mp ex).1
       obtain⟨r,u,hr1,hu1,exu⟩:=XQ mx
       have naR:a≠R:=λe=>by rw[e,h4]at ha;cases ha
       have haY:=fy _ _ ha naR
       have hPY:=fy _ _ hP5 nPR
       have sHY:Same H Y:=λb u hb=>fy _ _ (s4 _ _ (s3 _ _ hb)) (ql hb nR)
       have dg:jK Y Pd (.ref a) (some (.str (lt (jo rs us) x))):=by
         have:=jK.t (k:=kP x) hPY haY
         unfold Ux at*
         rw[Ja mx]at this
         exact this
       refine⟨_,rfl,.inl ⟨rfl,_,.of hY⟩,_,rfl,_,rfl,Pd,_,rfl,dg,_,rfl,_,rfl,_,rfl,g,h,a,rs,us,r,u,rfl,gr.mono sHY,gh.mono sHY,gd,ud,le1,le2,hr1,hu1,by rw[haY,exu],λY1 lm qs sY1 nlm hlm pq=>⟨lm,rfl,⟨_,.of hlm⟩,λD0 hD0=>?_⟩⟩
       rw[<-exu]at pq
       refine q5 (K:=K) (a:=lm) (xs:=qs.map V.ref) (λj σ'' Y'=>∃v0:Option V,σ''=[v0,some (.ref Pd)]/\Y'=upd Y1 D0 (.lst (((ZG rs us x).take j).map λy=>V.str (lt (jo rs us) y)))) ⟨none,rfl,rfl⟩ (λj σ'' Y' _ ⟨_,_,e⟩=>by rw[e];exact .of (qk hlm hD0)) ?_ ?_
       . rintro j y σ'' Y' hy ⟨v0,rfl,rfl⟩
         obtain⟨b,x2,rfl,eb,ex2,mx2,hb⟩:=pq.at_ hy
         have hj:=(List.getElem?_eq_some_iff.mp ex2).1
         have pl:=YH gd ud mx
         have dg2:jK (upd Y1 D0 (.lst (((ZG rs us x).take j).map λy=>V.str (lt (jo rs us) y)))) Pd (.ref b) (some (.str (lt (jo rs us) x2))):=by
           have:=jK.t (k:=kP x2) (qk (o':=.lst (((ZG rs us x).take j).map λy=>V.str (lt (jo rs us) y))) (sY1 _ _ hPY) hD0) (qk hb hD0)
           rw[Ja (zf gd ud mx mx2)]at this
           exact this
         refine⟨_,rfl,_,rfl,Pd,_,rfl,dg2,_,qd,?_,_,rfl,?_⟩
         . rw[List.length_map,List.length_take]
           exact qo (by omega)
         . rw[jw,List.take_add_one,ex2,List.map_append]
           rfl
       . rintro σ'' Y' ⟨v0,rfl,rfl⟩
         rw[List.length_map,pq.1,List.take_of_length_le (Nat.le_refl _)]
         have em:((ZG rs us x).map λy=>V.str (lt (jo rs us) y))=((ZG rs us x).map (lt (jo rs us))).map V.str:=by rw[List.map_map];rfl
         rw[em]
         have t1:Same Y (upd Y1 D0 (.lst (((ZG rs us x).map (lt (jo rs us))).map V.str))):=sY1.trans (qh hD0)
         have t1h:upd Y1 D0 (.lst (((ZG rs us x).map (lt (jo rs us))).map V.str)) D0=some (.lst (((ZG rs us x).map (lt (jo rs us))).map V.str)):=qd
         generalize upd Y1 D0 (.lst (((ZG rs us x).map (lt (jo rs us))).map V.str))=Y2 at t1 t1h
         refine⟨D0,_,rfl,.inl ⟨.of t1h,λtq htq=>⟨by show 2<=sizeLine;decide,λtp htp=>?_⟩⟩⟩
         have t2:=qh (o:=HO.tup (((ZG rs us x).map (lt (jo rs us))).map V.str)) htq
         have t3:=qh (o:=HO.tup [V.str (lt (jo rs us) x),.ref tq]) htp
         have t23:=t2.trans t3
         have t123:=t1.trans t23
         have hY4:=t123 _ _ hY
         have nqR:tq≠R:=λe=>by rw[e,t1 _ _ hY]at htq;cases htq
         have npR:tp≠R:=λe=>by rw[e,t2 _ _ (t1 _ _ hY)]at htp;cases htp
         have rat4:=(rat.mono (Jb t123)).snoc (r:=VZ rs us x) (p:=tp) (q:=tq) (by rw[Jc npR];exact qd) (by rw[Jc nqR];exact qk qd htp)
         have lw:=rat.1
         refine⟨R,_,_,rfl,rfl,hY4,?_,_,ws++[tp],rfl,(fy.same t123).at_d,by rw[qd,List.map_append];rfl,?_⟩
         . rw[List.length_map,lw,List.length_take]
           refine qo (Nat.le_trans (Nat.min_le_left _ _) (by omega))
         . have ep:(jl rs us)[i]?=some (VZ rs us x):=by unfold jl;rw[List.getElem?_map,ex];rfl
           rw[List.take_add_one,ep,ZS]
           exact rat4
     . rintro σ Y ⟨v5',ws,rfl,fy,hY,rat⟩
       have lpr:(jl rs us).length=(jo rs us).length:=List.length_map ..
       rw[List.length_map,lps,<-lpr,List.take_of_length_le (Nat.le_refl _)]at rat
       have ratY:=rat.mono ZT
       have sHY:Same H Y:=λb u hb=>fy _ _ (s4 _ _ (s3 _ _ hb)) (ql hb nR)
       have hPY:=fy _ _ hP5 nPR
       have wide:=zW gd ud l14
       have rl:=za wide l14
       have p1:0 < (jl rs us).length:=by rw[lpr,lZ];exact Nat.mul_pos pos pos2
       refine⟨_,rfl,λx dx' hx hdx' ndx=>?_⟩
       have s4':Same Y (upd (upd Y dx' (.own x)) x (.ins CG dx' [])):=λb u hb=>by
         rw[qf (ql hb hx),qf (ql hb hdx')]
         exact hb
       by_cases c2:40 < qF (jl rs us)
       . have res:Jm rs us=some (false,.int ((qF (jl rs us):Nat):Int)):=by unfold Jm;rw[if_neg c1,if_pos c2]
         exact .inr ⟨x,R,rfl,.inl ⟨R,ws,jl rs us,rfl,⟨s4' _ _ hY,ratY.mono s4',wide,p1,by omega⟩,c2,Nat.lt_of_le_of_lt rl (by decide),λH5 dx5 s5 hd5=>qX _ _ res H5 dx5 CM ((sHY.trans s4').trans s5) hd5 (.inr ⟨rfl,rfl⟩)⟩⟩
       . have res:Jm rs us=none:=by unfold Jm;rw[if_neg c1,if_neg c2]
         have gall:qv (jl rs us):=wide.good (by show qF (jl rs us)<=40;omega)
         refine .inl (QQ hY ratY gall p1 (by omega) hx hdx' ndx λH6 s6 gr6=>⟨_,rfl,by show 2<=sizeLine;decide,λt ht=>?_⟩)
         have s7:=qh (o:=HO.tup [V.ref x,.ref Pd]) ht
         exact qQ res _ x Pd t ((sHY.trans s6).trans s7) (gr6.mono s7) gall nPd0 (s7 _ _ (s6 _ _ hPY)) qd
end
end Rh
set_option Elab.async false
set_option linter.all false
set_option maxRecDepth 100000
set_option maxHeartbeats 4000000
namespace Rh
open PySem L2 PyProof.Rows
theorem Uq (ws:List V) (j:Nat):L2.cutV ws none (some (j:Int))=ws.take j:=by
 unfold L2.cutV
 rw[HT.sIx_none,HT.sIx_nat]
 show (ws.drop 0).take (min j ws.length - 0)=_
 rw[List.drop_zero,Nat.sub_zero]
 rcases Nat.le_total j ws.length with h | h
 . rw[Nat.min_eq_left h]
 . rw[Nat.min_eq_right h,List.take_of_length_le (Nat.le_refl _),List.take_of_length_le h]
theorem jO.take {H:Hp} {ps:List Addr} {xs:List j3} (h:jO H ps xs) (k:Nat):jO H (ps.take k) (xs.take k):=⟨by rw[List.length_take,List.length_take,h.1],λi p x e1 e2=>by
 have hi:=(List.getElem?_eq_some_iff.mp e1).1
 rw[List.length_take]at hi
 rw[List.getElem?_take_of_lt (by omega)]at e1 e2
 exact h.2 i p x e1 e2⟩
def fl (r u:Str×List Str):List j3:=(r.2.map λe=>(e,u.1))++u.2.map λe=>(r.1,e)
theorem wM {rs us:ju} (g:qv rs) (g':qv us) {r u:Str×List Str} (hr:r∈rs) (hu:u∈us) {y:j3}:y∈fl r u↔y∈ZG rs us (r.1,u.1):=by
 have e1:zO rs (r.1,u.1)=(ji rs r).map λb=>(b,u.1):=by unfold zO;rw[Qy g.nd hr]
 have e2:xj us (r.1,u.1)=(ji us u).map λb=>(r.1,b):=by unfold xj;rw[Qy g'.nd hu]
 have m1:y∈zO rs (r.1,u.1)↔y∈r.2.map λe=>(e,u.1):=by
   rw[e1]
   exact((Ql g hr).map _).mem_iff
 have m2:y∈xj us (r.1,u.1)↔y∈u.2.map λe=>(r.1,e):=by
   rw[e2]
   exact((Ql g' hu).map _).mem_iff
 unfold fl ZG
 rw[List.mem_append,List.mem_append,List.mem_filter,<-m1,<-m2,decide_eq_true_iff]
 constructor
 . rintro(h | h)
   . exact .inl h
   . by_cases c:y∈zO rs (r.1,u.1)
     . exact .inl c
     . exact .inr ⟨h,c⟩
 . rintro(h | h)
   . exact .inl h
   . exact .inr h.1
theorem Ks {rs us:ju} (g:qv rs) (g':qv us) {r u:Str×List Str} (hr:r∈rs) (hu:u∈us):∀y∈fl r u,KC y:=λy hy=>by
 rcases List.mem_append.mp hy with h | h
 . obtain⟨e,he,rfl⟩:=List.mem_map.mp h
   exact⟨g.names r hr e he,g'.nm u hu⟩
 . obtain⟨e,he,rfl⟩:=List.mem_map.mp h
   exact⟨g.nm r hr,g'.names u hu e he⟩
def UP:Sp:=λvs H Q _=>∃(l m t:Addr) (ps qs:List Addr) (rs us:ju) (r u:Str×List Str),vs=[.ref l,.ref m,.ref t]/\jm H l ps rs/\jm H m qs us/\r∈rs/\u∈us/\H t=some (.tup [.str r.1,.str u.1])/\
 ∀H' D ws ns,Same H H'->H D=none->H' D=some (.lst (ws.map V.ref))->jO H' ws ns->ns.Perm (ZG rs us (r.1,u.1))->Q (.ref D) H'
section
variable {P:Program} {w:World} {K:PySem.W.Frag} {mg:Str->Option Value} {base:Heap}
abbrev nBe:List Str:=["_law_rows_here","_law_more","_law_pair","_law_found"]
abbrev uc:List Str:=["_law_rows_here","_law_more","_law_pair"]
theorem xY:qB nBe uc (qm U1):=⟨rfl,rfl,rfl,by decide+kernel,rfl,by decide+kernel,by decide+kernel⟩
theorem Ki:(["_law_name","_law_pair"]:List Str).Nodup:=by decide+kernel
theorem Kh:(["_law_k","_law_near","_law_found"]:List Str).Nodup:=by decide+kernel
theorem Kc {f:Addr} {fd:FuncData} (F:Qe K "_law_beside" "_law_beside" U1 f fd) (T:Qd K mg) (hdi:mg "dict"=none):qu P w K mg base jh 1 f fd uc UP:=by
 refine F.okJ xY (λvs H Q E z=>?_) (λcdv A outer s H vs Q E hr z=>?_)
 . obtain⟨l,m,t,ps,qs,rs,us,r,u,rfl,_⟩:=z
   rfl
 . obtain⟨l,m,t,ps,qs,rs,us,r,u,rfl,ga,gb,hr1,hu1,ht,q⟩:=z
   have hu:=Q1 hr
   refine⟨_,qg (qA (i:=3) xY.nd rfl (Or.inr rfl) (j7 (N':=["_law_name","_law_pair"]) (ix:=[none,some 2]) (te:=Ju (qI (qL 0) (qI (zN (Zi K) (qL 1) (tC (.int 1))) jH))) rfl ⟨rfl,rfl,rfl,rfl,rfl⟩ (YQ (jF hu (jq (JK rfl) (by rfl) hdi boot_dict (qb (jv 0) qe)) (qS qR (jv 2) qi (λ_ _=>rfl)) (λ_ _=>rfl))) (λC s2 H2 fp pins=>
         ⟨qp (i:=0) Ki rfl (Or.inl rfl),jc,jd (qb (jv 0) (qb (qS qR (jv 1) qi (λ_ _=>rfl)) qe))⟩)))
     (qg (qA (i:=3) xY.nd rfl (Or.inr rfl) (qV YJ (jv 3) (j7 (N':=["_law_name","_law_pair"]) (ix:=[none,some 2]) (te:=Ju (qI (zN (Zi K) (qL 1) (tC (.int 0))) (qI (qL 0) jH))) rfl ⟨rfl,rfl,rfl,rfl,rfl⟩ (YQ (jF hu (jq (JK rfl) (by rfl) hdi boot_dict (qb (jv 1) qe)) (qS qR (jv 2) qi (λ_ _=>rfl)) (λ_ _=>rfl))) (λC s2 H2 fp pins=>
         ⟨qp (i:=0) Ki rfl (Or.inl rfl),jc,jd (qb (qS qR (jv 1) qi (λ_ _=>rfl)) (qb (jv 0) qe))⟩))))
     (qj (qP (j7 (N':=["_law_k","_law_near","_law_found"]) (ix:=[none,none,some 3]) (g:=zS K 2 (j8 (js 0) (j8 (js 1) zT))) (tt:=Xh (zN (x8 K true) (qL 1) (tSl (uL K) (qL 2) WS (xf (qL 0))))) (te:=qL 1) rfl ⟨rfl,rfl,rfl,rfl,rfl⟩ (ZM (by rfl) T.enu (qb (jv 3) qe)) (λC s2 H2 fp pins=>
         ⟨j6 rfl (qE (qp (i:=0) Kh rfl (Or.inl rfl)) (qE (qp (i:=1) Kh rfl (Or.inl rfl)) jE)),J3 (qt (Ya hr.units) (jv 1) (J5 WZ (jv 2) ZL (ZK (jv 0))) (by with_unfolding_all rfl)),jv 1⟩))))),?_⟩
   have lr:=ga.good.len r hr1
   have lu:=gb.good.len u hu1
   refine⟨_,rfl,zm ?_⟩
   refine zF ga λd1 kv1 hd1 ek1 hv1=>?_
   obtain⟨t1,v1,ht1⟩:=hv1 r hr1
   have s1:=qh (o:=HO.dK kv1) hd1
   have k1:upd H d1 (.dK kv1) d1=some (.dK kv1):=qd
   generalize upd H d1 (.dK kv1)=H1 at s1 k1
   have dg1:jK H1 d1 (kV (Sum.inr r.1)) (some (.ref t1)):=by
     have:=jK.k (k:=(Sum.inr r.1:qN)) k1
     rw[v1]at this
     exact this
   refine⟨_,rfl,t,_,0,_,rfl,rfl,.of (s1 _ _ ht),qK (j:=0) rfl,d1,.ref t1,rfl,dg1,t1,rfl,⟨_,.of (s1 _ _ ht1)⟩,λD1 hD1=>?_⟩
   refine Y3 (K:=K) (a:=t1) (xs:=r.2.map V.str) (λj σ'' Y=>∃(v0:Option V) (ws:List Addr),σ''=[v0,some (.ref t)]/\Same H1 Y/\Y D1=some (.lst (ws.map V.ref))/\jO Y ws ((r.2.take j).map λe=>(e,u.1))) ⟨none,[],rfl,qh hD1,qd,.nil _⟩ (λj σ'' Y _ ⟨_,_,_,sy,_⟩=>.of (sy _ _ (s1 _ _ ht1))) ?_ ?_
   . rintro j y σ'' Y hy ⟨v0,ws,rfl,sy,hY,pq⟩
     obtain⟨b,eb,hb,rfl⟩:=Qw hy
     have hj:=(List.getElem?_eq_some_iff.mp eb).1
     refine⟨_,rfl,_,rfl,t,_,1,_,rfl,rfl,.of (sy _ _ (s1 _ _ ht)),qK (j:=1) rfl,by show 2<=sizeLine;decide,λc hc=>?_⟩
     have st:=qh (o:=HO.tup [V.str b,.str u.1]) hc
     refine⟨_,st _ _ hY,?_,_,ws++[c],rfl,Same.upd (sy.trans st) hD1,by rw[qd,List.map_append];rfl,?_⟩
     . rw[List.length_map,pq.1,List.length_map,List.length_take]
       exact qo (by omega)
     . rw[List.take_add_one,eb,List.map_append]
       exact((pq.mono st).app (.one (x:=(b,u.1)) qd)).lst (st _ _ hY)
   . rintro σ'' Y ⟨v0,ws,rfl,sy,hY,pq⟩
     rw[List.length_map,List.take_of_length_le (Nat.le_refl _)]at pq
     have sHY:=s1.trans sy
     refine⟨_,rfl,_,rfl,zm ?_⟩
     refine zF (gb.mono sHY) λd2 kv2 hd2 ek2 hv2=>?_
     obtain⟨t2,v2,ht2⟩:=hv2 u hu1
     have s2:=qh (o:=HO.dK kv2) hd2
     have k2:upd Y d2 (.dK kv2) d2=some (.dK kv2):=qd
     generalize upd Y d2 (.dK kv2)=H2 at s2 k2
     have dg2:jK H2 d2 (kV (Sum.inr u.1)) (some (.ref t2)):=by
       have:=jK.k (k:=(Sum.inr u.1:qN)) k2
       rw[v2]at this
       exact this
     have ht2':=(sHY.trans s2) _ _ ht
     refine⟨_,rfl,t,_,1,_,rfl,rfl,.of ht2',qK (j:=1) rfl,d2,.ref t2,rfl,dg2,t2,rfl,⟨_,.of (s2 _ _ ht2)⟩,λD2 hD2=>?_⟩
     refine Y3 (K:=K) (a:=t2) (xs:=u.2.map V.str) (λj σ'' Z=>∃(v0:Option V) (zs:List Addr),σ''=[v0,some (.ref t)]/\Same H2 Z/\Z D2=some (.lst (zs.map V.ref))/\jO Z zs ((u.2.take j).map λe=>(r.1,e))) ⟨none,[],rfl,qh hD2,qd,.nil _⟩ (λj σ'' Z _ ⟨_,_,_,sz,_⟩=>.of (sz _ _ (s2 _ _ ht2))) ?_ ?_
     . rintro j y σ'' Z hy ⟨v0,zs,rfl,sz,hZ,pz⟩
       obtain⟨b,eb,hb,rfl⟩:=Qw hy
       have hj:=(List.getElem?_eq_some_iff.mp eb).1
       refine⟨_,rfl,t,_,0,_,rfl,rfl,.of (sz _ _ ht2'),qK (j:=0) rfl,_,rfl,by show 2<=sizeLine;decide,λc hc=>?_⟩
       have st:=qh (o:=HO.tup [V.str r.1,.str b]) hc
       refine⟨_,st _ _ hZ,?_,_,zs++[c],rfl,Same.upd (sz.trans st) hD2,by rw[qd,List.map_append];rfl,?_⟩
       . rw[List.length_map,pz.1,List.length_map,List.length_take]
         exact qo (by omega)
       . rw[List.take_add_one,eb,List.map_append]
         exact((pz.mono st).app (.one (x:=(r.1,b)) qd)).lst (st _ _ hZ)
     . rintro σ'' Z ⟨v0,zs,rfl,sz,hZ,pz⟩
       rw[List.length_map,List.take_of_length_le (Nat.le_refl _)]at pz
       have t3:=s2.trans sz
       have l1:=pq.1
       have l2:=pz.1
       rw[List.length_map]at l1 l2
       refine⟨D1,D2,_,_,rfl,rfl,.of (t3 _ _ hY),.of hZ,by rw[List.length_map,List.length_map];exact Nat.le_of_lt (qo (by omega)),λD3 hD3=>?_⟩
       rw[show ws.map V.ref++zs.map V.ref=(ws++zs).map V.ref from(List.map_append).symm]
       have s4:=qh (o:=HO.lst ((ws++zs).map V.ref)) hD3
       have h4:upd Z D3 (.lst ((ws++zs).map V.ref)) D3=some (.lst ((ws++zs).map V.ref)):=qd
       have pf:jO (upd Z D3 (.lst ((ws++zs).map V.ref))) (ws++zs) (fl r u):=((pq.mono t3).app pz).mono s4
       generalize upd Z D3 (.lst ((ws++zs).map V.ref))=Z1 at s4 h4 pf
       have s05:=sHY.trans (t3.trans s4)
       have nmF:=Ks ga.good gb.good hr1 hu1
       have lf:(fl r u).length<=80:=by unfold fl;rw[List.length_append,List.length_map,List.length_map];omega
       refine⟨_,rfl,D3,rfl,⟨_,.of h4⟩,λD4 hD4=>?_⟩
       have nD4:=Qm s05 hD4
       refine kr (K:=K) (a:=D3) (xs:=(ws++zs).map V.ref) (λi σ'' X=>∃(v0 v1:Option V) (ks:List Addr) (ns:List j3),σ''=[v0,v1,some (.ref D3)]/\Same Z1 X/\X D4=some (.lst (ks.map V.ref))/\jO X ks ns/\ns.Nodup/\(∀y,y∈ns↔y∈(fl r u).take i)/\ns.length<=i) ⟨none,none,[],[],rfl,qh hD4,qd,.nil _,List.nodup_nil,λy=>by simp,Nat.le_refl _⟩ (λi σ'' X _ ⟨_,_,_,_,_,sx,_⟩=>.of (sx _ _ h4)) ?_ ?_
       . rintro i y σ'' X p hy hp ⟨v0,v1,ks,ns,rfl,sx,hX,pk,nd,mem,li⟩
         obtain⟨a,x,rfl,ea,ex,mx,ha⟩:=(pf.mono sx).at_ hy
         have hi:=(List.getElem?_eq_some_iff.mp ex).1
         have sp:=qh (o:=HO.tup [V.int ((i:Nat):Int),.ref a]) hp
         refine⟨p,_,rfl,.of qd,rfl,_,_,rfl,_,_,rfl,rfl,?_⟩
         have h4X:=sp _ _ (sx _ _ h4)
         have pfX:=(pf.mono sx).mono sp
         have haX:=sp _ _ ha
         have hXX:=sp _ _ hX
         have pkX:=pk.mono sp
         have sxX:=sx.trans sp
         generalize upd X p (.tup [V.int ((i:Nat):Int),.ref a])=X1 at h4X pfX haX hXX pkX sxX
         refine⟨_,rfl,_,rfl,_,rfl,_,rfl,D3,_,rfl,.of h4X,λls hls=>?_⟩
         rw[Uq,<-List.map_take]
         have st:=qh (o:=HO.lst (((ws++zs).take i).map V.ref)) hls
         have hst:upd X1 ls (.lst (((ws++zs).take i).map V.ref)) ls=some (.lst (((ws++zs).take i).map V.ref)):=qd
         generalize upd X1 ls (.lst (((ws++zs).take i).map V.ref))=X2 at st hst
         refine⟨dP x,((fl r u).take i).map dP,w4 (st _ _ haX),.lst (.of hst) (kC ((pfX.take i).mono st)),kq (nmF x mx),wP (λy hy=>nmF y (List.mem_of_mem_take hy)),by show (1:Nat)<=40;decide,_,rfl,?_⟩
         rw[xB]
         by_cases c:x∈(fl r u).take i
         . refine jM (by rw[decide_eq_true c];rfl) ⟨_,_,ks,ns,rfl,sxX.trans st,st _ _ hXX,pkX.mono st,nd,λy=>?_,by omega⟩
           rw[mem,List.take_add_one,ex,List.mem_append]
           exact⟨.inl,λh=>h.elim id λh=>by rw[Option.toList_some,List.mem_singleton]at h;rw[h];exact c⟩
         . refine jW (by rw[decide_eq_false c];rfl) ?_
           refine⟨_,rfl,_,st _ _ hXX,?_,_,_,ks++[a],ns++[x],rfl,Same.upd (sxX.trans st) hD4,by rw[qd,List.map_append];rfl,((pkX.mono st).app (.one (st _ _ haX))).lst (st _ _ hXX),?_,λy=>?_,?_⟩
           . rw[List.length_map,pk.1]
             exact qo (by omega)
           . exact List.nodup_append.mpr ⟨nd,List.nodup_cons.mpr ⟨List.not_mem_nil,List.nodup_nil⟩,λy hy z hz e=>c ((mem x).mp (by rw[List.mem_singleton]at hz;rw[<-hz,<-e];exact hy))⟩
           . rw[List.mem_append,mem,List.take_add_one,ex,List.mem_append]
             rfl
           . rw[List.length_append,List.length_singleton]
             omega
       . rintro σ'' X ⟨v0,v1,ks,ns,rfl,sx,hX,pk,nd,mem,li⟩
         rw[List.length_map,pf.1,List.take_of_length_le (Nat.le_refl _)]at mem
         refine q X D4 ks ns (s05.trans sx) nD4 hX pk ((List.perm_ext_iff_of_nodup nd (Wk ga.good gb.good (J0.mpr ⟨List.mem_map.mpr ⟨r,hr1,rfl⟩,List.mem_map.mpr ⟨u,hu1,rfl⟩⟩))).mpr λy=>(mem y).trans (wM ga.good gb.good hr1 hu1))
end
end Rh
set_option Elab.async false
set_option linter.all false
set_option maxRecDepth 100000
set_option maxHeartbeats 4000000
namespace Rh
open PySem L2 PyProof.Rows
theorem va:∀{A B:List Str} {i j:Nat} {a b:Str},A[i]?=some a->B[j]?=some b->(XV A B)[i*B.length+j]?=some (a,b)
 | [],B,i,j,a,b,h,_=>by simp at h
 | a'::A,B,0,j,a,b,h,hb=>by
   obtain rfl:a'=a:=by simpa using h
   have hj:=(List.getElem?_eq_some_iff.mp hb).1
   show (B.map (λb=>(a',b))++XV A B)[0*B.length+j]?=_
   rw[Nat.zero_mul,Nat.zero_add,List.getElem?_append_left (by rw[List.length_map];exact hj),List.getElem?_map,hb]
   rfl
 | a'::A,B,i+1,j,a,b,h,hb=>by
   have h':A[i]?=some a:=by simpa using h
   show (B.map (λb=>(a',b))++XV A B)[(i+1)*B.length+j]?=_
   rw[List.getElem?_append_right (by rw[List.length_map,Nat.succ_mul];omega),List.length_map,show (i+1)*B.length+j - B.length=i*B.length+j by rw[Nat.succ_mul];omega]
   exact va h' hb
theorem vB {Z:List j3} (nd:Z.Nodup) {k:Nat} {x:j3} (ex:Z[k]?=some x):x∉Z.take k:=λm=>by
 obtain⟨j,ej⟩:=List.getElem?_of_mem m
 have hj:=(List.getElem?_eq_some_iff.mp ej).1
 rw[List.length_take]at hj
 rw[List.getElem?_take_of_lt (by omega)]at ej
 have:=(List.getElem?_inj (by omega) nd).mp (ej.trans ex.symm)
 omega
def kD (CG CW CM:Addr) (H0 H:Hp) (p:Addr) (rs us:ju):Prop:=match Jm rs us with
 | some (b,v)=>Nn H p CW CM b v
 | none=>∃x t Pd,H p=some (.tup [.str (Str.ofString "told"),.ref t])/\H t=some (.tup [.ref x,.ref Pd])/\jJ CG H x (jl rs us)/\qv (jl rs us)/\H0 Pd=none/\H Pd=some (.dT (Ux (jo rs us)))
theorem kD.mono {CG CW CM:Addr} {H0 H H':Hp} {p:Addr} {rs us:ju} (h:kD CG CW CM H0 H p rs us) (s:Same H H'):kD CG CW CM H0 H' p rs us:=by
 unfold kD at h ⊢
 cases e:Jm rs us with
 | some bv=>rw[e]at h;exact Nn.mono h s
 | none=>
   rw[e]at h
   obtain⟨x,t,Pd,a,a2,b,c,d,e⟩:=h
   exact⟨x,t,Pd,s _ _ a,s _ _ a2,b.mono s,c,d,s _ _ e⟩
theorem xP {z:Str} (h:qG z=true):PySem.SeqAt.shaped (.str z)=true:=by
 unfold PySem.SeqAt.shaped
 rw[Bool.and_eq_true]
 exact⟨JZ h,rfl⟩
theorem jJ.clr {CG:Addr} {H:Hp} {a d:Addr} {rs:ju} {kv:List (List qN×V)} {o:HO} (h:jJ CG H a rs) (hd:H d=some (.dT kv)):jJ CG (upd H d o) a rs:=by
 obtain⟨dx,lo,rd,kvs,h1,h2,h3,h4⟩:=h
 have go:∀{b:Addr} {u:HO},H b=some u->(∀k,u≠.dT k)->upd H d o b=some u:=λ{b u} hb n=>by
   rw[qf (λe=>by rw[e,hd]at hb;exact n _ (Option.some.inj hb).symm)]
   exact hb
 exact⟨dx,lo,rd,kvs,go h1 (λ_ z=>nomatch z),go h2 (λ_ z=>nomatch z),go h3 (λ_ z=>nomatch z),λr hr=>let ⟨q,a,b⟩:=h4 r hr;⟨q,a,go b (λ_ z=>nomatch z)⟩⟩
section
variable {P:Program} {w:World} {K:PySem.W.Frag} {mg:Str->Option Value} {base:Heap}
abbrev nPR:List Str:=["_law_rows_here","_law_more","_law_one","_law_other","_law_told","_law_places","_law_name","_law_others","_law_beside_here","_law_leads_here","_law_due","_law_pair","_law_letter"]
theorem zR:qB nPR xk (qm uG):=⟨rfl,rfl,rfl,by decide+kernel,rfl,by decide+kernel,by decide+kernel⟩
theorem Gj:(["_law_near","_law_places"]:List Str).Nodup:=by decide+kernel
theorem u5 {f CG D CW CM fC fP fRf fMn fSR fBe:Addr} {fd fdC fdP fdRf fdMn fdSR fdBe:FuncData} {Cs:Addr->Sp->Prop} (F:Qe K "_law_paired_right" "_law_paired_right" uG f fd) (B:Zp mg) (G:Qu mg) (T:Qd K mg)
   (hC:j0 K mg "_law_called" ub xl fC fdC) (GC:qu P w K mg base jh 10 fC fdC xl (ya CW CM Cs)) (hP:j0 K mg "paired" Xm Xa fP fdP) (GP:qu P w K mg base (Qv P w) 8 fP fdP Xa (Wa CG CW CM)) (cp:Cs fP (Wa CG CW CM)) (hRf:j0 K mg "_law_refused" w9 yD fRf fdRf) (GRf:qu P w K mg base jh 1 fRf fdRf yD (UL CW CM))
   (hMn:j0 K mg "_law_many" VN ["_law_rows_here"] fMn fdMn) (GMn:qu P w K mg base jh 1 fMn fdMn ["_law_rows_here"] Xl) (hSR:j0 K mg "_law_sorted_rows" w6 ["_law_ground"] fSR fdSR) (GSR:qu P w K mg base jh 2 fSR fdSR ["_law_ground"] (k7 CG))
   (hBe:j0 K mg "_law_beside" U1 uc fBe fdBe) (GBe:qu P w K mg base jh 1 fBe fdBe uc UP):qu P w K mg base jh 11 f fd xk (k9 CG):=by
 refine F.okJ zR (λvs H Q E z=>?_) (λcdv A outer s H vs Q E hr z=>?_)
 . obtain⟨l,m,g,h,ps,qs,rs,us,rfl,_⟩:=z
   rfl
 . obtain⟨l,m,g,h,ps,qs,rs,us,rfl,ga,gb,gr,gh,q⟩:=z
   have hu:=Q1 hr
   have h70:(A.deeper (envOfC (Str.ofString "_law_paired_right") (qm uG) s.heap.objs.size f cdv)).units+70 < cLine:=by have:=hr.un;omega
   have r1:qW 1 _:=hr.mono (by decide)
   have r2:qW 2 _:=hr.mono (by decide)
   have r8:qW 8 _:=hr.mono (by decide)
   refine⟨_,ZI (qA (i:=4) zR.nd rfl (Or.inl rfl) (ja hC GC hr (by rfl) (qb (jz (v:=.ref fP) (by rfl) hP.ns rfl) (qb (jv 2) (qb (jv 3) qe)))))
     (qg (qU (qt Q7 (qV Qq (qr qy (by rfl) B.len boot_len (qb (jv 0) qe)) (qr qy (by rfl) B.len boot_len (qb (jv 1) qe))) qi (qx _)) (qj (qP (ja hRf GRf r1 (by rfl) (qb (jv 4) (qb (jZ (qb jI (qb jI (qb jI qe)))) (qb (qV Qq (qr qy (by rfl) B.len boot_len (qb (jv 0) qe)) (qr qy (by rfl) B.len boot_len (qb (jv 1) qe))) qe)))))) qz)
     (qg (qA (i:=5) zR.nd rfl (Or.inr rfl) zy)
     (qg (jx PassesOwn.never rfl (qJ (jv 0)) (j6 rfl (qE (qp (i:=6) zR.nd rfl (Or.inl rfl)) (qE (qp (i:=7) zR.nd rfl (Or.inl rfl)) jE)))
       (qj (jx PassesOwn.never rfl (qJ (jv 1)) (j6 rfl (qE (qp (i:=8) zR.nd rfl (Or.inl rfl)) (qE (qp (i:=9) zR.nd rfl (Or.inl rfl)) jE)))
         (qj (jV hu (jv 5) (jd (qb (jv 6) (qb (jv 8) qe))) (qS YR jy (qr WI (by rfl) B.len boot_len (qb (jv 5) qe)) (λ_ _=>rfl)) rfl)))))
     (qg (qA (i:=10) zR.nd rfl (Or.inl rfl) (jZ qe))
     (qg (yL (jx PassesOwn.never rfl (vP (jv 5)) (j6 rfl (qE (qp (i:=11) zR.nd rfl (Or.inl rfl)) (qE (qp (i:=12) zR.nd rfl (Or.inl rfl)) jE)))
       (qj (jf (zA PySem.F.plainAttrs_list PySem.F.slot_list_append PySem.F.type_list_append QI (jv 10) (qb
         (jd (qb (jv 12) (qb (qr WG (by rfl) G.srt boot_sorted (qb
           (j7 (N':=["_law_near","_law_places"]) (ix:=[none,some 5]) (te:=z0 (qL 1) (qL 0)) rfl ⟨rfl,rfl,rfl,rfl,rfl⟩ (qJ (ja hBe GBe r1 (by rfl) (qb (jv 0) (qb (jv 1) (qb (jv 11) qe))))) (λC s2 H2 fp pins=>
             ⟨qp (i:=0) Gj rfl (Or.inl rfl),jc,jF hu (jv 1) (jv 0) (λ_ _=>rfl)⟩)) qe)) qe))) qe))))))
     (qg (qU (qt Q7 (ja hMn GMn r1 (by rfl) (qb (jv 10) qe)) qi (qx _)) (qj (qP (ja hRf GRf r1 (by rfl) (qb (jv 4) (qb (jZ (qb jI (qb jI (qb jI qe)))) (qb (ja hMn GMn r1 (by rfl) (qb (jv 10) qe)) qe)))))) qz)
     (qg (qU (Qi (qt vm (qS qR (jv 4) qi (λ_ _=>rfl)) jy (qx _)) (Qi (qt (Wo hr.units) (ja hSR GSR r2 (by rfl) (qb (qS qR (qS qR (jv 4) qi (λ_ _=>rfl)) qi (λ_ _=>rfl)) qe)) (jv 10) (qx _)) (j5 (qt (yo h70) (qS qR (qS qR (jv 4) qi (λ_ _=>rfl)) qi (λ_ _=>rfl)) (jv 5) (qx _))))).pt qM qz)
     (qg (jf (vV PySem.F.plainAttrs_dict PySem.F.slot_dict_clear PySem.F.type_dict_clear Wr (qS qR (qS qR (jv 4) qi (λ_ _=>rfl)) qi (λ_ _=>rfl))))
     (qj (qP (QS (yq h70) (qS qR (Vj hP GP r8 uV (by rfl) (qb (jv 2) (qb (jv 3) qe))) qi (λ_ _=>rfl)) (jv 5) (qx _)))))))))))),?_⟩
   have lZ:=xt rs us
   have le1:=ga.le
   have le2:=gb.le
   have lp1:=ga.rows.1
   have lp2:=gb.rows.1
   refine⟨λσ' H1=>∃p,σ'=[some (.ref l),some (.ref m),some (.ref g),some (.ref h),some (.ref p),none,none,none,none,none,none,none,none]/\QY H H1/\kD CG CW CM H H1 p rs us,⟨_,rfl,_,rfl,fP,g,h,Wa CG CW CM,rfl,cp,g,h,rs,us,rfl,gr,gh,ga.good,gb.good,ga.pos,gb.pos,ga.le,gb.le,λb v e Hx dx C s hd t=>⟨C,dx,v,b,rfl,rfl,s,hd,t,λH' p k nn=>⟨p,rfl,k,?_⟩⟩,λe H' x Pd t s gr' gd' n1 n2 n3 p hp=>⟨p,rfl,(s.trans (qh hp)).keep,?_⟩⟩,?_⟩
   . unfold kD
     rw[e]
     exact nn
   . unfold kD
     rw[e]
     have sp:=qh (o:=HO.tup [V.str (Str.ofString "told"),.ref t]) hp
     exact⟨x,t,Pd,qd,sp _ _ n3,gr'.mono sp,gd',n1,sp _ _ n2⟩
   rintro σ' H1 ⟨p,rfl,k1,td⟩
   have ga1:=ga.keep k1
   have gb1:=gb.keep k1
   have m14:rs.length*us.length<=14*14:=Nat.mul_le_mul le1 le2
   have cm:y9 (((ps.map V.ref).length:Nat):Int) (((qs.map V.ref).length:Nat):Int):=.inl ⟨by rw[List.length_map,lp1];omega,by rw[List.length_map,lp1];omega⟩
   have em:(((ps.map V.ref).length:Nat):Int)*(((qs.map V.ref).length:Nat):Int)=((rs.length*us.length:Nat):Int):=by rw[List.length_map,List.length_map,lp1,lp2,Int.natCast_mul]
   refine⟨_,rfl,l,_,rfl,.inl (.of ga1.at_),_,rfl,m,_,rfl,.inl (.of gb1.at_),_,_,rfl,rfl,cm,_,_,rfl,rfl,_,rfl,?_⟩
   rw[em]
   by_cases c1:14 < rs.length*us.length
   . have res:Jm rs us=some (false,.int ((rs.length*us.length:Nat):Int)):=by unfold Jm;rw[if_pos c1]
     refine jW (decide_eq_true (by show (14:Int) < _;omega)) ⟨_,rfl,by show 3<=sizeLine;decide,λlk hlk=>?_⟩
     have s4:=qh (o:=HO.lst [V.bl false,.bl true,.bl true]) hlk
     refine⟨_,rfl,l,_,rfl,.inl (.of (s4 _ _ ga1.at_)),_,rfl,m,_,rfl,.inl (.of (s4 _ _ gb1.at_)),_,_,rfl,rfl,cm,?_⟩
     unfold kD at td
     rw[res,<-em]at td
     exact⟨p,lk,false,_,rfl,Nn.mono td s4,qd,rfl,λH' s'=>q H' (k1.trans (s4.trans s').keep)⟩
   refine jM (decide_eq_false (by show ¬(14:Int) < _;omega)) ?_
   have l14:(jo rs us).length<=14:=by rw[lZ];omega
   have ndZ:=wo ga.good gb.good
   refine λPl hPl=>?_
   have s2:Same H1 (upd H1 Pl (.dT [])):=qh hPl
   have h2:upd H1 Pl (.dT []) Pl=some (.dT []):=qd
   generalize upd H1 Pl (.dT [])=H2 at s2 h2
   have ga2:=ga1.mono s2
   have gb2:=gb1.mono s2
   have nlP:l≠Pl:=ql ga1.at_ hPl
   have nmP:m≠Pl:=ql gb1.at_ hPl
   have frR:∀{X:Hp} {a:Addr} {as:List Addr} {ws:ju},Fr H2 Pl X->qH H2 as ws->qH X as ws:=λ{X a as ws} fr ra=>⟨ra.1,λi p r e1 e2=>by
     obtain⟨t,a1,a2⟩:=ra.2 i p r e1 e2
     exact⟨t,fr _ _ a1 (λe=>by rw[e,h2]at a1;cases a1),fr _ _ a2 (λe=>by rw[e,h2]at a2;cases a2)⟩⟩
   refine⟨_,rfl,l,rfl,⟨_,.of ga2.at_⟩,?_⟩
   refine jA (K:=K) (a:=l) (xs:=ps.map V.ref) (λi σ X=>∃(v6 v7 v8 v9:Option V),σ=[some (.ref l),some (.ref m),some (.ref g),some (.ref h),some (.ref p),some (.ref Pl),v6,v7,v8,v9,none,none,none]/\Fr H2 Pl X/\X Pl=some (.dT (kvs ((jo rs us).take (i*us.length)) λx=>.str (lt (jo rs us) x)))) ⟨none,none,none,none,rfl,Fr.refl,by rw[Nat.zero_mul];exact h2⟩ (λi σ X _ ⟨_,_,_,_,_,fr,_⟩=>.of (fr _ _ ga2.at_ nlP)) ?_ ?_
   . rintro i y σ X hy ⟨v6,v7,v8,v9,rfl,fr,hX⟩
     obtain⟨p',t,r,rfl,er,hr',hp',ht⟩:=(frR (a:=l) fr ga2.rows).item hy
     have hi:=(List.getElem?_eq_some_iff.mp er).1
     refine⟨p',_,rfl,.of hp',rfl,_,_,rfl,_,_,rfl,rfl,?_⟩
     refine⟨_,rfl,m,rfl,⟨_,.of (fr _ _ gb2.at_ nmP)⟩,?_⟩
     refine jA (K:=K) (a:=m) (xs:=qs.map V.ref) (λj σ Y=>∃(v8 v9:Option V),σ=[some (.ref l),some (.ref m),some (.ref g),some (.ref h),some (.ref p),some (.ref Pl),some (.str r.1),some (.ref t),v8,v9,none,none,none]/\Fr H2 Pl Y/\Y Pl=some (.dT (kvs ((jo rs us).take (i*us.length+j)) λx=>.str (lt (jo rs us) x)))) ⟨v8,v9,rfl,fr,hX⟩ (λj σ Y _ ⟨_,_,_,fr,_⟩=>.of (fr _ _ gb2.at_ nmP)) ?_ ?_
     . rintro j y σ Y hy ⟨v8,v9,rfl,fy,hY⟩
       obtain⟨p2,t2,u,rfl,eu,hu',hp2,ht2⟩:=(frR (a:=m) fy gb2.rows).item hy
       have hj:=(List.getElem?_eq_some_iff.mp eu).1
       have ex:(jo rs us)[i*us.length+j]?=some (r.1,u.1):=by
         have:=va (A:=rs.map (·.1)) (B:=us.map (·.1)) (i:=i) (j:=j) (a:=r.1) (b:=u.1) (by rw[List.getElem?_map,er];rfl) (by rw[List.getElem?_map,eu];rfl)
         rw[List.length_map]at this
         exact this
       have hk:=(List.getElem?_eq_some_iff.mp ex).1
       have lk:(kvs ((jo rs us).take (i*us.length+j)) λx=>V.str (lt (jo rs us) x)).length=i*us.length+j:=by
         unfold kvs
         rw[List.length_map,List.length_take]
         omega
       refine⟨p2,_,rfl,.of hp2,rfl,_,_,rfl,_,_,rfl,rfl,?_⟩
       refine⟨_,rfl,Pl,_,rfl,.inl hY,xi,_,97+(i*us.length+j),rfl,rfl,Va,?_,_,rfl,_,rfl,_,rfl,by show 2<=sizeLine;decide,λc hc=>?_⟩
       . rw[lk]
         exact qK (vc _ (Nat.lt_of_lt_of_le hk l14))
       . have st:=qh (o:=HO.tup [V.str r.1,.str u.1]) hc
         refine⟨Pl,_,rfl,Jp.t (k:=kP (r.1,u.1)) (st _ _ hY) qd ?_,_,_,rfl,(fy.same st).at_d,?_⟩
         . rw[lk]
           exact qo (by omega)
         . have e:=Vh (g:=λx=>V.str (lt (jo rs us) x)) (vB ndZ ex)
           rw[qd,show i*us.length+(j+1)=(i*us.length+j)+1 from rfl,List.take_add_one,ex,show (some (r.1,u.1)).toList=[(r.1,u.1)] from rfl,<-e,xq ndZ ex]
           rfl
     . rintro σ Y ⟨v8,v9,rfl,fy,hY⟩
       rw[List.length_map,lp2]at hY
       exact⟨_,_,v8,v9,rfl,fy,by rw[Nat.succ_mul];exact hY⟩
   . rintro σ X ⟨v6,v7,v8,v9,rfl,fr,hX⟩
     rw[List.length_map,lp1,<-lZ,List.take_of_length_le (Nat.le_refl _)]at hX
     have sX:Same H1 X:=λb u hb=>fr _ _ (s2 _ _ hb) (ql hb hPl)
     refine⟨by show 0<=sizeLine;decide,λDu hDu=>?_⟩
     have s4:Same X (upd X Du (.lst [])):=qh hDu
     have h4:upd X Du (.lst []) Du=some (.lst []):=qd
     generalize upd X Du (.lst [])=H4 at s4 h4
     have hP4:=s4 _ _ hX
     refine⟨Pl,_,hP4,λo=>?_⟩
     have h5P:upd H4 Pl (.frz o (.dT (kvs (jo rs us) λx=>V.str (lt (jo rs us) x)))) Pl=some (.frz o (.dT (Ux (jo rs us)))):=qd
     have s15:Same H1 (upd H4 Pl (.frz o (.dT (kvs (jo rs us) λx=>V.str (lt (jo rs us) x))))):=λb u hb=>by
       rw[qf (ql hb hPl)]
       exact s4 _ _ (sX _ _ hb)
     have nDP:Du≠Pl:=λe=>by rw[e,hX]at hDu;cases hDu
     have h5D:upd H4 Pl (.frz o (.dT (kvs (jo rs us) λx=>V.str (lt (jo rs us) x)))) Du=some (.lst []):=by rw[qf nDP];exact h4
     have nD1:H1 Du=none:=Qm sX hDu
     generalize upd H4 Pl (.frz o (.dT (kvs (jo rs us) λx=>V.str (lt (jo rs us) x))))=H5 at h5P s15 h5D
     have ga5:=ga1.mono s15
     have gb5:=gb1.mono s15
     have lnZ:Ln (.dT (Ux (jo rs us)))=(jo rs us).length:=List.length_map ..
     have lpr:(jl rs us).length=(jo rs us).length:=List.length_map ..
     refine⟨_,rfl,Pl,o,_,rfl,h5P,trivial,?_⟩
     refine Uj (a:=Pl) (o:=o) (u:=.dT (Ux (jo rs us))) (λi σ Y=>∃(v11 v12:Option V) (ws:List Addr),σ=[some (.ref l),some (.ref m),some (.ref g),some (.ref h),some (.ref p),some (.ref Pl),v6,v7,v8,v9,some (.ref Du),v11,v12]/\Fr H5 Du Y/\Y Du=some (.lst (ws.map V.ref))/\jT (Um Y Du) ws ((jl rs us).take i)) ⟨none,none,[],rfl,Fr.refl,h5D,.nil _⟩ (λi σ Y _ ⟨_,_,_,_,fy,_⟩=>fy _ _ h5P (Ne.symm nDP)) ?_ ?_
     . rintro i x y p' σ Y hi hp' pr ⟨v11,v12,ws,rfl,fy,hY,sr⟩
       obtain⟨k,b,ek,rfl,hb⟩:=pr
       rw[lnZ]at hi
       have ex:(jo rs us)[i]?=some (jo rs us)[i]:=List.getElem?_eq_getElem hi
       have mx:(jo rs us)[i]∈jo rs us:=List.getElem_mem hi
       generalize (jo rs us)[i]=x at ex mx
       have ek2:(Ux (jo rs us))[i]?=some (kP x,V.str (lt (jo rs us) x)):=by unfold Ux kvs;rw[List.getElem?_map,ex];rfl
       rw[ek2]at ek
       obtain⟨rfl,rfl⟩:=Prod.mk.inj (Option.some.inj ek)
       obtain⟨r,u,hr1,hu1,exu⟩:=XQ mx
       have sp:=qh (o:=HO.tup [V.ref b,.str (lt (jo rs us) x)]) hp'
       have npD:p'≠Du:=λe=>by rw[e,hY]at hp';cases hp'
       refine⟨p',_,rfl,.of qd,rfl,_,_,rfl,_,_,rfl,rfl,?_⟩
       have fyp:=fy.same sp
       have hYp:=sp _ _ hY
       have hbp:=sp _ _ hb
       have srp:=sr.mono (Jb (D:=Du) sp)
       generalize upd Y p' (.tup [V.ref b,.str (lt (jo rs us) x)])=Y0 at fyp hYp hbp srp
       have s1Y:Same H1 Y0:=λb u hb=>fyp _ _ (s15 _ _ hb) (ql hb nD1)
       have hPY:=fyp _ _ h5P (Ne.symm nDP)
       refine⟨_,rfl,.inl ⟨rfl,_,.of hYp⟩,_,rfl,_,rfl,_,rfl,_,rfl,l,m,b,ps,qs,rs,us,r,u,rfl,ga1.mono s1Y,gb1.mono s1Y,hr1,hu1,by rw[hbp,exu];rfl,λY1 lm zs ns sY1 nlm hlm pq pm=>⟨lm,rfl,⟨_,.of hlm⟩,λD0 hD0=>?_⟩⟩
       rw[<-exu]at pm
       have pl:=YH ga.good gb.good mx
       have pn:=pm.length_eq
       refine q5 (K:=K) (a:=lm) (xs:=zs.map V.ref) (λj σ'' Y'=>∃v0:Option V,σ''=[v0,some (.ref Pl)]/\Y'=upd Y1 D0 (.lst ((ns.take j).map λy=>V.str (lt (jo rs us) y)))) ⟨none,rfl,rfl⟩ (λj σ'' Y' _ ⟨_,_,e⟩=>by rw[e];exact .of (qk hlm hD0)) ?_ ?_
       . rintro j y σ'' Y' hy ⟨v0,rfl,rfl⟩
         obtain⟨b2,x2,rfl,eb,ex2,mx2,hb2⟩:=pq.at_ hy
         have hj:=(List.getElem?_eq_some_iff.mp ex2).1
         have mz2:=zf ga.good gb.good mx (pm.mem_iff.mp mx2)
         have dg2:jK (upd Y1 D0 (.lst ((ns.take j).map λy=>V.str (lt (jo rs us) y)))) Pl (.ref b2) (some (.str (lt (jo rs us) x2))):=
           .inr ⟨Ux (jo rs us),kP x2,b2,.inr ⟨o,qk (sY1 _ _ hPY) hD0⟩,rfl,qk hb2 hD0,(Ja (g:=λx=>V.str (lt (jo rs us) x)) mz2).symm⟩
         refine⟨_,rfl,_,rfl,Pl,_,rfl,dg2,_,qd,?_,_,rfl,?_⟩
         . rw[List.length_map,List.length_take]
           exact qo (by omega)
         . rw[jw,List.take_add_one,ex2,List.map_append]
           rfl
       . rintro σ'' Y' ⟨v0,rfl,rfl⟩
         rw[List.length_map,pq.1,List.take_of_length_le (Nat.le_refl _)]
         have em:(ns.map λy=>V.str (lt (jo rs us) y))=(ns.map (lt (jo rs us))).map V.str:=by rw[List.map_map];rfl
         rw[em]
         have t1:Same Y0 (upd Y1 D0 (.lst ((ns.map (lt (jo rs us))).map V.str))):=sY1.trans (qh hD0)
         have t1h:upd Y1 D0 (.lst ((ns.map (lt (jo rs us))).map V.str)) D0=some (.lst ((ns.map (lt (jo rs us))).map V.str)):=qd
         generalize upd Y1 D0 (.lst ((ns.map (lt (jo rs us))).map V.str))=Y2 at t1 t1h
         refine⟨D0,ns.map (lt (jo rs us)),rfl,.of t1h,by rw[List.length_map];omega,λtq ys htq pm2 so=>⟨by show 2<=sizeLine;decide,λtp htp=>?_⟩⟩
         obtain⟨ey,pm3⟩:=ZD pm2 so (pm.map (lt (jo rs us)))
         subst ey
         have t2:=qh (o:=HO.lst ((srtS ((ZG rs us x).map (lt (jo rs us)))).map V.str)) htq
         have t3:=qh (o:=HO.tup [V.str (lt (jo rs us) x),.ref tq]) htp
         have t23:=t2.trans t3
         have t123:=t1.trans t23
         have hY4:=t123 _ _ hYp
         have nqR:tq≠Du:=λe=>by rw[e,t1 _ _ hYp]at htq;cases htq
         have npR:tp≠Du:=λe=>by rw[e,t2 _ _ (t1 _ _ hYp)]at htp;cases htp
         have sr4:=(srp.mono (Jb t123)).snoc (r:=VZ rs us x) pm3 (p:=tp) (q:=tq) (by rw[Jc npR];exact qd) (by rw[Jc nqR];exact qk qd htp)
         have lw:=sr.1
         refine⟨Du,_,_,rfl,rfl,hY4,?_,_,_,ws++[tp],rfl,(fyp.same t123).at_d,by rw[qd,List.map_append];rfl,?_⟩
         . rw[List.length_map,lw,List.length_take]
           refine qo (Nat.le_trans (Nat.min_le_left _ _) (by omega))
         . have ep:(jl rs us)[i]?=some (VZ rs us x):=by unfold jl;rw[List.getElem?_map,ex];rfl
           rw[List.take_add_one,ep,ZS]
           exact sr4
     . rintro σ Y ⟨v11,v12,ws,rfl,fy,hY,sr⟩
       rw[lnZ,<-lpr,List.take_of_length_le (Nat.le_refl _)]at sr
       have srY:=sr.mono ZT
       have s1Y:Same H1 Y:=λb u hb=>fy _ _ (s15 _ _ hb) (ql hb nD1)
       have hPY:=fy _ _ h5P (Ne.symm nDP)
       have wide:=zW ga.good gb.good l14
       have rl:=za wide l14
       have lws:=srY.1
       have mny:∀{X:Hp} {R:VK} {E':XK},Same Y X->(∀X',Same X X'->R (.int ((qF (jl rs us):Nat):Int)) X')->Xl [.ref Du] X R E':=λ{X R E'} sx k=>⟨Du,ws,(jl rs us).map (λr:Str×List Str=>r.2.length),rfl,sx _ _ hY,(srY.mono sx).mn,by omega,Nat.lt_of_le_of_lt rl (by decide),k⟩
       have tdY:=td.mono s1Y
       refine⟨_,rfl,zm (mny (Same.refl _) λX2 sX2=>⟨_,_,rfl,rfl,_,rfl,?_⟩)⟩
       by_cases c2:40 < qF (jl rs us)
       . have res:Jm rs us=some (false,.int ((qF (jl rs us):Nat):Int)):=by unfold Jm;rw[if_neg c1,if_pos c2]
         refine jW (decide_eq_true (by show (40:Int) < _;omega)) ⟨_,rfl,by show 3<=sizeLine;decide,λlk hlk=>?_⟩
         have s9:=qh (o:=HO.lst [V.bl false,.bl true,.bl true]) hlk
         have hk9:upd X2 lk (.lst [V.bl false,.bl true,.bl true]) lk=some (.lst [V.bl false,.bl true,.bl true]):=qd
         generalize upd X2 lk (.lst [V.bl false,.bl true,.bl true])=X3 at s9 hk9
         refine⟨_,rfl,zm (mny (sX2.trans s9) λX4 sX4=>?_)⟩
         unfold kD at tdY
         rw[res]at tdY
         exact⟨p,lk,false,_,rfl,Nn.mono tdY ((sX2.trans s9).trans sX4),sX4 _ _ hk9,rfl,λH' s'=>q H' (k1.trans (s1Y.trans (((sX2.trans s9).trans sX4).trans s')).keep)⟩
       . have res:Jm rs us=none:=by unfold Jm;rw[if_neg c1,if_neg c2]
         refine jM (decide_eq_false (by show ¬(40:Int) < _;omega)) ?_
         have td2:=tdY.mono sX2
         unfold kD at td2
         rw[res]at td2
         obtain⟨x,t,Pd,hpx,htx,grx,gdx,Gm,hPd⟩:=td2
         refine⟨_,rfl,p,_,0,_,rfl,rfl,.of hpx,qK (j:=0) rfl,rfl,_,rfl,jM rfl ?_⟩
         refine⟨_,rfl,p,_,1,_,rfl,rfl,.of hpx,qK (j:=1) rfl,t,_,0,_,rfl,rfl,.of htx,qK (j:=0) rfl,x,_,rfl,grx,gdx,by omega,λX3 l8 ps8 s10 nl8 hl8 sr8=>⟨_,rfl,?_⟩⟩
         have nm:∀r∈jl rs us,qG r.1=true/\∀z∈r.2,qG z=true:=λr hr=>⟨gdx.nm r hr,gdx.names r hr⟩
         refine⟨.list ((jl rs us).map dSr),.lst (.of hl8) (Q0 sr8),.lst (.of ((sX2.trans s10) _ _ hY)) (Q0 (srY.mono (sX2.trans s10))),Wb (srY.names nm),_,rfl,jR ?_⟩
         have hPd3:=s10 _ _ hPd
         have hPl3:=(sX2.trans s10) _ _ hPY
         have same:∀(X:Hp),∀kv∈Ux (jo rs us),∃u d,jp (Ux (jo rs us)) kv.1=some u/\DV K X kv.2 d/\DV K X u d/\PySem.SeqAt.shaped d=true:=λX kv hkv=>by
           obtain⟨z,hz,rfl⟩:=List.mem_map.mp hkv
           exact⟨_,.str (lt (jo rs us) z),Ja hz,.str _,.str _,xP (Vf l14 hz)⟩
         refine⟨_,rfl,p,_,1,_,rfl,rfl,.of (s10 _ _ hpx),qK (j:=1) rfl,t,_,1,_,rfl,rfl,.of (s10 _ _ htx),qK (j:=1) rfl,_,rfl,Pd,Pl,_,_,rfl,rfl,.inl hPd3,.inr ⟨o,hPl3⟩,rfl,same X3,_,rfl,jR ?_⟩
         refine⟨_,rfl,p,_,1,_,rfl,rfl,.of (s10 _ _ hpx),qK (j:=1) rfl,t,_,1,_,rfl,rfl,.of (s10 _ _ htx),qK (j:=1) rfl,?_⟩
         refine⟨.inr (.inr (.inl ⟨rfl,.inr ⟨_,hPd3⟩⟩)),Pd,_,rfl,rfl,hPd3,?_⟩
         have k3:QY H X3:=k1.trans (s1Y.trans (sX2.trans s10)).keep
         have nPP:Pl≠Pd:=λe=>by rw[e,hPd3]at hPl3;cases hPl3
         have gr4:jJ CG (upd X3 Pd (.dT [])) g rs:=(gr.keep k3).clr hPd3
         have gh4:jJ CG (upd X3 Pd (.dT [])) h us:=(gh.keep k3).clr hPd3
         have hPl4:upd X3 Pd (.dT []) Pl=some (.frz o (.dT (Ux (jo rs us)))):=by rw[qf nPP];exact hPl3
         have k4:QY H (upd X3 Pd (.dT [])):=λb u hb n=>by
           rw[qf (ql hb Gm)]
           exact k3 b u hb n
         generalize upd X3 Pd (.dT [])=X4 at gr4 gh4 hPl4 k4
         refine⟨_,rfl,_,rfl,g,h,rs,us,rfl,gr4,gh4,ga.good,gb.good,ga.pos,gb.pos,le1,le2,(λb v e=>by rw[res]at e;cases e),λ_ X5 x5 Pd5 t5 s5 _ _ _ hPd5 ht5=>?_⟩
         exact⟨t5,_,1,_,rfl,rfl,.of ht5,qK (j:=1) rfl,_,rfl,Pd5,Pl,_,_,rfl,rfl,.inl hPd5,.inr ⟨o,s5 _ _ hPl4⟩,rfl,same X5,q X5 (k4.trans s5.keep)⟩
end
end Rh
set_option Elab.async false
set_option linter.all false
set_option maxRecDepth 100000
set_option maxHeartbeats 4000000
namespace Rh
open PySem L2 PyProof.Rows
def WX (K:PySem.W.Frag):Sp:=λvs H Q _=>∃(a:Addr) (ns:List Int),vs=[.ref a]/\SqL K H a (ns.map V.int)/\ns.length<=63/\∀H',Q (.bl true) H'
theorem Kn {r:Int} (h0:0<=r) (h1:r < 5):∃mo m2:Nat,Uy [V.int 9,.int 4,.int 4,.int 3,.int 14] r=some (.int (mo:Int))/\0 < mo/\mo<=14/\Uy [V.int (mo:Int),.int 2] ((mo:Int) / 14)=some (.int (m2:Int))/\0 < m2/\m2<=14:=by
 have:r=0\/r=1\/r=2\/r=3\/r=4:=by omega
 rcases this with rfl | rfl | rfl | rfl | rfl
 . exact⟨9,9,rfl,by decide,by decide,rfl,by decide,by decide⟩
 . exact⟨4,4,rfl,by decide,by decide,rfl,by decide,by decide⟩
 . exact⟨4,4,rfl,by decide,by decide,rfl,by decide,by decide⟩
 . exact⟨3,3,rfl,by decide,by decide,rfl,by decide,by decide⟩
 . exact⟨14,2,rfl,by decide,by decide,rfl,by decide,by decide⟩
theorem Kq {n jj:Int} (h0:0<=n) (h:(if (if n < (8:Int) then n else (8:Int)) > 1 then (if n < (8:Int) then n else (8:Int)) else 1)=jj):-(2^62)<=jj/\jj < 2^62:=by
 subst h
 split<;>split<;>omega
theorem Y5 {K:PySem.W.Frag} {H H':Hp} {p d:Addr} {ns:List Int} {kvs:List (qN×V)} (h:SqL K H p (ns.map V.int)) (hd:H d=some (.dK kvs)) (f:Fr H d H'):SqL K H' p (ns.map V.int):=by
 rcases h with (h | ⟨o,h⟩) | h
 . exact .inl (.inl (f _ _ h (λe=>by rw[e,hd]at h;cases h)))
 . exact .inl (.inr ⟨o,f _ _ h (λe=>by rw[e,hd]at h;cases h)⟩)
 . exact .inr h
theorem jm.frd {H H':Hp} {l d:Addr} {ps:List Addr} {rs:ju} {kvs:List (qN×V)} (h:jm H l ps rs) (hd:H d=some (.dK kvs)) (f:Fr H d H'):jm H' l ps rs:=
 ⟨f _ _ h.at_ (λe=>by have:=h.at_;rw[e,hd]at this;cases this),⟨h.rows.1,λi p r e1 e2=>let ⟨t,a,b⟩:=h.rows.2 i p r e1 e2;⟨t,f _ _ a (λe=>by rw[e,hd]at a;cases a),f _ _ b (λe=>by rw[e,hd]at b;cases b)⟩⟩,h.good,h.pos,h.le⟩
theorem YW {H:Hp} {d:Addr} {o:HO}:Fr H d (upd H d o):=λb u hb nb=>by rw[qf nb];exact hb
section
variable {P:Program} {w:World} {K:PySem.W.Frag} {mg:Str->Option Value} {base:Heap}
abbrev Go:List Str:=["_law_script","_law_k","_law_source_here","_law_most","_law_rows_here","_law_more","_law_way","_law_one","_law_other"]
theorem Q5:qB Go ["_law_script"] (qm YD):=⟨rfl,rfl,rfl,by decide+kernel,rfl,by decide+kernel,by decide+kernel⟩
structure KH (K:PySem.W.Frag) (mg:Str->Option Value):Prop where
 cell:∃f fd,j0 K mg "_law_cell_at" W3 ["_law_script","_law_k"] f fd
 source:∃f fd,j0 K mg "_law_source" ZF ["_law_cell"] f fd
 take:∃f fd,j0 K mg "_law_take" Z4 ["_law_source_here","_law_many_here"] f fd
 names:∃f fd,j0 K mg "_law_names" Z5 ["_law_source_here","_law_many_here"] f fd
 leads:∃f fd,j0 K mg "_law_leads" Z6 zh f fd
 rows:∃f fd,j0 K mg "_law_rows" W1 ["_law_source_here","_law_most"] f fd
 sr:∃f fd,j0 K mg "_law_sorted_rows" w6 ["_law_ground"] f fd
 kd:∃f fd,j0 K mg "_law_kinds" uH ["_law_error"] f fd
 cd:∃f fd,j0 K mg "_law_called" ub xl f fd
 rf:∃f fd,j0 K mg "_law_refused" w9 yD f fd
 mny:∃f fd,j0 K mg "_law_many" VN ["_law_rows_here"] f fd
 jr:∃f fd,j0 K mg "_law_joined_right" KL xk f fd
 be:∃f fd,j0 K mg "_law_beside" U1 uc f fd
 pr:∃f fd,j0 K mg "_law_paired_right" uG xk f fd
structure KG (K:PySem.W.Frag) (mg:Str->Option Value):Prop where
 need:∃f fd,j0 K mg "need_rows" Jq ["rows"] f fd
 jn:∃f fd,j0 K mg "joined" Xn Xa f fd
 ps:∃f fd,j0 K mg "pairs_of" UX Xa f fd
 pb:∃f fd,j0 K mg "pairs_behind" UY uW f fd
 pd:∃f fd,j0 K mg "paired" Xm Xa f fd
def CsL (CG CW CM fJ fP:Addr) (f:Addr) (sp:Sp):Prop:=(f=fJ/\sp=VF CG CW CM)\/(f=fP/\sp=Wa CG CW CM)
theorem wl {f CG D CW CM fRw:Addr} {fd fdRw:FuncData} (F:Qe K "law" "law" YD f fd) (B:Zp mg) (G:Qu mg) (T:Qd K mg) (N:Y7 K mg) (M:GM K mg CG) (O:KG K mg) (Z:KH K mg) (XS:y8 K mg D CW CM) (ZE:kA K mg D CW CM) (hRw:kH K CG "rows" "Ground.rows" Jy ["self"] fRw fdRw)
   (zd:mg "dict"=none) (hpn:∃t,mg "PAIR_NAMES"=some (.str xi t)):qu P w K mg base jh 12 f fd ["_law_script"] (WX K):=by
 obtain⟨fO,fdO,hO⟩:=Z.cell
 obtain⟨fL,fdL,hL⟩:=Z.source
 obtain⟨fT,fdT,hT⟩:=Z.take
 obtain⟨fN,fdN,hN⟩:=Z.names
 obtain⟨fD,fdD,hD⟩:=Z.leads
 obtain⟨fR,fdR,hR⟩:=Z.rows
 obtain⟨fW,fdW,hW⟩:=O.need
 obtain⟨a1,b1,hSR⟩:=Z.sr
 obtain⟨a2,b2,hKd⟩:=Z.kd
 obtain⟨a3,b3,hCd⟩:=Z.cd
 obtain⟨a4,b4,hRf⟩:=Z.rf
 obtain⟨a5,b5,hMn⟩:=Z.mny
 obtain⟨a6,b6,hJR⟩:=Z.jr
 obtain⟨a7,b7,hBe⟩:=Z.be
 obtain⟨a8,b8,hPR⟩:=Z.pr
 obtain⟨fJ,fdJ,hJ⟩:=O.jn
 obtain⟨fPs,fdPs,hPs⟩:=O.ps
 obtain⟨fPb,fdPb,hPb⟩:=O.pb
 obtain⟨fP,fdP,hP⟩:=O.pd
 obtain⟨fI,fdI,C⟩:=M.cls
 have GO:qu P w K mg base jh 1 fO fdO ["_law_script","_law_k"] (UO K):=yx hO.fn B
 have GL:qu P w K mg base jh 1 fL fdL ["_law_cell"] Xk:=V1 hL.fn B
 have GT:qu P w K mg base jh 1 fT fdT ["_law_source_here","_law_many_here"] ZY:=ZH hT.fn
 have GR:qu P w K mg base jh 3 fR fdR ["_law_source_here","_law_most"] UJ:=yt hR.fn B G hT hN hD
 have GI:qu P w K mg base jh 6 fI fdI ["self","rows"] (JP CG):=zj C B G T N hW
 have GSR:qu P w K mg base jh 2 a1 b1 ["_law_ground"] (k7 CG):=u0 hSR.fn G M hRw
 have GRf:qu P w K mg base jh 1 a4 b4 yD (UL CW CM):=u3 hRf.fn T XS ZE
 have GMn:qu P w K mg base jh 1 a5 b5 ["_law_rows_here"] Xl:=wk hMn.fn B T
 have GBe:qu P w K mg base jh 1 a7 b7 uc UP:=Kc hBe.fn T zd
 have GJ:qu P w K mg base (Qv P w) 8 fJ fdJ Xa (VF CG CW CM):=Ka hJ.fn B G T N M hW hRw XS
 have GP:qu P w K mg base (Qv P w) 8 fP fdP Xa (Wa CG CW CM):=u6 hP.fn B G T N M hW XS hPs hPb hpn
 have GC:qu P w K mg base jh 10 a3 b3 xl (ya CW CM (CsL CG CW CM fJ fP)):=Kb hCd.fn XS ZE T hKd (by decide) λf sp c=>by
   rcases c with ⟨rfl,rfl⟩ | ⟨rfl,rfl⟩
   . exact⟨fdJ,Xa,GJ.mono (by decide),hJ.fn.kp,hJ.bi,yG _ _ _⟩
   . exact⟨fdP,Xa,GP.mono (by decide),hP.fn.kp,hP.bi,yF _ _ _⟩
 have GJR:qu P w K mg base jh 11 a6 b6 xk (k9 CG):=u9 (D:=D) hJR.fn B G T zd hCd GC hJ (.inl ⟨rfl,rfl⟩) hRf GRf hMn GMn hSR GSR
 have GPR:qu P w K mg base jh 11 a8 b8 xk (k9 CG):=u5 (D:=D) hPR.fn B G T hCd GC hP GP (.inr ⟨rfl,rfl⟩) hRf GRf hMn GMn hSR GSR hBe GBe
 refine F.okJ Q5 (λvs H Q E z=>?_) (λcdv A outer s H vs Q E hr z=>?_)
 . obtain⟨a,ns,rfl,_⟩:=z
   rfl
 . obtain⟨a,ns,rfl,hq,hlen,k⟩:=z
   have hu:=Q1 hr
   have r1:qW 1 _:=hr.mono (by decide)
   have r2:qW 2 _:=hr.mono (by decide)
   have r3:qW 3 _:=hr.mono (by decide)
   have r7:qW 7 _:=hr.mono (by decide)
   refine⟨_,qg (jx PassesOwn.never rfl (Qo (by rfl) B.rng (qb (qr (Yl rfl) (by rfl) B.max boot_max (qb qi (qb (qr (Us rfl) (by rfl) B.min boot_min (qb qi (qb (qr qy (by rfl) B.len boot_len (qb (jv 0) qe)) qe))) qe))) qe))
       (qp (i:=1) Q5.nd rfl (Or.inl rfl))
       (qg (qA (i:=2) Q5.nd rfl (Or.inl rfl) (ja hL GL r1 (by rfl) (qb (ja hO GO r1 (by rfl) (qb (jv 0) (qb (jv 1) qe))) qe)))
       (qg (qA (i:=3) Q5.nd rfl (Or.inl rfl) (qS QU (jZ (qb qi (qb qi (qb qi (qb qi (qb qi qe)))))) (ja hT GT r1 (by rfl) (qb (jv 2) (qb qi qe))) (λ_ _=>rfl)))
       (qg (qA (i:=4) Q5.nd rfl (Or.inl rfl) (ja hR GR r3 (by rfl) (qb (jv 2) (qb (jv 3) qe))))
       (qg (qA (i:=5) Q5.nd rfl (Or.inl rfl) (ja hR GR r3 (by rfl) (qb (jv 2) (qb (qS QU (jZ (qb (jv 3) (qb qi qe))) (qV Xr (jv 3) qi) (λ_ _=>rfl)) qe))))
       (qg (qA (i:=6) Q5.nd rfl (Or.inl rfl) (ja hT GT r1 (by rfl) (qb (jv 2) (qb qi qe))))
       (ZI (qU (qt Qs (jv 6) qi (qx _)) (qj (qA (i:=5) Q5.nd rfl (Or.inl rfl) (jv 4))) qz)
       (qg (qA (i:=7) Q5.nd rfl (Or.inl rfl) (ZN C.mkr GI r7 (by rfl) C.ns C.bi .nil JY (qb (jq Qk (by rfl) G.lst boot_list (qb (jv 4) qe)) qe)))
       (qg (qA (i:=8) Q5.nd rfl (Or.inl rfl) (ZN C.mkr GI r7 (by rfl) C.ns C.bi .nil JY (qb (jq Qk (by rfl) G.lst boot_list (qb (jv 5) qe)) qe)))
       (ZI (qU (qt Qs (jv 6) qi (qx _)) (qj (qA (i:=8) Q5.nd rfl (Or.inl rfl) (jv 7))) qz)
       (qg (qU (JW.pt (Qi (Qb (jY (ja hJR GJR hr (by rfl) (qb (jv 4) (qb (jv 5) (qb (jv 7) (qb (jv 8) qe))))))) (j5 (Qb (jY (ja hPR GPR hr (by rfl) (qb (jv 4) (qb (jv 5) (qb (jv 7) (qb (jv 8) qe)))))))))) qM qz)
       (qg (qU (JW.pt (Qi (Qb (jY (ja hJR GJR hr (by rfl) (qb (jv 5) (qb (jv 4) (qb (jv 8) (qb (jv 7) qe))))))) (j5 (Qb (jY (ja hPR GPR hr (by rfl) (qb (jv 5) (qb (jv 4) (qb (jv 8) (qb (jv 7) qe)))))))))) qM qz)
       (qj (qU (qt (Wo hr.units) (ja hSR GSR r2 (by rfl) (qb (jv 7) qe)) (j7 (N':=["_law_name","_law_others"]) (ix:=[none,none]) (g:=zS K 2 (j8 (js 0) (j8 (js 1) zT))) (te:=Ju (qI (qL 0) (qI (Uw (zb K) (qI (qL 1) jH)) jH))) rfl ⟨rfl,rfl,rfl,rfl,rfl⟩ (qJ (jv 4)) (λC s2 H2 fp pins=>
         ⟨j6 rfl (qE (qp (i:=0) Xv rfl (Or.inl rfl)) (qE (qp (i:=1) Xv rfl (Or.inl rfl)) jE)),jc,jd (qb (jv 0) (qb (qr JJ (by rfl) G.srt boot_sorted (qb (jv 1) qe)) qe))⟩)) (by with_unfolding_all rfl)) qM qz))))))))))))))
     (qj (qP jI)),?_⟩
   refine⟨_,rfl,a,_,rfl,.inl hq,_,_,rfl,_,_,rfl,?_⟩
   generalize hj:(if (if ((ns.map V.int).length:Int) < (8:Int) then ((ns.map V.int).length:Int) else (8:Int)) > 1 then (if ((ns.map V.int).length:Int) < (8:Int) then ((ns.map V.int).length:Int) else (8:Int)) else 1)=jj
   have jb:=Kq (by omega) hj
   refine⟨jj,rfl,jb.1,jb.2,?_⟩
   refine Jj (λi σ H'=>∃v1 v2 v3 v4 v5 v6 v7 v8,σ=[some (.ref a),v1,v2,v3,v4,v5,v6,v7,v8]/\SqL K H' a (ns.map V.int)) ⟨_,_,_,_,_,_,_,_,rfl,hq⟩ ?_ ?_
   . rintro i σ H' hi ⟨v1,v2,v3,v4,v5,v6,v7,v8,rfl,hq2⟩
     refine⟨_,rfl,_,rfl,a,ns,_,rfl,hq2,by omega,λc=>⟨c,rfl,λd n sd hd=>?_⟩⟩
     have hq3:=hq2.keep (qh (o:=.dK (src n sd 0)) hd).keep
     have hd3:upd H' d (.dK (src n sd 0)) d=some (.dK (src n sd 0)):=qd
     generalize upd H' d (.dK (src n sd 0))=H3 at hq3 hd3
     refine⟨by show 5<=sizeLine;decide,λlp hlp=>?_⟩
     have ndp:lp≠d:=λe=>by rw[e,hd3]at hlp;cases hlp
     have hq4:=hq3.keep (qh (o:=.lst [.int 9,.int 4,.int 4,.int 3,.int 14]) hlp).keep
     have hd4:=qk (o':=HO.lst [.int 9,.int 4,.int 4,.int 3,.int 14]) hd3 hlp
     refine⟨_,rfl,d,5,n,sd,0,rfl,hd4,by decide,by decide,λr' n3 t3 r0' r1'=>?_⟩
     obtain⟨mo,m2,em,m0,m14,em2,m20,m24⟩:=Kn r0' r1'
     have hq5:SqL K (upd (upd H3 lp (.lst [.int 9,.int 4,.int 4,.int 3,.int 14])) d (.dK (src n3 sd t3))) a (ns.map V.int):=Y5 hq4 hd4 YW
     refine⟨lp,_,r',_,rfl,rfl,.of (by rw[qf ndp];exact qd),em,_,rfl,_,rfl,d,mo,n3,sd,t3,rfl,qd,m0,m14,λl ps rs n' t' H7 hl hl7 rat good pos le hd7 fr7=>?_⟩
     have hq7:=Y5 hq5 qd fr7
     have ga7:jm H7 l ps rs:=⟨hl7,rat,good,pos,Nat.le_trans le m14⟩
     refine⟨_,rfl,_,rfl,by show 2<=sizeLine;decide,λlq hlq=>?_⟩
     have s8:=qh (o:=HO.lst [V.int (mo:Int),.int 2]) hlq
     have h8:upd H7 lq (.lst [V.int (mo:Int),.int 2]) lq=some (.lst [V.int (mo:Int),.int 2]):=qd
     generalize upd H7 lq (.lst [V.int (mo:Int),.int 2])=H8 at s8 h8
     refine⟨_,rfl,_,_,rfl,rfl,⟨by decide,by decide⟩,lq,_,_,_,rfl,rfl,.of h8,em2,d,m2,n',sd,t',rfl,s8 _ _ hd7,m20,m24,λm qs us n'' t'' H9 hm hm9 ratm goodm posm lem hd9 fr9=>?_⟩
     have hq9:=Y5 (hq7.keep s8.keep) (s8 _ _ hd7) fr9
     have ga9:=(ga7.mono s8).frd (s8 _ _ hd7) fr9
     have gb9:jm H9 m qs us:=⟨hm9,ratm,goodm,posm,Nat.le_trans lem m24⟩
     refine⟨_,rfl,d,4,n'',sd,t'',rfl,hd9,by decide,by decide,λwy n5 t5 w0 w1=>?_⟩
     have hq10:=Y5 hq9 hd9 (YW (o:=.dK (src n5 sd t5)))
     have ga10:=ga9.frd hd9 (YW (o:=.dK (src n5 sd t5)))
     have gb10:=gb9.frd hd9 (YW (o:=.dK (src n5 sd t5)))
     generalize upd H9 d (.dK (src n5 sd t5))=H10 at hq10 ga10 gb10
     refine⟨λσ' X=>∃(m:Addr) (qs:List Addr) (us:ju),σ'=[some (.ref a),some (.int (0+(i:Int))),some (.ref d),some (.int (mo:Int)),some (.ref l),some (.ref m),some (.int wy),v7,v8]/\X=H10/\jm H10 m qs us/\(wy=0->us=rs),?_,?_⟩
     . refine⟨_,rfl,rfl,_,rfl,?_⟩
       by_cases c:wy=0
       . subst c
         exact jW (decide_eq_true rfl) ⟨_,rfl,l,ps,rs,rfl,rfl,ga10,λ_=>rfl⟩
       . exact jM (decide_eq_false λz=>c (V.int.inj z)) ⟨m,qs,us,rfl,rfl,gb10,λz=>absurd z c⟩
     rintro σ' X ⟨m,qs,us,rfl,rfl,gb10,same⟩
     refine⟨_,rfl,l,_,rfl,.inl (.of ga10.at_),λl2 hl2 x dx hx hdx ndx=>?_⟩
     have s1:Same X (upd X l2 (.lst (ps.map V.ref))):=qh hl2
     refine QQ (X:=upd X l2 (.lst (ps.map V.ref))) qd (ga10.rows.mono s1) good pos ga10.le hx hdx ndx λH11 s11 gr=>?_
     have s10:=s1.trans s11
     refine⟨_,rfl,m,_,rfl,.inl (.of (s10 _ _ gb10.at_)),λl3 hl3 x2 dx2 hx2 hdx2 ndx2=>?_⟩
     have s2:Same H11 (upd H11 l3 (.lst (qs.map V.ref))):=qh hl3
     refine QQ (X:=upd H11 l3 (.lst (qs.map V.ref))) qd ((gb10.rows.mono s10).mono s2) gb10.good gb10.pos gb10.le hx2 hdx2 ndx2 λH12 s12 gr2=>?_
     have s13:=s2.trans s12
     have s14:=s10.trans s13
     refine⟨λσ' Y=>∃(h:Addr),σ'=[some (.ref a),some (.int (0+(i:Int))),some (.ref d),some (.int (mo:Int)),some (.ref l),some (.ref m),some (.int wy),some (.ref x),some (.ref h)]/\Y=H12/\jJ CG H12 h us,?_,?_⟩
     . refine⟨_,rfl,rfl,_,rfl,?_⟩
       by_cases c:wy=0
       . subst c
         exact jW (decide_eq_true rfl) ⟨_,rfl,x,rfl,rfl,by rw[same rfl];exact gr.mono s13⟩
       . exact jM (decide_eq_false λz=>c (V.int.inj z)) ⟨x2,rfl,rfl,gr2⟩
     rintro σ' Y ⟨h,rfl,rfl,gh⟩
     have ga:=ga10.mono s14
     have gb:=gb10.mono s14
     have gx:=gr.mono s13
     have hqY:=hq10.keep s14.keep
     refine⟨_,rfl,_,rfl,_,rfl,_,rfl,l,m,x,h,ps,qs,rs,us,rfl,ga,gb,gx,gh,λY1 k1=>⟨_,rfl,jR ?_⟩⟩
     refine⟨_,rfl,_,rfl,_,rfl,_,rfl,l,m,x,h,ps,qs,rs,us,rfl,ga.keep k1,gb.keep k1,gx.keep k1,gh.keep k1,λY2 k2=>⟨_,rfl,jR ?_⟩⟩
     have k12:=k1.trans k2
     refine⟨_,rfl,_,rfl,_,rfl,_,rfl,m,l,h,x,qs,ps,us,rs,rfl,gb.keep k12,ga.keep k12,gh.keep k12,gx.keep k12,λY3 k3=>⟨_,rfl,jR ?_⟩⟩
     have k13:=k12.trans k3
     refine⟨_,rfl,_,rfl,_,rfl,_,rfl,m,l,h,x,qs,ps,us,rs,rfl,gb.keep k13,ga.keep k13,gh.keep k13,gx.keep k13,λY4 k4=>⟨_,rfl,jR ?_⟩⟩
     have k14:=k13.trans k4
     have ga4:=ga.keep k14
     refine⟨_,rfl,x,rs,rfl,gx.keep k14,good,ga.le,λY5 l8 ps8 s5 nl8 hl8 sr8=>⟨_,rfl,l,rfl,⟨_,.of (s5 _ _ ga4.at_)⟩,λD9 hD9=>?_⟩⟩
     have ga5:=ga4.mono s5
     refine zI ga5.at_ ga5.rows (by have:=ga.le;omega) (λr hr=>good.len r hr) hD9 λY6 qs7 s6 hD7 sr7=>?_
     have nm:∀r∈rs,qG r.1=true/\∀z∈r.2,qG z=true:=λr hr=>⟨good.nm r hr,good.names r hr⟩
     refine⟨.list (rs.map dSr),.lst (.of (s6 _ _ hl8)) (Q0 (sr8.mono s6)),.lst (.of hD7) (Q0 sr7),Wb (sr7.names nm),_,rfl,jR ?_⟩
     exact⟨_,_,_,_,_,_,_,_,rfl,(hqY.keep k14).keep (s5.trans s6).keep⟩
   . rintro σ H' ⟨v1,v2,v3,v4,v5,v6,v7,v8,rfl,hq2⟩
     exact k _
end
end Rh
set_option Elab.async false
set_option linter.all false
set_option maxRecDepth 100000
set_option maxHeartbeats 4000000
namespace Rh
open PySem L2 PyProof.Rows 
theorem kss {K:PySem.W.Frag}:PySem.W.kitOne K (.type "str") (.type "str")=some true:=by kernel_rfl
theorem ktt {K:PySem.W.Frag}:PySem.W.kitOne K (.type "tuple") (.type "tuple")=some true:=by kernel_rfl
theorem kll {K:PySem.W.Frag}:PySem.W.kitOne K (.type "list") (.type "list")=some true:=by kernel_rfl
section
variable {K:PySem.W.Frag}
def MF (K:PySem.W.Frag) (n q:Str) (s:Stmt) (f:Addr):Prop:=∃fd,Qe K n q s f fd
theorem MF.mk' {x qual:Str} {st:Stmt} {f:Addr} {oc:Value} {od an:Option Addr} {osl:Array (Option Value)} {kV doc pm cdv ct:Value} (l:K.lookup f=some ⟨oc,od,.func (PySem.W.fnOf x qual (Qz st) (jX st) (qm st) .none kV doc pm an cdv ct),osl⟩) (c:PySem.W.codeIn K cdv qual=true) (k:PySem.W.keepIn K (.ref f)=true):MF K x qual st f:=⟨_,WA l c k⟩
def HF (K:PySem.W.Frag) (n:Str) (s:Stmt) (f:Addr):Prop:=PySem.W.nsIn K mainGlobals n=some (some (.ref f))/\MF K n n s f
theorem HF.mk' {x:Str} {st:Stmt} {f:Addr} {oc:Value} {od an:Option Addr} {osl:Array (Option Value)} {kV doc pm cdv ct:Value} (a:PySem.W.nsIn K mainGlobals x=some (some (.ref f))) (l:K.lookup f=some ⟨oc,od,.func (PySem.W.fnOf x x (Qz st) (jX st) (qm st) .none kV doc pm an cdv ct),osl⟩) (c:PySem.W.codeIn K cdv x=true) (k:PySem.W.keepIn K (.ref f)=true):HF K x st f:=⟨a,_,WA l c k⟩
theorem HF.has {h:Heap} {mg:Str->Option Value} {n:Str} {s:Stmt} {f:Addr} {ps:List Str} (l:HF K n s f) (X:K.In h) (G:h.Ns mainGlobals mg) (b:∀{fd},Qe K n n s f fd->jG K fd ps []):∃fd,j0 K mg n s ps f fd:=let ⟨a,fd,F⟩:=l;⟨fd,F,PySem.W.mg_of X G a,b F⟩
end
def uz (es:Array DictEntry):Bool:=es.all λe=>match e.key with | .str _ _=>true | _=>false
theorem kZ {es:Array DictEntry} (h:uz es=true):StrKeys es:=by
 intro e he
 have q:=Array.all_eq_true'.mp h e he
 revert q
 cases hk:e.key<;>intro q<;>first | exact⟨_,_,rfl⟩ | (dsimp only at q;cases q)
section
variable {K:PySem.W.Frag} {mg:Str->Option Value} {D C f:Addr} {x qual fld:Str} {st:Stmt}
theorem kj {h:Heap} {fd:FuncData} {nm q:Str} {N:Addr} {bs:List Value} {hdct:Bool} {sn:List Str} {sub:List Value} {ab:Bool} {col:Option Bool} {dd:Option Addr} {k0 k1 k2 k3 k5:Option Value}
   (X:K.In h) (G:h.Ns mainGlobals mg) (tl:∀h:Heap,K.In h->OwnTail h j4 (.ref D::j4)) (F:Qe K "__init__" qual st f fd) (b:jG K fd ["self",fld] [])
   (a1:PySem.W.nsIn K mainGlobals x=some (some (.ref C)))
   (a2:K.lookup C=some (excClassObj nm q C N bs (.ref D::j4) hdct sn sub ab col dd k0 k1 k2 k3 k5 "ValueError.__new__"))
   (a3:PySem.W.findIn K (.ref C) "__init__"=some (some (.ref f))) (a4:PySem.W.isFn K (.ref f)=true) (a5:PySem.W.keepIn K (.ref C)=true)
   (a6:PySem.W.findIn K (.ref C) "__getattribute__"=some (some (.builtin "BaseException.__getattribute__"))) (a7:PySem.W.findIn K (.ref C) "__getattr__"=some none)
   (a8:PySem.W.findIn K (.ref C) "__setattr__"=some (some (.builtin "object.__setattr__"))) (a9:PySem.W.hasDictIn K C=true)
   (a10:PySem.W.mroIn K C (.type "BaseException")=some true) (a11:PySem.W.mroIn K C (.type "object")=some true)
   (a12:PySem.W.findIn K (.ref C) "__class__"=some (some (.builtin "object.__class__"))) (a13:PySem.W.findIn K (.ref C) fld=some none):Vz K mg D x qual st fld C f fd:=
 ⟨⟨a6,a7,a8,a9,⟨_,by unfold PySem.W.clsIn;rw[a2],rfl⟩,a10,a11,a12⟩,⟨⟨nm,q,N,bs,hdct,sn,sub,ab,col,dd,k0,k1,k2,k3,k5,a2⟩,tl,a3,a4,a5⟩,PySem.W.mg_of X G a1,a13,F,b⟩
end
theorem all_mk {l:PySem.W.OpenLaw} {w:World} {K:PySem.W.Frag} {h:Heap} {mg:Str->Option Value} {fa:Addr} (X:K.In h) (G:h.Ns mainGlobals mg) (hfa:mg "law"=some (.ref fa))
   {fO fL fT fN fD fR fA1 fA2 fA3 fA4 fA5 fA6 fA7 fA8 fP1 fP2 fP3 fP4 fC1 fC2 fC3 fC4 fC5 fC6 fC7 fC8 fCGi fCGM fCGF fCGR CTwice fTwice CTooMany fTooMany:Addr}
   {fLAW:Addr} {odLAW anLAW:Option Addr} {slLAW:Array (Option Value)} {ocLAW kVLAW dcLAW pmLAW cdLAW ctLAW:Value}
   {CG:Addr}
   {tm1:Tok}
   {tm2:Tok}
   {tm3:Tok}
   {tm4:Tok}
   {tm5:Tok}
   {D:Addr} {nmHE qHE:Str} {NHE:Addr} {bsHE subHE:List Value} {hdctHE abHE:Bool} {snHE:List Str} {colHE:Option Bool} {ddHE:Option Addr} {kaHE kbHE kcHE kdHE keHE:Option Value} {oHN:Value} {dHN:Option Addr} {es:Array DictEntry} {ep:Nat} {slHN:Array (Option Value)}
   {nmTwice qTwice:Str} {NTwice:Addr} {bsTwice subTwice:List Value} {hdctTwice abTwice:Bool} {snTwice:List Str} {colTwice:Option Bool} {ddTwice:Option Addr} {kaTwice kbTwice kcTwice kdTwice keTwice:Option Value}
   {nmTooMany qTooMany:Str} {NTooMany:Addr} {bsTooMany subTooMany:List Value} {hdctTooMany abTooMany:Bool} {snTooMany:List Str} {colTooMany:Option Bool} {ddTooMany:Option Addr} {kaTooMany kbTooMany kcTooMany kdTooMany keTooMany:Option Value}
   (lO:HF K "_law_cell_at" W3 fO)
   (lL:HF K "_law_source" ZF fL)
   (lT:HF K "_law_take" Z4 fT)
   (lN:HF K "_law_names" Z5 fN)
   (lD:HF K "_law_leads" Z6 fD)
   (lR:HF K "_law_rows" W1 fR)
   (lA1:HF K "is_name" Jr fA1)
   (lA2:HF K "is_tuple_of_names" Z3 fA2)
   (lA3:HF K "is_row" Zh fA3)
   (lA4:HF K "need_form" z7 fA4)
   (lA5:HF K "need_own_names" ye fA5)
   (lA6:HF K "need_ends" W2 fA6)
   (lA7:HF K "need_few_roads" UZ fA7)
   (lA8:HF K "need_rows" Jq fA8)
   (lP1:HF K "joined" Xn fP1)
   (lP2:HF K "pairs_of" UX fP2)
   (lP3:HF K "pairs_behind" UY fP3)
   (lP4:HF K "paired" Xm fP4)
   (lC1:HF K "_law_sorted_rows" w6 fC1)
   (lC2:HF K "_law_kinds" uH fC2)
   (lC3:HF K "_law_called" ub fC3)
   (lC4:HF K "_law_refused" w9 fC4)
   (lC5:HF K "_law_many" VN fC5)
   (lC6:HF K "_law_joined_right" KL fC6)
   (lC7:HF K "_law_beside" U1 fC7)
   (lC8:HF K "_law_paired_right" uG fC8)
   (aLAW:PySem.W.nsIn K mainGlobals "law"=some (some (.ref fLAW)))
   (lLAW:K.lookup fLAW=some ⟨ocLAW,odLAW,.func (PySem.W.fnOf "law" "law" (Qz YD) (jX YD) (qm YD) .none kVLAW dcLAW pmLAW anLAW cdLAW ctLAW),slLAW⟩)
   (cLAW:PySem.W.codeIn K cdLAW "law"=true)
   (kLAW:PySem.W.keepIn K (.ref fLAW)=true)
   (nCG:PySem.W.nsIn K mainGlobals "Ground"=some (some (.ref CG)))
   (pgCG:PySem.W.plainGet K CG Str.empty=true)
   (hdCG:PySem.W.hasDictIn K CG=true)
   (poCG:PySem.W.plainOver K CG=true)
   (saCG:PySem.W.findIn K (.ref CG) "__setattr__"=some (some (.builtin "object.__setattr__")))
   (mkCG:PySem.W.makesIn K CG=true)
   (inCG:PySem.W.findIn K (.ref CG) "__init__"=some (some (.ref fCGi)))
   (fiCG:PySem.W.isFn K (.ref fCGi)=true)
   (kcCG:PySem.W.keepIn K (.ref CG)=true)
   (noCG:PySem.W.findIn K (.ref CG) "order"=some none)
   (nrCG:PySem.W.findIn K (.ref CG) "roads"=some none)
   (lCGi:MF K "__init__" "Ground.__init__" Wg fCGi)
   (atCGM:PySem.W.findIn K (.ref CG) "names"=some (some (.ref fCGM)))
   (fnCGM:PySem.W.isFn K (.ref fCGM)=true)
   (lCGM:MF K "names" "Ground.names" JU fCGM)
   (atCGF:PySem.W.findIn K (.ref CG) "roads_from"=some (some (.ref fCGF)))
   (fnCGF:PySem.W.isFn K (.ref fCGF)=true)
   (lCGF:MF K "roads_from" "Ground.roads_from" Z7 fCGF)
   (atCGR:PySem.W.findIn K (.ref CG) "rows"=some (some (.ref fCGR)))
   (fnCGR:PySem.W.isFn K (.ref fCGR)=true)
   (lCGR:MF K "rows" "Ground.rows" Jy fCGR)
   (zlen:PySem.W.nsIn K mainGlobals "len"=some none)
   (zmax:PySem.W.nsIn K mainGlobals "max"=some none)
   (zmin:PySem.W.nsIn K mainGlobals "min"=some none)
   (zint:PySem.W.nsIn K mainGlobals "int"=some none)
   (zrange:PySem.W.nsIn K mainGlobals "range"=some none)
   (zisinstance:PySem.W.nsIn K mainGlobals "isinstance"=some none)
   (zstr:PySem.W.nsIn K mainGlobals "str"=some none)
   (zall:PySem.W.nsIn K mainGlobals "all"=some none)
   (zenumerate:PySem.W.nsIn K mainGlobals "enumerate"=some none)
   (zsum:PySem.W.nsIn K mainGlobals "sum"=some none)
   (zsorted:PySem.W.nsIn K mainGlobals "sorted"=some none)
   (zlist:PySem.W.nsIn K mainGlobals "list"=some none)
   (zreversed:PySem.W.nsIn K mainGlobals "reversed"=some none)
   (zset:PySem.W.nsIn K mainGlobals "set"=some none)
   (ztuple:PySem.W.nsIn K mainGlobals "tuple"=some none)
   (zdict:PySem.W.nsIn K mainGlobals "dict"=some none)
   (zValueError:PySem.W.nsIn K mainGlobals "ValueError"=some none)
   (m1:PySem.W.nsIn K mainGlobals "LETTERS"=some (some (.str "abcdefghijklmnopqrstuvwxyz" tm1)))
   (m2:PySem.W.nsIn K mainGlobals "LONGEST_NAME"=some (some (.int 8 tm2)))
   (m3:PySem.W.nsIn K mainGlobals "MOST_PLACES"=some (some (.int 14 tm3)))
   (m4:PySem.W.nsIn K mainGlobals "MOST_ROADS"=some (some (.int 40 tm4)))
   (m5:PySem.W.nsIn K mainGlobals "PAIR_NAMES"=some (some (.str "abcdefghijklmn" tm5)))
   (aHE:PySem.W.nsIn K mainGlobals "HeapError"=some (some (.ref D)))
   (oHE:K.lookup D=some (excClassObj nmHE qHE D NHE bsHE j4 hdctHE snHE subHE abHE colHE ddHE kaHE kbHE kcHE kdHE keHE "ValueError.__new__"))
   (nHE:K.lookup NHE=some ⟨oHN,dHN,.dict es ep,slHN⟩)
   (skHE:uz es=true)
   (niHE:nsFind es (Str.ofString "__init__")=none)
   (a1Twice:PySem.W.nsIn K mainGlobals "Twice"=some (some (.ref CTwice)))
   (a2Twice:K.lookup CTwice=some (excClassObj nmTwice qTwice CTwice NTwice bsTwice (.ref D::j4) hdctTwice snTwice subTwice abTwice colTwice ddTwice kaTwice kbTwice kcTwice kdTwice keTwice "ValueError.__new__"))
   (a3Twice:PySem.W.findIn K (.ref CTwice) "__init__"=some (some (.ref fTwice)))
   (a4Twice:PySem.W.isFn K (.ref fTwice)=true)
   (lTwice:MF K "__init__" "Twice.__init__" Z2 fTwice)
   (a5Twice:PySem.W.keepIn K (.ref CTwice)=true)
   (a6Twice:PySem.W.findIn K (.ref CTwice) "__getattribute__"=some (some (.builtin "BaseException.__getattribute__")))
   (a7Twice:PySem.W.findIn K (.ref CTwice) "__getattr__"=some none)
   (a8Twice:PySem.W.findIn K (.ref CTwice) "__setattr__"=some (some (.builtin "object.__setattr__")))
   (a9Twice:PySem.W.hasDictIn K CTwice=true)
   (a10Twice:PySem.W.mroIn K CTwice (.type "BaseException")=some true)
   (a11Twice:PySem.W.mroIn K CTwice (.type "object")=some true)
   (a12Twice:PySem.W.findIn K (.ref CTwice) "__class__"=some (some (.builtin "object.__class__")))
   (a13Twice:PySem.W.findIn K (.ref CTwice) "found"=some none)
   (a1TooMany:PySem.W.nsIn K mainGlobals "TooMany"=some (some (.ref CTooMany)))
   (a2TooMany:K.lookup CTooMany=some (excClassObj nmTooMany qTooMany CTooMany NTooMany bsTooMany (.ref D::j4) hdctTooMany snTooMany subTooMany abTooMany colTooMany ddTooMany kaTooMany kbTooMany kcTooMany kdTooMany keTooMany "ValueError.__new__"))
   (a3TooMany:PySem.W.findIn K (.ref CTooMany) "__init__"=some (some (.ref fTooMany)))
   (a4TooMany:PySem.W.isFn K (.ref fTooMany)=true)
   (lTooMany:MF K "__init__" "TooMany.__init__" jQ fTooMany)
   (a5TooMany:PySem.W.keepIn K (.ref CTooMany)=true)
   (a6TooMany:PySem.W.findIn K (.ref CTooMany) "__getattribute__"=some (some (.builtin "BaseException.__getattribute__")))
   (a7TooMany:PySem.W.findIn K (.ref CTooMany) "__getattr__"=some none)
   (a8TooMany:PySem.W.findIn K (.ref CTooMany) "__setattr__"=some (some (.builtin "object.__setattr__")))
   (a9TooMany:PySem.W.hasDictIn K CTooMany=true)
   (a10TooMany:PySem.W.mroIn K CTooMany (.type "BaseException")=some true)
   (a11TooMany:PySem.W.mroIn K CTooMany (.type "object")=some true)
   (a12TooMany:PySem.W.findIn K (.ref CTooMany) "__class__"=some (some (.builtin "object.__class__")))
   (a13TooMany:PySem.W.findIn K (.ref CTooMany) "found"=some none)
   (spc:PySem.W.specialIn K (.builtin "object.__class__") "__get__"=some (some (.builtin "getset_descriptor.__get__")))
   (tks:PySem.W.takesIn K (.builtin "object.__class__")=some true)
   (w1:PySem.W.kitOne K (.ref CTwice) (.ref CTwice)=some true)
   (w2:PySem.W.kitOne K (.ref CTwice) (.ref CTooMany)=some false)
   (w3:PySem.W.kitOne K (.ref CTwice) (.type "ValueError")=some true)
   (mm1:PySem.W.kitOne K (.ref CTooMany) (.ref CTwice)=some false)
   (mm2:PySem.W.kitOne K (.ref CTooMany) (.ref CTooMany)=some true)
   (mm3:PySem.W.kitOne K (.ref CTooMany) (.type "ValueError")=some true)
   (wa:PySem.W.kitAny K (.ref CTwice) [.ref CTwice,.ref CTooMany]=some true)
   (ma:PySem.W.kitAny K (.ref CTooMany) [.ref CTwice,.ref CTooMany]=some true)
   :
   ∃fd:FuncData,(∀(s:Shared) (v:Value),BindsTo s fd ⟨[v],[]⟩ [("_law_script",v)])/\∀base:Heap,K.In base->base.Ns mainGlobals mg->qu l.prog w K mg base jh 12 fa fd ["_law_script"] (WX K):=by
 have e:=hfa.symm.trans (PySem.W.mg_of X G aLAW)
 cases e
 obtain⟨_,hO⟩:=lO.has (ps:=["_law_script","_law_k"]) X G λF=>F.binds λ_ _ _ _ _ _ us hl=>by obtain⟨_,_,rfl⟩:=Zl hl;rfl
 obtain⟨_,hL⟩:=lL.has (ps:=["_law_cell"]) X G λF=>F.binds λ_ _ _ _ _ _ us hl=>by obtain⟨_,rfl⟩:=J1 hl;rfl
 obtain⟨_,hT⟩:=lT.has (ps:=["_law_source_here","_law_many_here"]) X G λF=>F.binds λ_ _ _ _ _ _ us hl=>by obtain⟨_,_,rfl⟩:=Zl hl;rfl
 obtain⟨_,hN⟩:=lN.has (ps:=["_law_source_here","_law_many_here"]) X G λF=>F.binds λ_ _ _ _ _ _ us hl=>by obtain⟨_,_,rfl⟩:=Zl hl;rfl
 obtain⟨_,hD⟩:=lD.has (ps:=["_law_source_here","_law_many_here","_law_shape","_law_low"]) X G λF=>F.binds λ_ _ _ _ _ _ us hl=>by obtain⟨_,_,_,_,rfl⟩:=wz hl;rfl
 obtain⟨_,hR⟩:=lR.has (ps:=["_law_source_here","_law_most"]) X G λF=>F.binds λ_ _ _ _ _ _ us hl=>by obtain⟨_,_,rfl⟩:=Zl hl;rfl
 obtain⟨_,hA1⟩:=lA1.has (ps:=["thing"]) X G λF=>F.binds λ_ _ _ _ _ _ us hl=>by obtain⟨_,rfl⟩:=J1 hl;rfl
 obtain⟨_,hA2⟩:=lA2.has (ps:=["thing"]) X G λF=>F.binds λ_ _ _ _ _ _ us hl=>by obtain⟨_,rfl⟩:=J1 hl;rfl
 obtain⟨_,hA3⟩:=lA3.has (ps:=["thing"]) X G λF=>F.binds λ_ _ _ _ _ _ us hl=>by obtain⟨_,rfl⟩:=J1 hl;rfl
 obtain⟨_,hA4⟩:=lA4.has (ps:=["rows"]) X G λF=>F.binds λ_ _ _ _ _ _ us hl=>by obtain⟨_,rfl⟩:=J1 hl;rfl
 obtain⟨_,hA5⟩:=lA5.has (ps:=["order"]) X G λF=>F.binds λ_ _ _ _ _ _ us hl=>by obtain⟨_,rfl⟩:=J1 hl;rfl
 obtain⟨_,hA6⟩:=lA6.has (ps:=["ends","order"]) X G λF=>F.binds λ_ _ _ _ _ _ us hl=>by obtain⟨_,_,rfl⟩:=Zl hl;rfl
 obtain⟨_,hA7⟩:=lA7.has (ps:=["rows"]) X G λF=>F.binds λ_ _ _ _ _ _ us hl=>by obtain⟨_,rfl⟩:=J1 hl;rfl
 obtain⟨_,hA8⟩:=lA8.has (ps:=["rows"]) X G λF=>F.binds λ_ _ _ _ _ _ us hl=>by obtain⟨_,rfl⟩:=J1 hl;rfl
 obtain⟨_,hP1⟩:=lP1.has (ps:=["one","other"]) X G λF=>F.binds λ_ _ _ _ _ _ us hl=>by obtain⟨_,_,rfl⟩:=Zl hl;rfl
 obtain⟨_,hP2⟩:=lP2.has (ps:=["one","other"]) X G λF=>F.binds λ_ _ _ _ _ _ us hl=>by obtain⟨_,_,rfl⟩:=Zl hl;rfl
 obtain⟨_,hP3⟩:=lP3.has (ps:=["one","other","pair"]) X G λF=>F.binds λ_ _ _ _ _ _ us hl=>by obtain⟨_,_,_,rfl⟩:=vG hl;rfl
 obtain⟨_,hP4⟩:=lP4.has (ps:=["one","other"]) X G λF=>F.binds λ_ _ _ _ _ _ us hl=>by obtain⟨_,_,rfl⟩:=Zl hl;rfl
 obtain⟨_,hC1⟩:=lC1.has (ps:=["_law_ground"]) X G λF=>F.binds λ_ _ _ _ _ _ us hl=>by obtain⟨_,rfl⟩:=J1 hl;rfl
 obtain⟨_,hC2⟩:=lC2.has (ps:=["_law_error"]) X G λF=>F.binds λ_ _ _ _ _ _ us hl=>by obtain⟨_,rfl⟩:=J1 hl;rfl
 obtain⟨_,hC3⟩:=lC3.has (ps:=["_law_call","_law_one","_law_other"]) X G λF=>F.binds λ_ _ _ _ _ _ us hl=>by obtain⟨_,_,_,rfl⟩:=vG hl;rfl
 obtain⟨_,hC4⟩:=lC4.has (ps:=["_law_told","_law_kinds_here","_law_due"]) X G λF=>F.binds λ_ _ _ _ _ _ us hl=>by obtain⟨_,_,_,rfl⟩:=vG hl;rfl
 obtain⟨_,hC5⟩:=lC5.has (ps:=["_law_rows_here"]) X G λF=>F.binds λ_ _ _ _ _ _ us hl=>by obtain⟨_,rfl⟩:=J1 hl;rfl
 obtain⟨_,hC6⟩:=lC6.has (ps:=["_law_rows_here","_law_more","_law_one","_law_other"]) X G λF=>F.binds λ_ _ _ _ _ _ us hl=>by obtain⟨_,_,_,_,rfl⟩:=wz hl;rfl
 obtain⟨_,hC7⟩:=lC7.has (ps:=["_law_rows_here","_law_more","_law_pair"]) X G λF=>F.binds λ_ _ _ _ _ _ us hl=>by obtain⟨_,_,_,rfl⟩:=vG hl;rfl
 obtain⟨_,hC8⟩:=lC8.has (ps:=["_law_rows_here","_law_more","_law_one","_law_other"]) X G λF=>F.binds λ_ _ _ _ _ _ us hl=>by obtain⟨_,_,_,_,rfl⟩:=wz hl;rfl
 have FLAW:=WA (st:=YD) lLAW cLAW kLAW
 obtain⟨_,FiCG⟩:=lCGi
 have clCG:w5 K mg CG fCGi _:=⟨⟨pgCG,hdCG,poCG,saCG⟩,⟨mkCG,inCG,fiCG,kcCG⟩,PySem.W.mg_of X G nCG,noCG,nrCG,FiCG,FiCG.binds (ps:=["self","rows"]) λ_ _ _ _ _ _ us hl=>by obtain⟨_,_,rfl⟩:=Zl hl;rfl⟩
 obtain⟨_,FCGM⟩:=lCGM
 have mCGM:kH K CG "names" "Ground.names" JU ["self"] fCGM _:=⟨FCGM,⟨atCGM,fnCGM,FCGM.kp⟩,FCGM.binds (ps:=["self"]) λ_ _ _ _ _ _ us hl=>by obtain⟨_,rfl⟩:=J1 hl;rfl⟩
 obtain⟨_,FCGF⟩:=lCGF
 have mCGF:kH K CG "roads_from" "Ground.roads_from" Z7 ["self","name"] fCGF _:=⟨FCGF,⟨atCGF,fnCGF,FCGF.kp⟩,FCGF.binds (ps:=["self","name"]) λ_ _ _ _ _ _ us hl=>by obtain⟨_,_,rfl⟩:=Zl hl;rfl⟩
 obtain⟨_,FCGR⟩:=lCGR
 have mCGR:kH K CG "rows" "Ground.rows" Jy ["self"] fCGR _:=⟨FCGR,⟨atCGR,fnCGR,FCGR.kp⟩,FCGR.binds (ps:=["self"]) λ_ _ _ _ _ _ us hl=>by obtain⟨_,rfl⟩:=J1 hl;rfl⟩
 have tl:∀h:Heap,K.In h->OwnTail h j4 (.ref D::j4):=λh X=>.own (X _ _ oHE) ⟨_,es,ep,X _ _ nHE,rfl,kZ skHE,λ_=>rfl⟩ niHE .base
 have ccD:xa K D:=⟨j4,⟨_,_,_,_,_,_,_,_,_,_,_,_,_,_,_,oHE⟩,rfl⟩
 obtain⟨_,FTwice⟩:=lTwice
 have xTwice:Vz K mg D "Twice" "Twice.__init__" Z2 "found" CTwice fTwice _:=kj X G tl FTwice (FTwice.binds (ps:=["self","found"]) λ_ _ _ _ _ _ us hl=>by obtain⟨_,_,rfl⟩:=Zl hl;rfl) a1Twice a2Twice a3Twice a4Twice a5Twice a6Twice a7Twice a8Twice a9Twice a10Twice a11Twice a12Twice a13Twice
 obtain⟨_,FTooMany⟩:=lTooMany
 have xTooMany:Vz K mg D "TooMany" "TooMany.__init__" jQ "found" CTooMany fTooMany _:=kj X G tl FTooMany (FTooMany.binds (ps:=["self","found"]) λ_ _ _ _ _ _ us hl=>by obtain⟨_,_,rfl⟩:=Zl hl;rfl) a1TooMany a2TooMany a3TooMany a4TooMany a5TooMany a6TooMany a7TooMany a8TooMany a9TooMany a10TooMany a11TooMany a12TooMany a13TooMany
 have B:Zp mg:=⟨PySem.W.mg_none_of X G zlen,PySem.W.mg_none_of X G zmax,PySem.W.mg_none_of X G zmin,PySem.W.mg_none_of X G zint,PySem.W.mg_none_of X G zrange⟩
 have Gk:Qu mg:=⟨PySem.W.mg_none_of X G zsorted,PySem.W.mg_none_of X G zlist,PySem.W.mg_none_of X G zreversed,PySem.W.mg_none_of X G zset,PySem.W.mg_none_of X G ztuple⟩
 have T:Qd K mg:=⟨PySem.W.mg_none_of X G zisinstance,PySem.W.mg_none_of X G zstr,PySem.W.mg_none_of X G zall,PySem.W.mg_none_of X G zenumerate,PySem.W.mg_none_of X G zsum,⟨_,PySem.W.mg_of X G m1⟩,⟨_,PySem.W.mg_of X G m2⟩,⟨_,PySem.W.mg_of X G m3⟩,⟨_,PySem.W.mg_of X G m4⟩,kss,ktt,kll⟩
 have Nn:Y7 K mg:=⟨⟨_,_,hA1⟩,⟨_,_,hA2⟩,⟨_,_,hA3⟩,⟨_,_,hA4⟩,⟨_,_,hA5⟩,⟨_,_,hA6⟩,⟨_,_,hA7⟩⟩
 have M:GM K mg CG:=⟨⟨_,_,clCG⟩,⟨_,_,mCGM⟩,⟨_,_,mCGF⟩,⟨_,_,hA1⟩⟩
 have O:KG K mg:=⟨⟨_,_,hA8⟩,⟨_,_,hP1⟩,⟨_,_,hP2⟩,⟨_,_,hP3⟩,⟨_,_,hP4⟩⟩
 have Z:KH K mg:=⟨⟨_,_,hO⟩,⟨_,_,hL⟩,⟨_,_,hT⟩,⟨_,_,hN⟩,⟨_,_,hD⟩,⟨_,_,hR⟩,⟨_,_,hC1⟩,⟨_,_,hC2⟩,⟨_,_,hC3⟩,⟨_,_,hC4⟩,⟨_,_,hC5⟩,⟨_,_,hC6⟩,⟨_,_,hC7⟩,⟨_,_,hC8⟩⟩
 have XS:y8 K mg D CTwice CTooMany:=⟨⟨_,_,xTwice⟩,⟨_,_,xTooMany⟩⟩
 have ZE:kA K mg D CTwice CTooMany:=⟨PySem.W.mg_of X G aHE,ccD,PySem.W.mg_of X G a1Twice,PySem.W.mg_of X G a1TooMany,PySem.W.mg_none_of X G zValueError,w1,w2,w3,mm1,mm2,mm3,wa,ma,spc,tks⟩
 exact⟨PySem.W.fnOf "law" "law" (Qz YD) (jX YD) (qm YD) .none kVLAW dcLAW pmLAW anLAW cdLAW ctLAW,λs v=>.of_eq rfl,λbase _ _=>wl FLAW B Gk T Nn M O Z XS ZE mCGR (PySem.W.mg_none_of X G zdict) ⟨_,PySem.W.mg_of X G m5⟩⟩
theorem walk {l:PySem.W.OpenLaw} {q:Program} {loose:List Str} {XP:(Str->Option Value)->Heap->Prop} {YP:World->Heap->Prop} {d:DefRec} {K:Params->PySem.W.Frag} (hn:l.most=some 63) (hdf:d.params.defaults=[])
   (hY:∀(w:World) (h:Heap),YP w h->(K w.params).In h)
   (F:∀(w:World) (mg:Str->Option Value) (fa:Addr) (h:Heap),(K w.params).In h->h.Ns mainGlobals mg->mg d.name=some (.ref fa)->
     ∃fd:FuncData,(∀(s:Shared) (u:Value),BindsTo s fd ⟨[u],[]⟩ [("_law_script",u)])/\∀base:Heap,(K w.params).In base->base.Ns mainGlobals mg->qu l.prog w (K w.params) mg base jh 12 fa fd ["_law_script"] (WX (K w.params))):
   PySem.W.WalkO q loose XP YP l.row.toRowW d [] (λf vs=>PySem.call f vs):=
 L2.walk_of (n:=63) (k:=12) (x:="_law_script") (CX:=λ_=>jh) (sp:=λw=>WX (K w.params)) hn (by decide) hdf ⟨rfl,by decide,by decide,rfl⟩ hY F (λ_ _ a ns hl _ hS=>⟨a,ns,rfl,hS,hl,λ_=>rfl⟩) λ_ _ _ _ _ z=>z
end Rh
open PySem PySem.W PyProof.Rows
def PySem.W.Fast.tw2579560948749188208 : Unit := ()
def PySem.W.Fast.tw861502493610598483 : Unit := ()
def PySem.W.Fast.tw17322059916419148152 : Unit := ()
def PySem.W.Fast.tw7774113678449685934 : Unit := ()
def PySem.W.Fast.tw143482174536628869 : Unit := ()
def PySem.W.Fast.tw11606288678410610225 : Unit := ()
def PySem.W.Fast.tw4244922878905308065 : Unit := ()
def PySem.W.Fast.tw17284588472162393981 : Unit := ()
def PySem.W.Fast.tw10338398162516547025 : Unit := ()
def PySem.W.Fast.tw17315057650846758953 : Unit := ()
def PySem.W.Fast.tw17724038513149304489 : Unit := ()
def PySem.W.Fast.tw13913613514976480042 : Unit := ()
def PySem.W.Fast.tw12103309309050226592 : Unit := ()
def PySem.W.Fast.tw18328257000508772394 : Unit := ()
def PySem.W.Fast.tw12297992134047619483 : Unit := ()
def PySem.W.Fast.tw539538531456391632 : Unit := ()
def PySem.W.Fast.tw8737599933303070863 : Unit := ()
def PySem.W.Fast.tw4015202173357781934 : Unit := ()
def PySem.W.Fast.tw8492135340293348127 : Unit := ()
def PySem.W.Fast.tw14391293386007564604 : Unit := ()
def PySem.W.Fast.tw13462424878891718212 : Unit := ()
def PySem.W.Fast.tw15254633091992210921 : Unit := ()
def PySem.W.Fast.tw6512149657230936976 : Unit := ()
def PySem.W.Fast.tw11962351593759143498 : Unit := ()
def PySem.W.Fast.tw10167646349310259628 : Unit := ()
def PySem.W.Fast.tw8431482922422412695 : Unit := ()
def PySem.W.Fast.tw2244103112122482387 : Unit := ()
def PySem.W.Fast.tw11384182702204212275 : Unit := ()
def PySem.W.Fast.tw443766864951011646 : Unit := ()
def PySem.W.Fast.tw12200699767478067731 : Unit := ()
def PySem.W.Fast.tw4171853373547519906 : Unit := ()
def PySem.W.Fast.tw1205274952441263945 : Unit := ()
def PySem.W.Fast.tw10624116801336726872 : Unit := ()
def PySem.W.Fast.tw209982475168477708 : Unit := ()
def PySem.W.Fast.tw3945831679567021610 : Unit := ()
def PySem.W.Fast.tw6522051377940421278 : Unit := ()
def PySem.W.Fast.tw13034982811429478159 : Unit := ()
def PySem.W.Fast.tw10826640976665885199 : Unit := ()
def PySem.W.Fast.tw6798380500665416597 : Unit := ()
def PySem.W.Fast.tw12459912946257978736 : Unit := ()
def PySem.W.Fast.tw384561282630992784 : Unit := ()
def PySem.W.Fast.tw9116068151291705539 : Unit := ()
def PySem.W.Fast.tw15621415185263527259 : Unit := ()
def PySem.W.Fast.tw1979317910248211280 : Unit := ()
def PySem.W.Fast.tw2135409205425526673 : Unit := ()
def PySem.W.Fast.tw5832305185047221409 : Unit := ()
def PySem.W.Fast.tw9972681490609642005 : Unit := ()
def PySem.W.Fast.tw1840220198017710270 : Unit := ()
def PySem.W.Fast.tw2107523057676978006 : Unit := ()
def PySem.W.Fast.tw16919654943277366748 : Unit := ()
def PySem.W.Fast.tw7322748291113730364 : Unit := ()
def PySem.W.Fast.tw14022695629967993375 : Unit := ()
def PySem.W.Fast.tw15685335758407661847 : Unit := ()
def PySem.W.Fast.tw11266997524610791606 : Unit := ()
def PySem.W.Fast.tw15402603294489630176 : Unit := ()
def PySem.W.Fast.tw14827714588952709054 : Unit := ()
def PySem.W.Fast.tw6822071536725586909 : Unit := ()
def PySem.W.Fast.tw13053770412826190925 : Unit := ()
def PySem.W.Fast.tw10510056951384868246 : Unit := ()
def PySem.W.Fast.tw12727641955093265886 : Unit := ()
def PySem.W.Fast.tw16298917771340976007 : Unit := ()
def PySem.W.Fast.tw7164969610272591079 : Unit := ()
def PySem.W.Fast.tw8422229294311615681 : Unit := ()
def PySem.W.Fast.tw3919386906821981792 : Unit := ()
def PySem.W.Fast.tw10519837036962490867 : Unit := ()
def PySem.W.Fast.tw15925456577456769635 : Unit := ()
def PySem.W.Fast.tw17963105932079019327 : Unit := ()
def PySem.W.Fast.tw10042083083395451092 : Unit := ()
def PySem.W.Fast.tw12917704675397863716 : Unit := ()
def PySem.W.Fast.tw17518593693041627797 : Unit := ()
def PySem.W.Fast.tw1000662321505670351 : Unit := ()
def PySem.W.Fast.tw28018229315631829 : Unit := ()
def PySem.W.Fast.tw4436474186459923750 : Unit := ()
def PySem.W.Fast.tw5217270863462422736 : Unit := ()
def PySem.W.Fast.tw17292613610259460706 : Unit := ()
def PySem.W.Fast.tw10879749546641988924 : Unit := ()
def PySem.W.Fast.tw5622701340561072331 : Unit := ()
def PySem.W.Fast.tw10295913840692754127 : Unit := ()
def PySem.W.Fast.tw8733291241859026926 : Unit := ()
def PySem.W.Fast.tw1708089923452030704 : Unit := ()
def PySem.W.Fast.tw5667099127317398114 : Unit := ()
def PySem.W.Fast.tw9689729476882780088 : Unit := ()
def PySem.W.Fast.tw6968137755033780318 : Unit := ()
def PySem.W.Fast.tw15227483606004533461 : Unit := ()
def PySem.W.Fast.tw14172470266813156586 : Unit := ()
def PySem.W.Fast.tw11401859456886640639 : Unit := ()
def PySem.W.Fast.tw15401437161963490237 : Unit := ()
def PySem.W.Fast.tw2144661209622563809 : Unit := ()
def PySem.W.Fast.tw4321966507151631593 : Unit := ()
def PySem.W.Fast.tw13769103115541136327 : Unit := ()
def PySem.W.Fast.tw3215387988796971590 : Unit := ()
def PySem.W.Fast.tw1915925776726481438 : Unit := ()
def PySem.W.Fast.tw9582823730064241283 : Unit := ()
def PySem.W.Fast.tw1972164579936704799 : Unit := ()
def PySem.W.Fast.tw12330612334027959195 : Unit := ()
def PySem.W.Fast.tw15042883488752021643 : Unit := ()
set_option maxRecDepth 100000
set_option maxHeartbeats 0
open_top hd for PySem.Challenge.rw_ringheaps_k83_grounds_joined_and_paired
set_option maxRecDepth 100000 in
set_option maxHeartbeats 0 in
theorem PySem.Challenge.cw_ringheaps_k83_grounds_joined_and_paired_holds : PySem.Challenge.rw_ringheaps_k83_grounds_joined_and_paired.Holds := by
 refine hd ?_
 k_fill
 refine Rh.walk (l:=PySem.Challenge.rw_ringheaps_k83_grounds_joined_and_paired) rfl rfl (λw h Y=>PySem.W.kIn_of Y) ?F
 case F=>
   intro w mg fa h KX G hmg
   refine' Rh.all_mk KX G hmg ?_ ?_ ?_ ?_ ?_ ?_ ?_ ?_ ?_ ?_ ?_ ?_ ?_ ?_ ?_ ?_ ?_ ?_ ?_ ?_ ?_ ?_ ?_ ?_ ?_ ?_ ?_ ?_ ?_ ?_ ?_ ?_ ?_ ?_ ?_ ?_ ?_ ?_ ?_ ?_ ?_ ?_ ?_ ?_ ?_ ?_ ?_ ?_ ?_ ?_ ?_ ?_ ?_ ?_ ?_ ?_ ?_ ?_ ?_ ?_ ?_ ?_ ?_ ?_ ?_ ?_ ?_ ?_ ?_ ?_ ?_ ?_ ?_ ?_ ?_ ?_ ?_ ?_ ?_ ?_ ?_ ?_ ?_ ?_ ?_ ?_ ?_ ?_ ?_ ?_ ?_ ?_ ?_ ?_ ?_ ?_ ?_ ?_ ?_ ?_ ?_ ?_ ?_ ?_ ?_ ?_ ?_ ?_ ?_ ?_ ?_ ?_ ?_ ?_ ?_ ?_
   any_goals first | (apply Rh.HF.mk'<;>k_is) | (apply Rh.MF.mk'<;>k_is) | k_is | kernel_rfl | rfl | decide
