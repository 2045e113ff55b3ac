import PyProof.Rows.All
import Wide.All
import OpenK.AllK
import Wide.FinOn
import Lean
import PyProof.EqAt
import PyProof.EqKinds
import PyProof.TupleCall
import PySem.Challenge.RW_ringheaps_k03_grounds_refused
set_option Elab.async false
set_option linter.all false
set_option maxRecDepth 100000
namespace L2
open PySem PySem.Spec PyProof.Rows
abbrev qW:=Sum Int Str
def Ym:qW->Value->Bool
 | .inl k,v=>Value.isInt k v
 | .inr x,v=>Value.isStrOf x v
def Gi (w:World):qW->Int
 | .inl k=>hashInt k
 | .inr x=>hashStr w x
theorem jo:∀{k:qW} {v:Value},Ym k v=true->(∃i t,k=Sum.inl i/\v=Value.int i t)\/(∃x t,k=Sum.inr x/\v=Value.str x t)
 | .inl i,v,h=>by
   obtain⟨t,e⟩:=Value.isInt_shape (k:=i) (v:=v) h
   exact .inl ⟨i,t,rfl,e⟩
 | .inr x,v,h=>by
   obtain⟨t,e⟩:=Value.isStrOf_shape (x:=x) (v:=v) h
   exact .inr ⟨x,t,rfl,e⟩
theorem Up (i:Int) (t:Tok):Ym (.inl i) (.int i t)=true:=by simp [Ym,Value.isInt]
theorem Uo (x:Str) (t:Tok):Ym (.inr x) (.str x t)=true:=by simp [Ym,Value.isStrOf]
theorem wq (a b:Int):decide ((Sum.inl a:qW)=Sum.inl b)=(a==b):=by
 by_cases e:a=b
 . subst e;simp
 . have h:¬(Sum.inl a:qW)=Sum.inl b:=λq=>e (Sum.inl.inj q)
   rw[decide_eq_false h]
   exact(beq_eq_false_iff_ne.mpr e).symm
theorem wn (a b:Str):decide ((Sum.inr a:qW)=Sum.inr b)=decide (a=b):=by
 by_cases e:a=b
 . subst e;simp
 . have h:¬(Sum.inr a:qW)=Sum.inr b:=λq=>e (Sum.inr.inj q)
   rw[decide_eq_false h,decide_eq_false e]
theorem wp (a:Int) (b:Str):decide ((Sum.inl a:qW)=Sum.inr b)=false:=decide_eq_false (λq=>nomatch q)
theorem wo (a:Str) (b:Int):decide ((Sum.inr a:qW)=Sum.inl b)=false:=decide_eq_false (λq=>nomatch q)
def ju (prog:Program) (w:World):PySem.KeyKind prog w qW where
 is:=Ym
 hash:=Gi w
 inj:=λv a b ha hb=>by
   rcases jo ha with ⟨i,t,rfl,rfl⟩ | ⟨x,t,rfl,rfl⟩
   . rcases jo hb with ⟨j,u,rfl,e⟩ | ⟨y,u,rfl,e⟩
     . injection e with e1 _;rw[e1]
     . exact nomatch e
   . rcases jo hb with ⟨j,u,rfl,e⟩ | ⟨y,u,rfl,e⟩
     . exact nomatch e
     . injection e with e1 _;rw[e1]
 byValue:=λk v h=>by
   rcases jo h with ⟨i,t,rfl,rfl⟩ | ⟨x,t,rfl,rfl⟩<;>rfl
 pyHash:=λhv h=>by
   rcases jo hv with ⟨i,t,rfl,rfl⟩ | ⟨x,t,rfl,rfl⟩
   . exact wpAny_pyHash_int h
   . exact wpAny_pyHash_str h
 eqBool:=λhu hv h=>by
   rcases jo hu with ⟨i,t,rfl,rfl⟩ | ⟨x,t,rfl,rfl⟩
   . rcases jo hv with ⟨j,u,rfl,rfl⟩ | ⟨y,u,rfl,rfl⟩
     . rw[wq]at h;exact wpAny_eqBool_int h
     . rw[wp]at h;exact SeqAt.EqAt.int_str i t y u _ _ _ _ h
   . rcases jo hv with ⟨j,u,rfl,rfl⟩ | ⟨y,u,rfl,rfl⟩
     . rw[wo]at h;exact SeqAt.EqAt.str_int x t j u _ _ _ _ h
     . rw[wn]at h;exact wpAny_eqBool_str h
 «strs»:=λk x t v h=>by
   rcases jo h with ⟨i,u,rfl,e⟩ | ⟨y,u,rfl,e⟩
   . exact nomatch e
   . injection e with e1 _
     subst e1
     cases v<;>rfl
theorem XE (prog:Program) (w:World) (i:Int) (t:Tok):(ju prog w).is (.inl i) (.int i t)=true:=Up i t
theorem XD (prog:Program) (w:World) (x:Str) (t:Tok):(ju prog w).is (.inr x) (.str x t)=true:=Uo x t
end L2
namespace L2
open PySem PySem.Spec PyProof.Rows
inductive V where
 | non | bl (b:Bool) | int (i:Int) | str (x:Str) | byt (b:Array UInt8) | flt (b:UInt64) | ref (a:Addr) | ty (n:String)
 deriving DecidableEq
def qQ:V->Value->Prop
 | .non,u=>u=Value.none
 | .bl b,u=>u=Value.bool b
 | .int i,u=>∃t,u=Value.int i t
 | .str x,u=>∃t,u=Value.str x t
 | .byt b,u=>∃t,u=Value.bytes b t
 | .flt b,u=>∃t,u=Value.float b t
 | .ref a,u=>u=Value.ref a
 | .ty n,u=>u=Value.type n
abbrev qI:List V->List Value->Prop:=Paired qQ
theorem qI.length {xs:List V} {us:List Value} (r:qI xs us):xs.length=us.length:=Paired.length r
theorem qI.get:∀{xs:List V} {us:List Value} {i:Nat} {x:V},qI xs us->xs[i]?=some x->∃u,us[i]?=some u/\qQ x u
 | _,_,_,_,.nil,e=>by simp at e
 | _,_,0,_,.cons r _,e=>by simp at e;subst e;exact⟨_,rfl,r⟩
 | _,_,i+1,x,.cons _ t,e=>by
   obtain⟨u,h1,h2⟩:=qI.get (i:=i) (x:=x) t (by simpa using e)
   exact⟨u,by simpa using h1,h2⟩
theorem qI.set {x:V} {u:Value} (r:qQ x u):∀{xs:List V} {us:List Value} (i:Nat),qI xs us->qI (xs.set i x) (us.set i u)
 | _,_,_,.nil=>.nil
 | _,_,0,.cons _ t=>.cons r t
 | _,_,i+1,.cons q t=>.cons q (qI.set r i t)
theorem qI.append:∀{xs ys:List V} {us ws:List Value},qI xs us->qI ys ws->qI (xs++ys) (us++ws)
 | _,_,_,_,.nil,s=>s
 | _,_,_,_,.cons r t,s=>.cons r (qI.append t s)
theorem qI.take:∀{xs:List V} {us:List Value} (n:Nat),qI xs us->qI (xs.take n) (us.take n)
 | _,_,0,_=>.nil
 | _,_,_+1,.nil=>.nil
 | _,_,n+1,.cons r t=>.cons r (qI.take n t)
theorem qI.drop:∀{xs:List V} {us:List Value} (n:Nat),qI xs us->qI (xs.drop n) (us.drop n)
 | _,_,0,r=>r
 | _,_,_+1,.nil=>.nil
 | _,_,n+1,.cons _ t=>qI.drop n t
theorem qI.none_of:∀{xs:List V} {us:List Value} {i:Nat},qI xs us->xs[i]?=none->us[i]?=none:=λ{xs us i} r e=>by
 have h1:=r.length
 have h2:xs.length<=i:=List.getElem?_eq_none_iff.mp e
 exact List.getElem?_eq_none_iff.mpr (by omega)
def Jg:Option V->Option Value->Prop
 | some v,some u=>qQ v u
 | none,none=>True
 | _,_=>False
def KV {κ:Type}:List (κ×V)->List (κ×Value)->Prop:=Paired λ(p:κ×V) (q:κ×Value)=>p.1=q.1/\qQ p.2 q.2
def kV:qW->V
 | .inl i=>.int i
 | .inr x=>.str x
inductive HO where
 | lst (xs:List V)
 | tup (xs:List V)
 | dK (kvs:List (qW×V)) | dT (kvs:List (List qW×V))
 | set (S:Int->Bool) (n:Nat)
 | ins (C dx:Addr) (fs:List (Str×V))
 | own (x:Addr)
 | xd (fs:List (Str×V))
 | met (f x:Addr)
 | rng (lo hi:Int)
 | frz (o:Obj) (u:HO)
 | tbl (ps:Array Value)
 | ext (φ:Heap->Prop)
abbrev Hp:=Addr->Option HO
def upd (H:Hp) (a:Addr) (o:HO):Hp:=λb=>if b=a then some o else H b
theorem qd {H:Hp} {a:Addr} {o:HO}:upd H a o a=some o:=by unfold upd;rw[if_pos rfl]
theorem qi {H:Hp} {a b:Addr} {o:HO} (h:b≠a):upd H a o b=H b:=by unfold upd;rw[if_neg h]
theorem qY {H:Hp} {a:Addr} {o u:HO}:upd (upd H a o) a u=upd H a u:=by
 funext b;unfold upd;split<;>rfl
theorem uP {H:Hp} {a b:Addr} {o u:HO} (h:H a=some o) (h':H b=some u) (d:o≠u):a≠b:=by
 intro e;subst e;rw[h]at h';exact d (Option.some.inj h')
theorem qt {H:Hp} {a b:Addr} {o:HO} (h:H a=some o) (h':H b=none):a≠b:=by
 intro e;subst e;rw[h]at h';cases h'
section
variable (P:Program) (w:World)
def qJ (H:Hp) (h:Heap) (a:Addr):HO->Prop
 | .lst xs=>xs.length<=sizeLine/\∃(its:List Value) (n:Nat),qI xs its/\h.get? a=some {cls:=.type "list",data:=.seq its.toArray n}
 | .tup xs=>xs.length<=sizeLine/\∃its:List Value,qI xs its/\IsTup h a its.toArray
 | .dK kvs=>kvs.length<=sizeLine/\(a==sysModules)=false/\∃vs,KV kvs vs/\h.DictOf (ju P w) a vs
 | .dT kvs=>kvs.length<=sizeLine/\(a==sysModules)=false/\∃xs:List (List qW×Addr×Value),
     Paired (λ(p:List qW×V) (q:List qW×Addr×Value)=>p.1=q.1/\H q.2.1=some (.tup (p.1.map kV))/\qQ p.2 q.2.2) kvs xs/\
     ∃o es ep,h.get? a=some o/\o.ExactDict/\o.data=.dict es ep/\es.toList=xs.map (entryOfKey (tupleKind (ju P w)))/\(xs.map (·.1)).Nodup
 | .set S n=>h.SetOf (intKind P w) a S n
 | .ins C dx fs=>H dx=some (.own a)/\fs.length<=1000/\dx≠a/\h.get? a=some (PySem.W.instObj C dx)/\
     ∃mA,h.Ns1 dx mA/\(∀f,Jg (fs.lookup f) (mA f))/\PySem.Within mA (fs.map (·.1))
 | .own _=>∃o,h.get? a=some o
 | .xd fs=>∃mA,h.Ns1 a mA/\∀f,Jg (fs.lookup f) (mA f)
 | .rng lo hi=>∃t u v,h.get? a=some {cls:=.type "range",data:=.fields #[.int lo t,.int hi u,.int 1 v]}
 | .frz o u=>h.get? a=some o/\qJ H h a u
 | .tbl ps=>h.get? a=some {cls:=.none,data:=.fields ps}
 | .met f x=>h.get? a=some (PySem.W.methodObj (.ref f) (.ref x))
 | .ext φ=>φ h/\(∃o,h.get? a=some o)/\∀h1 h2:Heap,φ h1->(∀o,h1.get? a=some o->h2.get? a=some o)->φ h2
def Jh (H:Hp) (h:Heap):Prop:=∀a o,H a=some o->qJ P w H h a o
end
section
variable {P:Program} {w:World} {H H':Hp} {h h':Heap} {a:Addr} {o:HO}
theorem qJ.lt (x:qJ P w H h a o):a < h.objs.size:=by
 cases o with
 | lst xs=>obtain⟨_,_,_,_,e⟩:=x;exact Heap.lt_size e
 | tup xs=>obtain⟨_,_,_,p⟩:=x;exact p.lt
 | dK kvs=>obtain⟨_,_,_,_,o,_,_,e,_⟩:=x;exact Heap.lt_size e
 | dT kvs=>obtain⟨_,_,_,_,o,_,_,e,_⟩:=x;exact Heap.lt_size e
 | set S n=>obtain⟨o,_,_,_,e,_⟩:=x;exact Heap.lt_size e
 | ins C dx fs=>obtain⟨_,_,_,e,_⟩:=x;exact Heap.lt_size e
 | own y=>obtain⟨_,e⟩:=x;exact Heap.lt_size e
 | xd fs=>obtain⟨_,⟨_,_,_,e,_⟩,_⟩:=x;exact Heap.lt_size e
 | rng lo hi=>obtain⟨_,_,_,e⟩:=x;exact Heap.lt_size e
 | frz ob u=>obtain⟨e,_⟩:=x;exact Heap.lt_size e
 | tbl ps=>exact Heap.lt_size (show h.get? a=some _ from x)
 | met f y=>exact Heap.lt_size (show h.get? a=some _ from x)
 | ext φ=>obtain⟨_,⟨_,e⟩,_⟩:=x;exact Heap.lt_size e
theorem Paired.mapP {α β:Type} {F G:α->β->Prop}:∀{l₁:List α} {l₂:List β},Paired F l₁ l₂->(∀a b,F a b->G a b)->Paired G l₁ l₂
 | _,_,.nil,_=>.nil
 | _,_,.cons r t,f=>.cons (f _ _ r) (Paired.mapP t f)
theorem qJ.stay (x:qJ P w H h a o) (k:∀b u,(b=a\/H b=some (.own a))->h.get? b=some u->h'.get? b=some u)
   (ho:∀b,H b=some (.own a)->H' b=some (.own a)) (ht:∀b xs,H b=some (.tup xs)->H' b=some (.tup xs)):qJ P w H' h' a o:=by
 induction o with
 | lst xs=>obtain⟨z,its,n,r,e⟩:=x;exact⟨z,its,n,r,k _ _ (.inl rfl) e⟩
 | tup xs=>obtain⟨z,its,r,ob,e,c⟩:=x;exact⟨z,its,r,ob,k _ _ (.inl rfl) e,c⟩
 | dK kvs=>obtain⟨z,y,vs,r,ob,es,ep,e,c⟩:=x;exact⟨z,y,vs,r,ob,es,ep,k _ _ (.inl rfl) e,c⟩
 | dT kvs=>
   obtain⟨z,y,xs,r,ob,es,ep,e,c⟩:=x
   exact⟨z,y,xs,Paired.mapP r λp q z=>⟨z.1,ht _ _ z.2.1,z.2.2⟩,ob,es,ep,k _ _ (.inl rfl) e,c⟩
 | set S n=>obtain⟨ob,es,ep,t,e,c⟩:=x;exact⟨ob,es,ep,t,k _ _ (.inl rfl) e,c⟩
 | ins C dx fs=>
   obtain⟨d,z,ne,e,mA,⟨od,es,ep,e2,c⟩,r⟩:=x
   exact⟨ho _ d,z,ne,k _ _ (.inl rfl) e,mA,⟨od,es,ep,k _ _ (.inr d) e2,c⟩,r⟩
 | own y=>obtain⟨ob,e⟩:=x;exact⟨ob,k _ _ (.inl rfl) e⟩
 | xd fs=>obtain⟨mA,⟨od,es,ep,e,c⟩,r⟩:=x;exact⟨mA,⟨od,es,ep,k _ _ (.inl rfl) e,c⟩,r⟩
 | rng lo hi=>obtain⟨t,u,v,e⟩:=x;exact⟨t,u,v,k _ _ (.inl rfl) e⟩
 | frz ob u ih=>obtain⟨e,q⟩:=x;exact⟨k _ _ (.inl rfl) e,ih q⟩
 | tbl ps=>
   have e:h.get? a=some {cls:=.none,data:=.fields ps}:=x
   show h'.get? a=some {cls:=.none,data:=.fields ps}
   exact k a _ (.inl rfl) e
 | met f y=>
   have e:h.get? a=some (PySem.W.methodObj (.ref f) (.ref y)):=x
   show h'.get? a=some (PySem.W.methodObj (.ref f) (.ref y))
   exact k a _ (.inl rfl) e
 | ext φ=>obtain⟨p,⟨o,e⟩,st⟩:=x;exact⟨st _ _ p λo q=>k _ _ (.inl rfl) q,⟨o,k _ _ (.inl rfl) e⟩,st⟩
theorem Jh.lt (x:Jh P w H h) (e:H a=some o):a < h.objs.size:=(x a o e).lt
theorem Jh.fresh (x:Jh P w H h) (e:h.objs.size<=a):H a=none:=by
 cases q:H a with
 | none=>rfl
 | some u=>exact absurd (Nat.lt_of_lt_of_le (x.lt q) e) (Nat.lt_irrefl _)
theorem Jh.kept (x:Jh P w H h) (k:∀b u,h.get? b=some u->h'.get? b=some u):Jh P w H h':=λa o e=>
 (x a o e).stay (λb u _ q=>k b u q) (λ_ q=>q) λ_ _ q=>q
theorem Jh.laid (x:Jh P w H h) (k:∀b u,h.get? b=some u->h'.get? b=some u) (hp:h.objs.size<=a) (new:qJ P w (upd H a o) h' a o):Jh P w (upd H a o) h':=λb u e=>by
 have hn:=x.fresh hp
 by_cases hb:b=a
 . subst hb;rw[qd]at e;cases e;exact new
 . rw[qi hb]at e
   exact(x b u e).stay (λc v _ q=>k c v q) (λc q=>by rw[qi (qt q hn)];exact q) λc xs q=>by rw[qi (qt q hn)];exact q
end
def Rd (H:Hp) (a:Addr) (u:HO):Prop:=H a=some u\/∃o,H a=some (.frz o u)
theorem Rd.ok {P:Program} {w:World} {H:Hp} {h:Heap} {a:Addr} {u:HO} (r:Rd H a u) (x:Jh P w H h):qJ P w H h a u:=by
 rcases r with r | ⟨o,r⟩
 . exact x a u r
 . obtain⟨_,q⟩:=x a _ r
   exact q
def wQ:Option HO->Prop
 | some (.lst _)=>True
 | some (.dK _)=>True
 | some (.dT _)=>True
 | some (.set _ _)=>True
 | some (.ins _ _ _)=>True
 | some (.ext _)=>True
 | _=>False
section
variable {P:Program} {w:World} {H:Hp} {h h':Heap} {x e:Addr} {o':HO}
theorem Jh.write (ok:Jh P w H h) (mu:wQ (H x)) (he:e=x\/H e=some (.own x)) (k:∀b u,b≠e->h.get? b=some u->h'.get? b=some u) (heo:∃u,h'.get? e=some u)
   (new:qJ P w (upd H x o') h' x o'):Jh P w (upd H x o') h':=λb u q=>by
 have nown:∀c y,H c=some (.own y)->c≠x:=λc y r z=>by subst z;rw[r]at mu;exact mu
 have ntup:∀c xs,H c=some (.tup xs)->c≠x:=λc xs r z=>by subst z;rw[r]at mu;exact mu
 by_cases hb:b=x
 . subst hb;rw[qd]at q;cases q;exact new
 . rw[qi hb]at q
   by_cases hbe:b=e
   . have q':H b=some (.own x):=by
       rcases he with z | z
       . exact absurd (hbe.trans z) hb
       . rw[hbe];exact z
     rw[q]at q';cases q'
     obtain⟨v,hv⟩:=heo
     exact⟨v,by rw[hbe];exact hv⟩
   . refine(ok b u q).stay (λc v hc r=>k c v ?_ r) (λc r=>by rw[qi (nown c b r)];exact r) λc xs r=>by rw[qi (ntup c xs r)];exact r
     rcases hc with rfl | hc
     . exact hbe
     . rintro rfl
       rcases he with z | z
       . exact nown c b hc z
       . rw[hc]at z;cases z;exact hb rfl
end
structure Un (fs ex:List Addr) (H H':Hp) (h h':Heap):Prop where
 keep:∀b o,h.get? b=some o->H b=none->b∉fs->b∉ex->h'.get? b=some o
 slot:∀b o,h.get? b=some o->H b=none->b∈fs->b∉ex->∃sl,h'.get? b=some {o with slots:=sl}
 free:∀b o,h.get? b=some o->H b=none->b∉ex->H' b=none
 there:∀b o,h.get? b=some o->b∉ex->∃o',h'.get? b=some o'
 tups:∀b xs,H b=some (.tup xs)->H' b=some (.tup xs)
 frzs:∀b o u,H b=some (.frz o u)->H' b=some (.frz o u)
 tbls:∀b ps,H b=some (.tbl ps)->∃more,H' b=some (.tbl (ps++more))
section
variable {fs fs' ex ex':List Addr} {H H1 H2:Hp} {h h1 h2 h':Heap} {a x e:Addr} {o:HO}
theorem Un.any (u:Un fs ex H H1 h h1) {b:Addr} {ob:Obj} (q:h.get? b=some ob) (n:H b=none) (hx:b∉ex):∃sl,h1.get? b=some {ob with slots:=sl}:=by
 by_cases hb:b∈fs
 . exact u.slot b ob q n hb hx
 . exact⟨ob.slots,u.keep b ob q n hb hx⟩
theorem Un.kept (k:∀b u,h.get? b=some u->h'.get? b=some u):Un fs ex H H h h':=
 ⟨λb ob q _ _ _=>k b ob q,λb ob q _ _ _=>⟨ob.slots,k b ob q⟩,λ_ _ _ n _=>n,λb ob q _=>⟨ob,k b ob q⟩,λ_ _ q=>q,λ_ _ _ q=>q,λ_ ps q=>⟨#[],by rw[q];simp⟩⟩
theorem Un.refl:Un fs ex H H h h:=Un.kept λ_ _ q=>q
theorem Un.laid (k:∀b u,h.get? b=some u->h'.get? b=some u) (hp:h.objs.size<=a) (hn:H a=none):Un fs ex H (upd H a o) h h' where
 keep:=λb u q _ _ _=>k b u q
 slot:=λb u q _ _ _=>⟨u.slots,k b u q⟩
 free:=λb u q n _=>by rw[qi (Nat.ne_of_lt (Nat.lt_of_lt_of_le (Heap.lt_size q) hp))];exact n
 there:=λb u q _=>⟨u,k b u q⟩
 tups:=λb xs q=>by rw[qi (qt q hn)];exact q
 frzs:=λb u xs q=>by rw[qi (qt q hn)];exact q
 tbls:=λb ps q=>⟨#[],by rw[qi (qt q hn),q];simp⟩
theorem Un.write (mu:wQ (H x)) (he:e=x\/H e=some (.own x)) (k:∀b u,b≠e->h.get? b=some u->h'.get? b=some u) (heo:∃u,h'.get? e=some u):Un fs ex H (upd H x o) h h':=by
 have hx:∀b,H b=none->b≠x:=λb n z=>by subst z;rw[n]at mu;exact mu
 have hb:∀b,H b=none->b≠e:=λb n z=>by
   subst z
   rcases he with r | r
   . exact hx b n r
   . rw[n]at r;cases r
 have hm:∀b u,H b=some u->¬wQ (some u)->b≠x:=λb u q nm z=>by subst z;rw[q]at mu;exact nm mu
 refine⟨λb u q n _ _=>k b u (hb b n) q,λb u q n _ _=>⟨u.slots,k b u (hb b n) q⟩,λb u q n _=>by rw[qi (hx b n)];exact n,λb u q _=>?_,
   λb xs q=>by rw[qi (hm b _ q λz=>z)];exact q,λb u xs q=>by rw[qi (hm b _ q λz=>z)];exact q,λb ps q=>⟨#[],by rw[qi (hm b _ q λz=>z),q];simp⟩⟩
 by_cases hbe:b=e
 . subst hbe;exact heo
 . exact⟨u,k b u hbe q⟩
end
def Ks (h:Heap) (H:Hp):List Addr:=(List.range h.objs.size).filter λa=>(H a).isSome
def YT (h:Heap) (H:Hp):Heap:=PySem.W.hideAll h (Ks h H)
theorem Uy (h:Heap) (H:Hp):(YT h H).objs.size=h.objs.size:=PySem.W.hideAll_size _ _
theorem kl {h:Heap} {H:Hp} {b:Addr} {o:Obj} (e:h.get? b=some o) (n:H b=none):(YT h H).get? b=some o:=
 PySem.W.hideAll_get _ e λhm=>by
   have q:(H b).isSome=true:=(List.mem_filter.mp hm).2
   rw[n]at q;simp at q
theorem yv {h:Heap} {H:Hp} {b:Addr} {o:Obj} (e:(YT h H).get? b=some o):h.get? b=some o/\H b=none:=by
 have e':h.get? b=some o:=PySem.W.of_hideAll (Ks h H) e
 refine⟨e',?_⟩
 cases q:H b with
 | none=>rfl
 | some x=>
   have hm:b∈Ks h H:=List.mem_filter.mpr ⟨List.mem_range.mpr (Heap.lt_size e'),by simp [q]⟩
   have z:(YT h H).get? b=none:=PySem.W.hideAll_none (Ks h H) hm
   rw[z]at e;cases e
def yO (g h:Heap) (L:Addr):List (Addr×Obj):=(List.range h.objs.size).filterMap λa=>if a=L\/(g.get? a).isSome=true then none else (h.get? a).map λo=>(a,o)
def rest (g h:Heap) (L d:Addr):List (Addr×Obj):=(yO g h L).filter λp=>decide (p.1≠d)
end L2
namespace L2
open PySem PySem.Spec PyProof.Rows
structure Mod (K:PySem.W.Frag) (mg:Str->Option Value) (base:Heap):Prop where
 kin:K.In base
 glob:base.Ns mainGlobals mg
 blt:∃mb,base.Ns builtinsNs mb/\∀x:Str,x≠"__name__"->mb x=bootBuiltins x
 nolimit:base.NoLimit
structure Cx where
 prog:Program
 w:World
 K:PySem.W.Frag
 mg:Str->Option Value
 base:Heap
 A:Around
 N:List Str
 s₀:Shared
 H₀:Hp
 env:Env
 outer:List Env
 stack:List Env
 ex:List Addr
 fn:Str->Bool
 calm:Bool
 pn:List (Addr×Obj)
 xe:Value->Shared->Prop
def ZW (l:List Env):List Addr:=l.filterMap (·.frame)
abbrev Cx.fs (X:Cx):List Addr:=ZW X.outer
def wP (sc:Scope) (x:Str):Prop:=sc.names.lookup x=some .local\/sc.names.lookup x=some .cell\/sc.names.lookup x=some .free
def xy (sc:Scope) (x:Str):Prop:=sc.names.lookup x=some .local\/sc.names.lookup x=some .cell
def Gu (env:Env) (h:Heap) (m:Str->Option Value) (x:Str) (u:Value):Prop:=
 (env.kindOf x=some .local/\m x=some u)\/((env.kindOf x=some .cell\/env.kindOf x=some .free)/\∃c,env.cells.lookup x=some c/\h.IsCell c (some u))
structure Cx.Ok (X:Cx):Prop where
 mod:Mod X.K X.mg X.base
 kind:X.env.scope.kind=.function
 glob:X.env.globals=mainGlobals
 blt:X.env.builtins=builtinsNs
 above:X.s₀.heap.objs.size<=X.env.locals
 inj:∀x y c,X.env.cells.lookup x=some c->X.env.cells.lookup y=some c->x=y
 has:∀x,(X.env.kindOf x=some .cell\/X.env.kindOf x=some .free)->∃c,X.env.cells.lookup x=some c
 cab:∀x c,X.fn x=true->X.env.cells.lookup x=some c->X.s₀.heap.objs.size<=c
 hd:X.calm=true->X.A.handled=none
 frames:X.A.frames=some X.stack
 stk:X.stack=X.outer\/(X.stack=X.env::X.outer/\X.env.frame=some X.env.locals)
 exf:∀b∈X.ex,b≠X.env.locals/\∀x c,X.env.cells.lookup x=some c->c≠b
 bs:∀b o,X.base.get? b=some o->X.s₀.heap.get? b=some o/\X.H₀ b=none
 bsz:X.base.objs.size<=X.s₀.heap.objs.size
 noex:∀b o,X.base.get? b=some o->b∉X.ex
 exfs:∀b∈X.ex,b∉X.fs
 funs:X.s₀.heap.FunFrames X.base X.outer
 frf:∀b∈X.fs,X.H₀ b=none
structure qx (X:Cx) (pins:List (Addr×Obj)) (σ:List (Option V)) (H:Hp) (s:Shared):Prop where
 ok:X.Ok
 os:s.os=X.s₀.os
 bare:AllBare s.gens
 base:Un X.fs X.ex X.H₀ H X.s₀.heap s.heap
 loc:∃m,s.heap.Ns X.env.locals m/\∀(i:Nat) (x:Str) (v:V),X.N[i]?=some x->σ[i]?=some (some v)->wP X.env.scope x->∃u,qQ v u/\Gu X.env s.heap m x u
 cell:∀x c,X.env.cells.lookup x=some c->∃v,s.heap.IsCell c v
 free:H X.env.locals=none
 freeC:∀x c,X.env.cells.lookup x=some c->H c=none
 pin:∀p∈X.pn++pins,s.heap.get? p.1=some p.2/\H p.1=none/\p.1≠X.env.locals/\p.1∉X.fs/\∀v,p.2.data≠.cell v
 hok:Jh X.prog X.w H s.heap
 len:σ.length=X.N.length
section
variable {X:Cx} {pins:List (Addr×Obj)} {σ:List (Option V)} {H H':Hp} {s:Shared} {h':Heap}
theorem Cx.Ok.nofr (ok:X.Ok) {b:Addr} {o:Obj} (e:X.base.get? b=some o):b∉X.fs:=λhb=>by
 have:=(ok.funs.mem hb).1
 rw[e]at this;cases this
theorem qx.bs (I:qx X pins σ H s):∀b o,X.base.get? b=some o->s.heap.get? b=some o/\H b=none:=λb o e=>
 ⟨I.base.keep b o (I.ok.bs b o e).1 (I.ok.bs b o e).2 (I.ok.nofr e) (I.ok.noex b o e),I.base.free b o (I.ok.bs b o e).1 (I.ok.bs b o e).2 (I.ok.noex b o e)⟩
theorem qx.bk (I:qx X pins σ H s):∀b o,X.base.get? b=some o->s.heap.get? b=some o:=λb o e=>(I.bs b o e).1
theorem qx.mod (I:qx X pins σ H s):Mod X.K X.mg X.base:=I.ok.mod
theorem qx.kIn (I:qx X pins σ H s):X.K.In s.heap:=I.ok.mod.kin.keeps I.bk
theorem qx.lt (I:qx X pins σ H s):X.env.locals < s.heap.objs.size:=let ⟨_,hn,_⟩:=I.loc;hn.lt
theorem qx.sz (I:qx X pins σ H s):X.s₀.heap.objs.size<=s.heap.objs.size:=Nat.le_trans I.ok.above (Nat.le_of_lt I.lt)
theorem qx.nofs (I:qx X pins σ H s) {a:Addr} (h:s.heap.objs.size<=a):a∉X.fs:=λhb=>by
 obtain⟨_,o,ho,_⟩:=I.ok.funs.mem hb
 exact absurd (Nat.lt_of_lt_of_le (Heap.lt_size ho) (Nat.le_trans I.sz h)) (Nat.lt_irrefl _)
theorem qx.cne (I:qx X pins σ H s):∀x c,X.env.cells.lookup x=some c->c≠X.env.locals:=λx c e z=>by
 obtain⟨v,o,ho,hd⟩:=I.cell x c e
 obtain⟨m,⟨o',es,ep,ho',hd',_⟩,_⟩:=I.loc
 rw[z,ho']at ho;cases ho;rw[hd']at hd;cases hd
theorem qx.funs (I:qx X pins σ H s):s.heap.FunFrames X.base X.outer:=by
 have all:∀(l:List Env),(∀b∈ZW l,b∈X.fs)->X.s₀.heap.FunFrames X.base l->s.heap.FunFrames X.base l:=by
   intro l
   induction l with
   | nil=>intro _ _;trivial
   | cons env r ih=>
     intro hs hl
     obtain⟨hk,⟨L,o,hf,hn,ho,hd⟩,hr⟩:=hl
     have hL:L∈X.fs:=hs L (by unfold ZW;rw[List.filterMap_cons,hf];exact List.mem_cons_self)
     obtain⟨sl,e⟩:=I.base.slot L o ho (I.ok.frf L hL) hL λz=>I.ok.exfs L z hL
     exact⟨hk,⟨L,_,hf,hn,e,hd⟩,ih (λb hb=>hs b (by unfold ZW;rw[List.filterMap_cons,hf];exact List.mem_cons_of_mem _ hb)) hr⟩
 exact all X.outer (λ_ hb=>hb) I.ok.funs
theorem qx.stack (I:qx X pins σ H s):s.heap.FunFrames X.base X.stack:=by
 rcases I.ok.stk with e | ⟨e,hf⟩
 . rw[e];exact I.funs
 . rw[e]
   obtain⟨m,hn,_⟩:=I.loc
   refine .cons (by rw[I.ok.kind];decide) hf hn ?_ I.funs
   exact Heap.get?_none_of_le (Nat.le_trans I.ok.bsz I.ok.above)
theorem qx.stkSub (I:qx X pins σ H s):∀b∈ZW X.stack,b∈X.env.locals::X.fs:=λb hb=>by
 rcases I.ok.stk with e | ⟨e,hf⟩
 . rw[e]at hb;exact List.mem_cons_of_mem _ hb
 . rw[e]at hb
   unfold ZW at hb
   rw[List.filterMap_cons,hf]at hb
   exact hb
theorem qx.stkFree (I:qx X pins σ H s):∀b∈ZW X.stack,H b=none:=λb hb=>by
 rcases List.mem_cons.mp (I.stkSub b hb) with e | hb
 . rw[e];exact I.free
 . obtain⟨_,o,ho,_⟩:=I.ok.funs.mem hb
   exact I.base.free b o ho (I.ok.frf b hb) λz=>I.ok.exfs b z hb
theorem qx.step {g':Array GenState} {t':Nat} {d':Drawn} {ch:List Addr} (I:qx X pins σ H s)
   (hch:∀b∈ch,(b∈X.ex\/X.s₀.heap.objs.size<=b)/\b≠X.env.locals/\(∀x c,X.env.cells.lookup x=some c->c≠b)/\∀p∈X.pn++pins,p.1≠b)
   (keep:∀b o,b≠X.env.locals->b∉X.fs->b∉ch->s.heap.get? b=some o->H b=none->h'.get? b=some o)
   (slot:∀b o,b≠X.env.locals->b∈X.fs->b∉ch->s.heap.get? b=some o->H b=none->∃sl,h'.get? b=some {o with slots:=sl}) (free:∀b o,b∉ch->s.heap.get? b=some o->H b=none->H' b=none)
   (there:∀b o,b∉ch->s.heap.get? b=some o->∃o',h'.get? b=some o')
   (tups:∀b xs,H b=some (.tup xs)->H' b=some (.tup xs)) (frzs:∀b o u,H b=some (.frz o u)->H' b=some (.frz o u)) (tbls:∀b ps,H b=some (.tbl ps)->∃more,H' b=some (.tbl (ps++more)))
   (ns:∀m,s.heap.Ns X.env.locals m->h'.Ns X.env.locals m) (hok:Jh X.prog X.w H' h') (hg:AllBare g'):
   qx X pins σ H' {s with heap:=h',gens:=g',drawn:=d',toks:=t'}:=by
 have neL:∀b o,X.s₀.heap.get? b=some o->b≠X.env.locals:=λb o e=>Nat.ne_of_lt (Nat.lt_of_lt_of_le (Heap.lt_size e) I.ok.above)
 have neC:∀b o,X.s₀.heap.get? b=some o->b∉X.ex->b∉ch:=λb o e hx hb=>by
   rcases(hch b hb).1 with z | z
   . exact hx z
   . exact absurd (Nat.lt_of_lt_of_le (Heap.lt_size e) z) (Nat.lt_irrefl _)
 have cellK:∀x c,X.env.cells.lookup x=some c->∀v,s.heap.IsCell c v->h'.IsCell c v:=λx c e v ⟨o,ho,hd⟩=>by
   have nch:c∉ch:=λz=>(hch c z).2.2.1 x c e rfl
   by_cases hc:c∈X.fs
   . obtain⟨sl,q⟩:=slot c o (I.cne x c e) hc nch ho (I.freeC x c e)
     exact⟨_,q,hd⟩
   . exact⟨o,keep c o (I.cne x c e) hc nch ho (I.freeC x c e),hd⟩
 refine⟨I.ok,I.os,hg,⟨λb o e n hb hx=>?_,λb o e n hb hx=>?_,λb o e n hx=>?_,λb o e hx=>?_,λb xs e=>tups b xs (I.base.tups b xs e),λb o xs e=>frzs b o xs (I.base.frzs b o xs e),λb ps e=>?_⟩,?_,λx c e=>?_,?_,λx c e=>?_,λp hp=>?_,hok,I.len⟩
 . exact keep b o (neL b o e) hb (neC b o e hx) (I.base.keep b o e n hb hx) (I.base.free b o e n hx)
 . obtain⟨sl,e1⟩:=I.base.slot b o e n hb hx
   obtain⟨sl',e2⟩:=slot b _ (neL b o e) hb (neC b o e hx) e1 (I.base.free b o e n hx)
   exact⟨sl',e2⟩
 . obtain⟨o',e1⟩:=I.base.there b o e hx
   exact free b o' (neC b o e hx) e1 (I.base.free b o e n hx)
 . obtain⟨o',e1⟩:=I.base.there b o e hx
   exact there b o' (neC b o e hx) e1
 . obtain⟨m1,e1⟩:=I.base.tbls b ps e
   obtain⟨m2,e2⟩:=tbls b _ e1
   exact⟨m1++m2,by rw[e2,Array.append_assoc]⟩
 . obtain⟨m,hn,hl⟩:=I.loc
   refine⟨m,ns m hn,λi x v e1 e2 e3=>?_⟩
   obtain⟨u,r,l⟩:=hl i x v e1 e2 e3
   refine⟨u,r,?_⟩
   rcases l with l | ⟨k,c,e,z⟩
   . exact .inl l
   . exact .inr ⟨k,c,e,cellK x c e _ z⟩
 . obtain⟨v,z⟩:=I.cell x c e
   exact⟨v,cellK x c e v z⟩
 . obtain⟨m,⟨o,_,_,ho,_⟩,_⟩:=I.loc
   exact free _ o (λz=>(hch _ z).2.1 rfl) ho I.free
 . obtain⟨v,o,ho,hd⟩:=I.cell x c e
   exact free c o (λz=>(hch c z).2.2.1 x c e rfl) ho (I.freeC x c e)
 . obtain⟨e,n,ne,nf,d⟩:=I.pin p hp
   have nch:p.1∉ch:=λz=>(hch p.1 z).2.2.2 p hp rfl
   exact⟨keep p.1 p.2 ne nf nch e n,free p.1 p.2 nch e n,ne,nf,d⟩
theorem qx.un {t':Nat} (I:qx X pins σ H s) (u:Un X.fs [] H H' s.heap h') (hok:Jh X.prog X.w H' h'):qx X pins σ H' {s with heap:=h',toks:=t'}:=by
 obtain⟨m,⟨o,es,ep,ho,r⟩,_⟩:=id I.loc
 obtain⟨sl,hL⟩:=u.any ho I.free (by simp)
 exact I.step (g':=s.gens) (d':=s.drawn) (ch:=[]) (λ_ z=>nomatch z) (λb o _ hb _ e n=>u.keep b o e n hb (by simp)) (λb o _ hb _ e n=>u.slot b o e n hb (by simp)) (λb o _ e n=>u.free b o e n (by simp)) (λb o _ e=>u.there b o e (by simp)) u.tups u.frzs u.tbls (λm' hm=>by
   obtain⟨o',es',ep',ho',r'⟩:=hm
   rw[ho]at ho';cases ho'
   exact⟨_,es',ep',hL,r'⟩) hok I.bare
theorem qx.call {g':Array GenState} {t':Nat} {d':Drawn} {ch:List Addr} (I:qx X pins σ H s) (u:Un (ZW X.stack) ch H H' s.heap h') (hok:Jh X.prog X.w H' h') (hg:AllBare g')
   (hch:∀b∈ch,(b∈X.ex\/X.s₀.heap.objs.size<=b)/\b≠X.env.locals/\(∀x c,X.env.cells.lookup x=some c->c≠b)/\∀p∈X.pn++pins,p.1≠b):
   qx X pins σ H' {s with heap:=h',gens:=g',drawn:=d',toks:=t'}:=by
 obtain⟨m,⟨o,es,ep,ho,r⟩,_⟩:=id I.loc
 obtain⟨sl,hL⟩:=u.any ho I.free λz=>(hch _ z).2.1 rfl
 exact I.step (ch:=ch) hch (λb o hL hb hc e n=>u.keep b o e n (λz=>(List.mem_cons.mp (I.stkSub b z)).elim hL hb) hc) (λb o _ _ hc e n=>u.any e n hc) (λb o hc e n=>u.free b o e n hc) (λb o hc e=>u.there b o e hc) u.tups u.frzs u.tbls (λm' hm=>by
   obtain⟨o',es',ep',ho',r'⟩:=hm
   rw[ho]at ho';cases ho'
   exact⟨_,es',ep',hL,r'⟩) hok hg
theorem qx.turned {t':Nat} {it:Addr} (I:qx X pins σ H s) (k:∀b o,b≠it->s.heap.get? b=some o->h'.get? b=some o) (hn:H it=none) (hL:it≠X.env.locals)
   (h1:it∈X.ex\/X.s₀.heap.objs.size<=it) (h2:∀x c,X.env.cells.lookup x=some c->c≠it) (h3:∀p∈X.pn++pins,p.1≠it):qx X pins σ H {s with heap:=h',toks:=t'}:=by
 have nit:∀b u,H b=some u->b≠it:=λb u e z=>by rw[z,hn]at e;cases e
 refine I.step (g':=s.gens) (d':=s.drawn) (ch:=[it]) (λb hb=>?_) (λb o _ _ hc e _=>k b o (λz=>hc (by simp [z])) e) (λb o _ _ hc e _=>⟨o.slots,k b o (λz=>hc (by simp [z])) e⟩) (λ_ _ _ _ n=>n)
   (λb o hc e=>⟨o,k b o (λz=>hc (by simp [z])) e⟩) (λ_ _ e=>e) (λ_ _ _ e=>e) (λb ps e=>⟨#[],by rw[e];simp⟩) (λm hm=>?_) (λb u e=>?_) I.bare
 . have e:b=it:=by simpa using hb
   subst e
   exact⟨h1,hL,h2,h3⟩
 . obtain⟨o,es,ep,ho,r⟩:=hm
   exact⟨o,es,ep,k _ o (Ne.symm hL) ho,r⟩
 . refine(I.hok b u e).stay (λc v hc q=>k c v ?_ q) (λ_ q=>q) λ_ _ q=>q
   rcases hc with z | z
   . rw[z];exact nit b u e
   . exact nit c _ z
theorem qx.tok (I:qx X pins σ H s) (t:Nat):qx X pins σ H {s with toks:=t}:=I.un (h':=s.heap) (t':=t) Un.refl I.hok
theorem qx.kept {t':Nat} (I:qx X pins σ H s) (k:∀b u,s.heap.get? b=some u->h'.get? b=some u):qx X pins σ H {s with heap:=h',toks:=t'}:=I.un (Un.kept k) (I.hok.kept k)
theorem qx.laid {a:Addr} {o:HO} {t':Nat} (I:qx X pins σ H s) (k:∀b u,s.heap.get? b=some u->h'.get? b=some u) (hp:s.heap.objs.size<=a) (new:qJ X.prog X.w (upd H a o) h' a o):
   qx X pins σ (upd H a o) {s with heap:=h',toks:=t'}:=I.un (Un.laid k hp (I.hok.fresh hp)) (I.hok.laid k hp new)
theorem qx.write {x e:Addr} {o:HO} {t':Nat} (I:qx X pins σ H s) (mu:wQ (H x)) (he:e=x\/H e=some (.own x)) (k:∀b u,b≠e->s.heap.get? b=some u->h'.get? b=some u) (heo:∃u,h'.get? e=some u)
   (new:qJ X.prog X.w (upd H x o) h' x o):qx X pins σ (upd H x o) {s with heap:=h',toks:=t'}:=I.un (Un.write mu he k heo) (I.hok.write mu he k heo new)
theorem qx.pins_of {pins':List (Addr×Obj)} (I:qx X pins σ H s) (h:∀p∈pins',s.heap.get? p.1=some p.2/\H p.1=none/\p.1≠X.env.locals/\p.1∉X.fs/\∀v,p.2.data≠.cell v):qx X pins' σ H s:=
 ⟨I.ok,I.os,I.bare,I.base,I.loc,I.cell,I.free,I.freeC,λp hp=>(List.mem_append.mp hp).elim (λz=>I.pin p (List.mem_append_left _ z)) (h p),I.hok,I.len⟩
theorem zH {N:List Str} (hN:N.Nodup) {i j:Nat} {x:Str} (a:N[i]?=some x) (b:N[j]?=some x):i=j:=by
 obtain⟨h1,e1⟩:=List.getElem?_eq_some_iff.mp a
 obtain⟨h2,e2⟩:=List.getElem?_eq_some_iff.mp b
 exact(List.getElem_inj hN).mp (e1.trans e2.symm)
theorem Zy {M:Model} {A:Around} {E:Value->Shared->Prop} {i:Nat} {x:Str} {v:V} {u:Value} {Q:Unit->Shared->Prop} (I:qx X pins σ H s) (hN:X.N.Nodup) (hi:X.N[i]?=some x) (hx:xy X.env.scope x) (r:qQ v u)
   (h:∀s',qx X pins (σ.set i (some v)) H s'->(∃a,Heap.SameBut a s.heap s'.heap/\(a=X.env.locals\/X.env.cells.lookup x=some a))->Q () s') (hf:X.fn x=true\/X.env.scope.names.lookup x=some .local:=by first | exact .inl rfl | exact .inr rfl | assumption):wpAny M A (storeName X.env x u) Q E s:=by
 obtain⟨m,hn,hl⟩:=id I.loc
 have hcls:(X.env.scope.kind==.class || (X.env.scope.kind==.module&&X.env.locals != X.env.globals))=false:=by rw[I.ok.kind];rfl
 have hiσ:i < σ.length:=by rw[I.len];exact(List.getElem?_eq_some_iff.mp hi).1
 have cne:=I.cne
 have tracked:∀{a:Addr} {h':Heap},(∃o,s.heap.get? a=some o/\H a=none)->Heap.SameBut a s.heap h'->Jh X.prog X.w H h':=λ{a h'} ha hs b ob e=>by
   obtain⟨_,_,hfree⟩:=ha
   refine(I.hok b ob e).stay (λc w' hc q=>(hs.2 c ?_).trans q) (λ_ q=>q) λ_ _ q=>q
   rintro rfl
   rcases hc with rfl | hc
   . rw[hfree]at e;cases e
   . rw[hfree]at hc;cases hc
 rcases hx with hk | hk
 . refine wpAny_storeName_local hk hn (λh' hn' hs=>?_) hcls
   obtain⟨oL,_,_,hoL,_⟩:=id hn
   refine h _ ⟨I.ok,I.os,I.bare,⟨λb o e n hb hx=>?_,λb o e n hb hx=>?_,I.base.free,λb o e hx=>?_,I.base.tups,I.base.frzs,I.base.tbls⟩,⟨_,hn',λj y v' e1 e2 e3=>?_⟩,λy c e=>?_,I.free,I.freeC,λp hp=>?_,tracked ⟨oL,hoL,I.free⟩ hs,by simpa using I.len⟩ ⟨_,hs,.inl rfl⟩
   . exact(hs.2 b (Nat.ne_of_lt (Nat.lt_of_lt_of_le (Heap.lt_size e) I.ok.above))).trans (I.base.keep b o e n hb hx)
   . obtain⟨sl,e1⟩:=I.base.slot b o e n hb hx
     exact⟨sl,(hs.2 b (Nat.ne_of_lt (Nat.lt_of_lt_of_le (Heap.lt_size e) I.ok.above))).trans e1⟩
   . obtain⟨o',e1⟩:=I.base.there b o e hx
     exact⟨o',(hs.2 b (Nat.ne_of_lt (Nat.lt_of_lt_of_le (Heap.lt_size e) I.ok.above))).trans e1⟩
   . by_cases hj:j=i
     . subst hj
       rw[hi]at e1;cases e1
       rw[List.getElem?_set_self hiσ]at e2
       cases e2
       exact⟨u,r,.inl ⟨hk,by simp⟩⟩
     . rw[List.getElem?_set_ne (Ne.symm hj)]at e2
       obtain⟨u',r',q⟩:=hl j y v' e1 e2 e3
       refine⟨u',r',?_⟩
       rcases q with ⟨k,e⟩ | ⟨k,c,e,z⟩
       . refine .inl ⟨k,?_⟩
         have:y≠x:=λe=>hj (zH hN e1 (e▸hi))
         simp [this,e]
       . exact .inr ⟨k,c,e,z.sameBut hs (cne y c e)⟩
   . obtain⟨w',z⟩:=I.cell y c e
     exact⟨w',z.sameBut hs (cne y c e)⟩
   . obtain⟨e,n,ne,nf,d⟩:=I.pin p hp
     exact⟨(hs.2 p.1 ne).trans e,n,ne,nf,d⟩
 . have hfn:X.fn x=true:=by
     rcases hf with z | z
     . exact z
     . rw[z]at hk;cases hk
   obtain⟨c,hc⟩:=I.ok.has x (.inl hk)
   obtain⟨w',z⟩:=I.cell x c hc
   refine wpAny_storeName_cell I.ok.kind hk hc z (λh' hc' hs=>?_)
   obtain⟨oc,hoc,hocd⟩:=id z
   refine h {s with heap:=h'} ⟨I.ok,I.os,I.bare,⟨λb o e n hb hx=>?_,λb o e n hb hx=>?_,I.base.free,λb o e hx=>?_,I.base.tups,I.base.frzs,I.base.tbls⟩,⟨m,hn.sameBut hs (Ne.symm (cne x c hc)),λj y v' e1 e2 e3=>?_⟩,λy c' e=>?_,I.free,I.freeC,λp hp=>?_,tracked ⟨oc,hoc,I.freeC x c hc⟩ hs,by simpa using I.len⟩ ⟨c,hs,.inr hc⟩
   . exact(hs.2 b (Nat.ne_of_lt (Nat.lt_of_lt_of_le (Heap.lt_size e) (I.ok.cab x c hfn hc)))).trans (I.base.keep b o e n hb hx)
   . obtain⟨sl,e1⟩:=I.base.slot b o e n hb hx
     exact⟨sl,(hs.2 b (Nat.ne_of_lt (Nat.lt_of_lt_of_le (Heap.lt_size e) (I.ok.cab x c hfn hc)))).trans e1⟩
   . obtain⟨o',e1⟩:=I.base.there b o e hx
     exact⟨o',(hs.2 b (Nat.ne_of_lt (Nat.lt_of_lt_of_le (Heap.lt_size e) (I.ok.cab x c hfn hc)))).trans e1⟩
   . by_cases hj:j=i
     . subst hj
       rw[hi]at e1;cases e1
       rw[List.getElem?_set_self hiσ]at e2
       cases e2
       exact⟨u,r,.inr ⟨.inl hk,c,hc,hc'⟩⟩
     . rw[List.getElem?_set_ne (Ne.symm hj)]at e2
       obtain⟨u',r',q⟩:=hl j y v' e1 e2 e3
       refine⟨u',r',?_⟩
       rcases q with q | ⟨k,c',e,z'⟩
       . exact .inl q
       . refine .inr ⟨k,c',e,z'.sameBut hs ?_⟩
         rintro rfl
         exact hj (zH hN e1 (I.ok.inj _ _ _ e hc▸hi))
   . by_cases hcc:c'=c
     . subst hcc;exact⟨_,hc'⟩
     . obtain⟨w2,z2⟩:=I.cell y c' e
       exact⟨w2,z2.sameBut hs hcc⟩
   . obtain⟨e,n,ne,nf,d⟩:=I.pin p hp
     refine⟨(hs.2 p.1 ?_).trans e,n,ne,nf,d⟩
     intro q
     rw[q,hoc]at e
     have q':oc=p.2:=Option.some.inj e
     exact d w' (by rw[<-q'];exact hocd)
theorem zq {M:Model} {A:Around} {E:Value->Shared->Prop} {i:Nat} {x:Str} {v:V} {u:Value} {Q:Unit->Shared->Prop} (I:qx X pins σ H s) (hN:X.N.Nodup) (hi:X.N[i]?=some x) (hx:xy X.env.scope x) (r:qQ v u)
   (h:∀s',qx X pins (σ.set i (some v)) H s'->Q () s') (hf:X.fn x=true\/X.env.scope.names.lookup x=some .local:=by first | exact .inl rfl | exact .inr rfl | assumption):wpAny M A (storeName X.env x u) Q E s:=
 Zy I hN hi hx r (λs' I' _=>h s' I') hf
theorem qx.call' {s':Shared} {ch:List Addr} (I:qx X pins σ H s) (ho:s'.os=s.os) (u:Un (ZW X.stack) ch H H' s.heap s'.heap) (hok:Jh X.prog X.w H' s'.heap) (hg:AllBare s'.gens)
   (hch:∀b∈ch,(b∈X.ex\/X.s₀.heap.objs.size<=b)/\b≠X.env.locals/\(∀x c,X.env.cells.lookup x=some c->c≠b)/\∀p∈X.pn++pins,p.1≠b):qx X pins σ H' s':=by
 obtain⟨h',g',d',t',o'⟩:=s'
 have e:o'=s.os:=ho
 subst e
 exact I.call (g':=g') (t':=t') (d':=d') u hok hg hch
end
abbrev XK:=Value->Option Addr->Hp->Prop
abbrev St:=List (Option V)
abbrev VK:=V->Hp->Prop
abbrev TE:=St->Hp->VK->Prop
abbrev TT:=St->Hp->(Bool->Hp->Prop)->Prop
abbrev TA:=St->Hp->(List V->Hp->Prop)->Prop
structure QX where
 nx:St->Hp->Prop
 rt:VK
 bk:St->Hp->Prop:=λ_ _=>False
 ct:St->Hp->Prop:=λ_ _=>False
abbrev TS:=QX->St->Hp->Prop
def EP (X:Cx) (pins:List (Addr×Obj)) (σ:St) (Q:VK) (u:Value) (s':Shared):Prop:=∃v H',qx X pins σ H' s'/\qQ v u/\Q v H'
def TP (X:Cx) (pins:List (Addr×Obj)) (σ:St) (Q:Bool->Hp->Prop) (b:Bool) (s':Shared):Prop:=∃H',qx X pins σ H' s'/\Q b H'
def AP (X:Cx) (pins:List (Addr×Obj)) (σ:St) (Q:List V->Hp->Prop) (us:List Value) (s':Shared):Prop:=∃vs H',qx X pins σ H' s'/\qI vs us/\Q vs H'
def SP (X:Cx) (pins:List (Addr×Obj)) (D:QX) (f:Flow) (s':Shared):Prop:=
 match f with
 | .next=>∃σ' H',qx X pins σ' H' s'/\D.nx σ' H'
 | .brk=>∃σ' H',qx X pins σ' H' s'/\D.bk σ' H'
 | .cont=>∃σ' H',qx X pins σ' H' s'/\D.ct σ' H'
 | .ret u=>∃v σ' H',qx X pins σ' H' s'/\qQ v u/\D.rt v H'
def PE (X:Cx) (e:Expr) (t:TE):Prop:=
 ∀(pins:List (Addr×Obj)) (s:Shared) (σ:St) (H:Hp) (Q:VK),qx X pins σ H s->t σ H Q->wpAny (model X.prog X.w) X.A (eval e X.env) (EP X pins σ Q) X.xe s
@[irreducible] def JE (X:Cx) (e:Expr) (t:TE):Prop:=PE X e t
theorem JE.of {X:Cx} {e:Expr} {t:TE} (h:PE X e t):JE X e t:=by unfold JE;exact h
theorem JE.to {X:Cx} {e:Expr} {t:TE} (h:JE X e t):PE X e t:=by unfold JE at h;exact h
def PT (X:Cx) (e:Expr) (t:TT):Prop:=
 ∀(pins:List (Addr×Obj)) (s:Shared) (σ:St) (H:Hp) (Q:Bool->Hp->Prop),qx X pins σ H s->t σ H Q->wpAny (model X.prog X.w) X.A (isTrue e X.env (eval e X.env)) (TP X pins σ Q) X.xe s
@[irreducible] def JT (X:Cx) (e:Expr) (t:TT):Prop:=PT X e t
theorem JT.of {X:Cx} {e:Expr} {t:TT} (h:PT X e t):JT X e t:=by unfold JT;exact h
theorem JT.to {X:Cx} {e:Expr} {t:TT} (h:JT X e t):PT X e t:=by unfold JT at h;exact h
def PW (X:Cx) (e:Expr) (t:TT):Prop:=
 ∀(whole:Sem Value) (pins:List (Addr×Obj)) (s:Shared) (σ:St) (H:Hp) (Q:Bool->Hp->Prop),qx X pins σ H s->t σ H Q->wpAny (model X.prog X.w) X.A (isTrue e X.env whole) (TP X pins σ Q) X.xe s
theorem PW.pt {X:Cx} {e:Expr} {t:TT} (h:PW X e t):PT X e t:=h _
@[irreducible] def JW (X:Cx) (e:Expr) (t:TT):Prop:=PW X e t
theorem JW.of {X:Cx} {e:Expr} {t:TT} (h:PW X e t):JW X e t:=by unfold JW;exact h
theorem JW.to {X:Cx} {e:Expr} {t:TT} (h:JW X e t):PW X e t:=by unfold JW at h;exact h
theorem JW.pt {X:Cx} {e:Expr} {t:TT} (h:JW X e t):JT X e t:=.of h.to.pt
def PA (X:Cx) (es:List Expr) (t:TA):Prop:=
 ∀(pos:Pos) (pins:List (Addr×Obj)) (s:Shared) (σ:St) (H:Hp) (Q:List V->Hp->Prop),qx X pins σ H s->t σ H Q->wpAny (model X.prog X.w) X.A (spliced (backTo pos (starEach es X.env))) (AP X pins σ Q) X.xe s
@[irreducible] def JA (X:Cx) (es:List Expr) (t:TA):Prop:=PA X es t
theorem JA.of {X:Cx} {es:List Expr} {t:TA} (h:PA X es t):JA X es t:=by unfold JA;exact h
theorem JA.to {X:Cx} {es:List Expr} {t:TA} (h:JA X es t):PA X es t:=by unfold JA at h;exact h
def PS (X:Cx) (st:Stmt) (t:TS):Prop:=
 ∀(pins:List (Addr×Obj)) (s:Shared) (σ:St) (H:Hp) (D:QX),qx X pins σ H s->t D σ H->wpAny (model X.prog X.w) X.A (exec st X.env) (SP X pins D) X.xe s
@[irreducible] def JS (X:Cx) (st:Stmt) (t:TS):Prop:=PS X st t
theorem JS.of {X:Cx} {st:Stmt} {t:TS} (h:PS X st t):JS X st t:=by unfold JS;exact h
theorem JS.to {X:Cx} {st:Stmt} {t:TS} (h:JS X st t):PS X st t:=by unfold JS at h;exact h
def kN (X:Cx) (st:List Stmt) (t:TS):Prop:=
 ∀(pins:List (Addr×Obj)) (s:Shared) (σ:St) (H:Hp) (D:QX),qx X pins σ H s->t D σ H->wpAny (model X.prog X.w) X.A (execs st X.env) (SP X pins D) X.xe s
@[irreducible] def YB (X:Cx) (st:List Stmt) (t:TS):Prop:=kN X st t
theorem YB.of {X:Cx} {st:List Stmt} {t:TS} (h:kN X st t):YB X st t:=by unfold YB;exact h
theorem YB.to {X:Cx} {st:List Stmt} {t:TS} (h:YB X st t):kN X st t:=by unfold YB at h;exact h
theorem ja {α:Type} {t:Sem α} {Q Q':α->Shared->Prop} {M:Model} {A:Around} {E:Value->Shared->Prop} {s:Shared} (h:wpAny M A t Q E s) (hQ:∀a s,Q a s->Q' a s):wpAny M A t Q' E s:=wpAny_mono h hQ λ_ _ x=>x
end L2
namespace L2
open PySem PySem.Spec PyProof.Rows
section
variable {X:Cx}
def qZ (i:Nat):TE:=λσ H Q=>∃v,σ[i]?=some (some v)/\Q v H
def tC (v:V):TE:=λ_ H Q=>Q v H
theorem xV {i:Nat} {x:Str} {pos:Pos} (hN:X.N[i]?=some x) (hv:wP X.env.scope x) (hd:(x==("__debug__":Str))=false:=by decide) (hcd:(x==("__classdict__":Str))=false:=by decide):PE X (.Name x pos) (qZ i):=by
 intro pins s σ H Q I h
 obtain⟨v,e,h⟩:=h
 obtain⟨m,hn,hl⟩:=I.loc
 obtain⟨u,r,l⟩:=hl i x v hN e hv
 have fin:EP X pins σ Q u s:=⟨v,H,I,r,h⟩
 rcases l with ⟨hk,hm⟩ | ⟨hk,c,hc,hcell⟩
 . exact wpAny_Name (wpAny_loadName_local I.ok.kind hk hn hm fin) hd
 . rcases hk with hk | hk
   . exact wpAny_Name (wpAny_loadName_cell I.ok.kind hk hc hcell fin) hd
   . exact wpAny_Name (wpAny_loadName_free I.ok.kind hk hc hcell fin hcd) hd
theorem qj {i j pos}:JE X (.Constant (.int i) j pos) (tC (.int i)):=.of (by
 exact λ_ _ _ H _ I h=>wpAny_Constant_int ⟨.int i,H,I.tok _,⟨_,rfl⟩,h⟩)
theorem je {b j pos}:JE X (.Constant (.bool b) j pos) (tC (.bl b)):=.of (by
 exact λ_ _ _ H _ I h=>Constant_bool ⟨.bl b,H,I,rfl,h⟩)
theorem zM {j pos}:JE X (.Constant .none j pos) (tC .non):=.of (by
 exact λ_ _ _ H _ I h=>Constant_none ⟨.non,H,I,rfl,h⟩)
theorem qE {x j pos}:JE X (.Constant (.str x) j pos) (tC (.str x)):=.of (by
 exact λ_ _ _ H _ I h=>Calls.Constant_str ⟨.str x,H,I.tok _,⟨_,rfl⟩,h⟩)
def Gl (X:Cx) (x:Str):Prop:=X.env.kindOf x=some .globalImplicit
theorem ze {E:Value->Shared->Prop} {pins:List (Addr×Obj)} {s:Shared} {σ:St} {H:Hp} {x:Str} {u:Value} {pos:Pos} {Q:Value->Shared->Prop} (I:qx X pins σ H s) (hg:Gl X x) (hm:X.mg x=some u) (h:Q u s)
   (hd:(x==("__debug__":Str))=false:=by decide):wpAny (model X.prog X.w) X.A (eval (.Name x pos) X.env) Q E s:=
 Calls.Name_function_global I.ok.kind hg (Calls.loadGlobal_global (by rw[I.ok.glob];exact I.mod.glob.keeps I.bk) hm h) hd
theorem QJ {E:Value->Shared->Prop} {pins:List (Addr×Obj)} {s:Shared} {σ:St} {H:Hp} {x:Str} {u:Value} {pos:Pos} {Q:Value->Shared->Prop} (I:qx X pins σ H s) (hg:Gl X x) (hm:X.mg x=none) (hv:bootBuiltins x=some u) (h:Q u s)
   (hn:x≠"__name__":=by decide) (hd:(x==("__debug__":Str))=false:=by decide):wpAny (model X.prog X.w) X.A (eval (.Name x pos) X.env) Q E s:=by
 obtain⟨mb,h1,h2⟩:=I.mod.blt
 exact Calls.Name_function_global I.ok.kind hg (Calls.loadGlobal_builtin (by rw[I.ok.glob];exact I.mod.glob.keeps I.bk) hm (by rw[I.ok.blt];exact h1.keeps I.bk) ((h2 x hn).trans hv) h) hd
theorem Vb {x:Str} {v:V} {u:Value} {pos:Pos} (hg:Gl X x) (hm:X.mg x=some u) (r:qQ v u) (hd:(x==("__debug__":Str))=false:=by decide):PE X (.Name x pos) (tC v):=
 λ_ _ _ H _ I h=>ze I hg hm ⟨v,H,I,r,h⟩ hd
theorem jg {x:Str} {v:V} {u:Value} {pos:Pos} (hg:Gl X x) (hm:X.mg x=some u) (r:qQ v u) (hd:(x==("__debug__":Str))=false:=by decide):JE X (.Name x pos) (tC v):=.of (Vb hg hm r hd)
theorem Qn {x:Str} {v:V} {u:Value} {pos:Pos} (hg:Gl X x) (hm:X.mg x=none) (hv:bootBuiltins x=some u) (r:qQ v u) (hn:x≠"__name__":=by decide) (hd:(x==("__debug__":Str))=false:=by decide):JE X (.Name x pos) (tC v):=.of (by
 exact λ_ _ _ H _ I h=>QJ I hg hm hv ⟨v,H,I,r,h⟩ hn hd)
variable {a b:Expr} {ta tb:TE} {pos:Pos}
def PC (X:Cx) (op:CmpOp) (a b:Expr) (t:TE):Prop:=
 ∀(pins:List (Addr×Obj)) (s:Shared) (σ:St) (H:Hp) (Q:VK),qx X pins σ H s->t σ H Q->
   wpAny (model X.prog X.w) X.A (eval a X.env) (λv s₁=>wpAny (model X.prog X.w) X.A (eval b X.env) (λu s₂=>wpAny (model X.prog X.w) X.A (compareOp op v u) (EP X pins σ Q) X.xe s₂) X.xe s₁) X.xe s
@[irreducible] def JC (X:Cx) (op:CmpOp) (a b:Expr) (t:TE):Prop:=PC X op a b t
theorem JC.of {X:Cx} {op:CmpOp} {a b:Expr} {t:TE} (h:PC X op a b t):JC X op a b t:=by unfold JC;exact h
theorem JC.to {X:Cx} {op:CmpOp} {a b:Expr} {t:TE} (h:JC X op a b t):PC X op a b t:=by unfold JC at h;exact h
def tB (t:TE):TT:=λσ H Q=>t σ H λx H1=>∃c,x=.bl c/\Q c H1
theorem YN {op:CmpOp} {t:TE} (h:JC X op a b t) (h1:behindInMarks op b=false:=by first | exact nobehind _ (by decide) (by decide) | rfl):JT X (.Compare a [op] [b] pos) (tB t):=.of (by
 have h:=h.to
 intro pins s σ H Q I hw
 refine wpAny_isTrue_Compare1 (ja (h pins s σ H _ I hw) λv s1 h1=>ja h1 λu s2 h2=>ja h2 λc s3 ⟨x,H1,I1,r1,q1⟩=>?_) h1
 obtain⟨d,rfl,q⟩:=q1
 cases r1
 exact wpAny_truthy_bool ⟨H1,I1,q⟩)
theorem QK {e:Expr} {t:TE} (h:JE X e t) (he:∀whole,isTrue e X.env whole=(do let v <-whole;standAt e.pos;holding [v] (truthy v)):=by intro _;rfl):JT X e (tB t):=.of (by
 have h:=h.to
 intro pins s σ H Q I hw
 refine isTrue_plain (ja (h pins s σ H _ I hw) λv s1 ⟨x,H1,I1,r1,q1⟩=>?_) (he _)
 obtain⟨d,rfl,q⟩:=q1
 cases r1
 exact wpAny_truthy_bool ⟨H1,I1,q⟩)
variable {tA tB':TT} {rest:List Expr}
def ud (t u:TT):TT:=λσ H Q=>t σ H λc H1=>if c=true then u σ H1 Q else Q false H1
def tOr (t u:TT):TT:=λσ H Q=>t σ H λc H1=>if c=true then Q true H1 else u σ H1 Q
def wX (t:TT):TT:=λσ H Q=>t σ H λc H1=>Q (!c) H1
theorem jZ (ha:JT X a tA):JW X (.BoolOp .And [a] pos) tA:=.of (by
 have ha:=ha.to
 intro wh pins s σ H Q I h
 refine isTrue_and (ja (ha pins s σ H Q I h) λc s1 e=>?_)
 cases c with
 | true=>exact isTrue_and_nil e
 | false=>exact e)
theorem Qs (ha:JT X a tA):JW X (.BoolOp .Or [a] pos) tA:=.of (by
 have ha:=ha.to
 intro wh pins s σ H Q I h
 refine isTrue_or (ja (ha pins s σ H Q I h) λc s1 e=>?_)
 cases c with
 | false=>exact isTrue_or_nil e
 | true=>exact e)
theorem Qk (ha:JT X a tA) (hb:JW X (.BoolOp .And (b::rest) pos) tB'):JW X (.BoolOp .And (a::b::rest) pos) (ud tA tB'):=.of (by
 have ha:=ha.to
 have hb:=hb.to
 intro wh pins s σ H Q I h
 refine isTrue_and (ja (ha pins s σ H _ I h) λc s1 ⟨H1,I1,q1⟩=>?_)
 cases c with
 | true=>exact hb wh pins s1 σ H1 Q I1 q1
 | false=>exact⟨H1,I1,q1⟩)
theorem Jr (ha:JT X a tA) (hb:JW X (.BoolOp .Or (b::rest) pos) tB'):JW X (.BoolOp .Or (a::b::rest) pos) (tOr tA tB'):=.of (by
 have ha:=ha.to
 have hb:=hb.to
 intro wh pins s σ H Q I h
 refine isTrue_or (ja (ha pins s σ H _ I h) λc s1 ⟨H1,I1,q1⟩=>?_)
 cases c with
 | true=>exact⟨H1,I1,q1⟩
 | false=>exact hb wh pins s1 σ H1 Q I1 q1)
theorem Js (ha:JT X a tA):JT X (.UnaryOp .Not a pos) (wX tA):=.of (by
 have ha:=ha.to
 intro pins s σ H Q I h
 exact isTrue_not (ha pins s σ H (λc H1=>Q (!c) H1) I h))
def Xo (ta tb:TE):TE:=λσ H Q=>ta σ H λx H1=>∃c,x=.bl c/\if c=true then tb σ H1 Q else Q (.bl false) H1
def WT (ta:TE):TE:=λσ H Q=>ta σ H λx H1=>∃c,x=.bl c/\Q (.bl (!c)) H1
theorem Jt {op} {t:TE} (h:JE X a t):JE X (.BoolOp op [a] pos) t:=.of (by
 have h:=h.to
 exact λpins s σ H Q I hw=>BoolOp_one (h pins s σ H Q I hw))
theorem Ju (ha:JE X a ta) (hb:JE X (.BoolOp .And (b::rest) pos) tb):JE X (.BoolOp .And (a::b::rest) pos) (Xo ta tb):=.of (by
 have ha:=ha.to
 have hb:=hb.to
 intro pins s σ H Q I h
 refine BoolOp_and (ja (ha pins s σ H _ I h) λv s1 ⟨x,H1,I1,r1,q1⟩=>?_)
 obtain⟨c,rfl,q1⟩:=q1
 cases r1
 refine wpAny_truthy_bool ?_
 cases c with
 | true=>exact hb pins s1 σ H1 Q I1 q1
 | false=>exact⟨.bl false,H1,I1,rfl,q1⟩)
theorem Wr (ha:JE X a ta):JE X (.UnaryOp .Not a pos) (WT ta):=.of (by
 have ha:=ha.to
 intro pins s σ H Q I h
 refine UnaryOp_ (ja (ha pins s σ H _ I h) λv s1 ⟨x,H1,I1,r1,q1⟩=>?_)
 obtain⟨c,rfl,q1⟩:=q1
 cases r1
 exact not_of (wpAny_truthy_bool ⟨.bl (!c),H1,I1,rfl,q1⟩))
end
end L2
namespace L2
open PySem PySem.Spec PyProof.Rows
def SqL (K:PySem.W.Frag) (H:Hp) (a:Addr) (xs:List V):Prop:=
 Rd H a (.lst xs)\/
   ∃(o:Obj) (its:Array Value) (n:Nat),K.lookup a=some o/\o.cls=.type "list"/\o.dict=none/\o.data=.seq its n/\its.size<=sizeLine/\qI xs its.toList
def SqT (K:PySem.W.Frag) (H:Hp) (a:Addr) (xs:List V):Prop:=
 Rd H a (.tup xs)\/
   ∃(o:Obj) (its:Array Value) (n:Nat),K.lookup a=some o/\o.cls=.type "tuple"/\o.data=.seq its n/\its.size<=sizeLine/\qI xs its.toList
def Gq:Value->Option V
 | .none=>some .non
 | .bool b=>some (.bl b)
 | .int i _=>some (.int i)
 | .str x _=>some (.str x)
 | .bytes b _=>some (.byt b)
 | .float b _=>some (.flt b)
 | .ref a=>some (.ref a)
 | .type n=>some (.ty n)
 | _=>none
theorem qQ.abs {x:V} {u:Value} (r:qQ x u):Gq u=some x:=by
 cases x with
 | non=>cases r;rfl
 | bl _=>cases r;rfl
 | int _=>obtain⟨t,rfl⟩:=r;rfl
 | str _=>obtain⟨t,rfl⟩:=r;rfl
 | byt _=>obtain⟨t,rfl⟩:=r;rfl
 | flt _=>obtain⟨t,rfl⟩:=r;rfl
 | ref _=>cases r;rfl
 | ty _=>cases r;rfl
theorem qQ.inj {x y:V} {u:Value} (r:qQ x u) (q:qQ y u):x=y:=Option.some.inj (r.abs.symm.trans q.abs)
theorem qI.inj:∀{xs ys:List V} {us:List Value},qI xs us->qI ys us->xs=ys
 | _,_,_,.nil,.nil=>rfl
 | _,_,_,.cons r t,.cons r' t'=>by rw[r.inj r',qI.inj t t']
section
variable {X:Cx} {pins:List (Addr×Obj)} {σ:St} {H:Hp} {s:Shared} {a:Addr} {xs ys:List V}
theorem SqL.of {K:PySem.W.Frag} (h:H a=some (.lst xs)):SqL K H a xs:=.inl (.inl h)
theorem SqT.of {K:PySem.W.Frag} (h:H a=some (.tup xs)):SqT K H a xs:=.inl (.inl h)
theorem qx.list (I:qx X pins σ H s) (h:SqL X.K H a xs):∃its:List Value,qI xs its/\PlainL s.heap a its.toArray/\xs.length<=sizeLine:=by
 rcases h with h | ⟨o,its,n,hk,hc,hd,hs,hz,r⟩
 . obtain⟨z,its,n,r,e⟩:=h.ok I.hok
   exact⟨its,r,⟨_,n,e,rfl,rfl,rfl⟩,z⟩
 . refine⟨its.toList,r,⟨o,n,I.kIn a o hk,hc,hd,by simpa using hs⟩,?_⟩
   have e:=r.length
   simp only[Array.length_toList]at e
   omega
theorem qx.tuple (I:qx X pins σ H s) (h:SqT X.K H a xs):∃its:List Value,qI xs its/\IsTup s.heap a its.toArray/\xs.length<=sizeLine:=by
 rcases h with h | ⟨o,its,n,hk,hc,hs,hz,r⟩
 . obtain⟨z,its,r,p⟩:=h.ok I.hok
   exact⟨its,r,p,z⟩
 . refine⟨its.toList,r,⟨o,I.kIn a o hk,hc,n,by simpa using hs⟩,?_⟩
   have e:=r.length
   simp only[Array.length_toList]at e
   omega
theorem qx.list_inj (I:qx X pins σ H s) (h:SqL X.K H a xs) (h':SqL X.K H a ys):xs=ys:=by
 obtain⟨its,r,⟨o,n,e,_,_,d⟩,_⟩:=I.list h
 obtain⟨its',r',⟨o',n',e',_,_,d'⟩,_⟩:=I.list h'
 rw[e]at e';cases e'
 rw[d]at d'
 injection d' with d1 _
 have:its=its':=by simpa using congrArg Array.toList d1
 subst this
 exact r.inj r'
theorem qx.tuple_inj (I:qx X pins σ H s) (h:SqT X.K H a xs) (h':SqT X.K H a ys):xs=ys:=by
 obtain⟨its,r,⟨o,e,_,n,d⟩,_⟩:=I.tuple h
 obtain⟨its',r',⟨o',e',_,n',d'⟩,_⟩:=I.tuple h'
 rw[e]at e';cases e'
 rw[d]at d'
 injection d' with d1 _
 have:its=its':=by simpa using congrArg Array.toList d1
 subst this
 exact r.inj r'
end
abbrev Cx.wish (X:Cx) (E:Value->Shared->Prop):Cx:={X with xe:=E}
abbrev Cx.nox (X:Cx):Cx:=X.wish λ_ _=>False
theorem Cx.Ok.wish {X:Cx} (ok:X.Ok) (E:Value->Shared->Prop):(X.wish E).Ok:=
 ⟨ok.mod,ok.kind,ok.glob,ok.blt,ok.above,ok.inj,ok.has,ok.cab,ok.hd,ok.frames,ok.stk,ok.exf,ok.bs,ok.bsz,ok.noex,ok.exfs,ok.funs,ok.frf⟩
theorem Cx.Ok.unwish {X:Cx} {E:Value->Shared->Prop} (ok:(X.wish E).Ok):X.Ok:=
 ⟨ok.mod,ok.kind,ok.glob,ok.blt,ok.above,ok.inj,ok.has,ok.cab,ok.hd,ok.frames,ok.stk,ok.exf,ok.bs,ok.bsz,ok.noex,ok.exfs,ok.funs,ok.frf⟩
section
variable {X:Cx} {pins:List (Addr×Obj)} {σ:St} {H:Hp} {s:Shared} {E:Value->Shared->Prop}
theorem qx.wish (I:qx X pins σ H s) (E:Value->Shared->Prop):qx (X.wish E) pins σ H s:=⟨I.ok.wish E,I.os,I.bare,I.base,I.loc,I.cell,I.free,I.freeC,I.pin,I.hok,I.len⟩
theorem qx.unwish (I:qx (X.wish E) pins σ H s):qx X pins σ H s:=⟨I.ok.unwish,I.os,I.bare,I.base,I.loc,I.cell,I.free,I.freeC,I.pin,I.hok,I.len⟩
theorem SP.unwish {D:QX} {f:Flow} {s':Shared} (h:SP (X.wish E) pins D f s'):SP X pins D f s':=by
 cases f with
 | next=>obtain⟨σ',H',I,q⟩:=h;exact⟨σ',H',I.unwish,q⟩
 | brk=>obtain⟨σ',H',I,q⟩:=h;exact⟨σ',H',I.unwish,q⟩
 | cont=>obtain⟨σ',H',I,q⟩:=h;exact⟨σ',H',I.unwish,q⟩
 | ret u=>obtain⟨v,σ',H',I,r,q⟩:=h;exact⟨v,σ',H',I.unwish,r,q⟩
theorem kN.nox {st:List Stmt} {t:TS} (h:kN X.nox st t):kN X st t:=λpins s σ H D I hw=>
 wpAny_mono (h pins s σ H D (I.wish _) hw) (λ_ _ q=>q.unwish) λ_ _ z=>False.elim z
end
section
variable {X:Cx} {st:Stmt} {rest:List Stmt} {t u:TS} {e:Expr} {te:TE} {pos:Pos}
def ZP:TS:=λD σ H=>D.nx σ H
def VR (t u:TS):TS:=λD σ H=>t {D with nx:=u D} σ H
theorem qD:YB X [] ZP:=.of (by
 exact λ_ _ σ H _ I h=>wpAny_execs_nil ⟨σ,H,I,h⟩)
theorem qh (h1:JS X st t) (h2:YB X rest u):YB X (st::rest) (VR t u):=.of (by
 have h1:=h1.to
 have h2:=h2.to
 intro pins s σ H D I h
 refine wpAny_execs_cons (ja (h1 pins s σ H {D with nx:=u D} I h) λf s1 q=>?_)
 cases f with
 | next=>
   obtain⟨σ',H',I',q⟩:=q
   exact h2 pins s1 σ' H' D I' q
 | ret v=>exact q
 | brk=>exact q
 | cont=>exact q)
theorem qk (h1:JS X st t):YB X [st] t:=.of (by
 have h1:=h1.to
 intro pins s σ H D I h
 refine wpAny_execs_cons (ja (h1 pins s σ H D I h) λf s1 q=>?_)
 cases f with
 | next=>exact wpAny_execs_nil q
 | ret v=>exact q
 | brk=>exact q
 | cont=>exact q)
theorem qx.quiet {pins:List (Addr×Obj)} {σ:St} {H:Hp} {s:Shared} (I:qx X pins σ H s):interactive X.env=false:=by simp [interactive,I.ok.kind]
def yY (te:TE):TS:=λD σ H=>te σ H λ_ H1=>D.nx σ H1
theorem jF (he:JE X e te) (hs:swapsWith e none pos.line X.env=pure false:=by rfl):JS X (.Expr e pos) (yY te):=.of (by
 have he:=he.to
 intro pins s σ H D I h
 exact wpAny_Expr_any (ja (he pins s σ H _ I h) λv s1 ⟨x,H1,I1,r1,q1⟩=>⟨σ,H1,I1,q1⟩) I.quiet hs)
def KL (te:TE):TS:=λD σ H=>te σ H D.rt
theorem qL (he:JE X e te):JS X (.Return (some e) pos) (KL te):=.of (by
 have he:=he.to
 intro pins s σ H D I h
 exact wpAny_Return_some (ja (he pins s σ H _ I h) λv s1 ⟨x,H1,I1,r1,q1⟩=>⟨x,σ,H1,I1,r1,q1⟩))
def Xk (c:TT) (t u:TS):TS:=λD σ H=>c σ H λb H1=>if b=true then t D σ H1 else u D σ H1
theorem qR {c:Expr} {a b:List Stmt} {tc:TT} (hc:JT X c tc) (ha:YB X a t) (hb:YB X b u):JS X (.If c a b pos) (Xk tc t u):=.of (by
 have hc:=hc.to
 have ha:=ha.to
 have hb:=hb.to
 intro pins s σ H D I h
 refine wpAny_If (ja (hc pins s σ H _ I h) λd s1 ⟨H1,I1,q1⟩=>?_)
 cases d with
 | true=>exact ha pins s1 σ H1 D I1 q1
 | false=>exact hb pins s1 σ H1 D I1 q1)
def xA:TS:=λ_ _ _=>False
theorem jh {sts:List Stmt}:YB X sts xA:=.of (by
 exact λ_ _ _ _ _ _ h=>h.elim)
end
abbrev TG:=V->St->Hp->(St->Hp->Prop)->Prop
abbrev UQ:=List V->St->Hp->(St->Hp->Prop)->Prop
def PG (X:Cx) (target:Expr) (t:TG):Prop:=
 ∀(pins:List (Addr×Obj)) (s:Shared) (σ:St) (H:Hp) (v:V) (u:Value) (Q:St->Hp->Prop),qx X pins σ H s->qQ v u->t v σ H Q->
   wpAny (model X.prog X.w) X.A (assign target X.env u) (λ_ s'=>∃σ' H',qx X pins σ' H' s'/\Q σ' H') X.xe s
@[irreducible] def JG (X:Cx) (target:Expr) (t:TG):Prop:=PG X target t
theorem JG.of {X:Cx} {target:Expr} {t:TG} (h:PG X target t):JG X target t:=by unfold JG;exact h
theorem JG.to {X:Cx} {target:Expr} {t:TG} (h:JG X target t):PG X target t:=by unfold JG at h;exact h
def Gs (X:Cx) (ts:List Expr) (t:UQ):Prop:=
 ∀(pins:List (Addr×Obj)) (s:Shared) (σ:St) (H:Hp) (vs:List V) (us:List Value) (Q:St->Hp->Prop),qx X pins σ H s->qI vs us->t vs σ H Q->
   wpAny (model X.prog X.w) X.A (assignInOrder ((assignEach ts X.env).map (·.2)) us) (λ_ s'=>∃σ' H',qx X pins σ' H' s'/\Q σ' H') X.xe s
@[irreducible] def kJ (X:Cx) (ts:List Expr) (t:UQ):Prop:=Gs X ts t
theorem kJ.of {X:Cx} {ts:List Expr} {t:UQ} (h:Gs X ts t):kJ X ts t:=by unfold kJ;exact h
theorem kJ.to {X:Cx} {ts:List Expr} {t:UQ} (h:kJ X ts t):Gs X ts t:=by unfold kJ at h;exact h
abbrev yQ:=V->V->V->Hp->(Hp->Prop)->Prop
def wH (X:Cx) (t:yQ):Prop:=
 ∀(pins:List (Addr×Obj)) (s:Shared) (σ:St) (H:Hp) (o i v:V) (ov iv u:Value) (Q:Hp->Prop),qx X pins σ H s->qQ o ov->qQ i iv->qQ v u->t o i v H Q->
   wpAny (model X.prog X.w) X.A (setItem ov iv u) (λ_ s'=>∃H',qx X pins σ H' s'/\Q H') X.xe s
section
variable {X:Cx} {pos:Pos}
def jH (i:Nat):TG:=λv σ H Q=>Q (σ.set i (some v)) H
theorem qr {i:Nat} {x:Str} (hN:X.N.Nodup) (hi:X.N[i]?=some x) (hx:xy X.env.scope x) (hf:X.fn x=true\/X.env.scope.names.lookup x=some .local:=by first | exact .inl rfl | exact .inr rfl | assumption):JG X (.Name x pos) (jH i):=.of (by
 intro pins s σ H v u Q I r h
 exact wpAny_assign_Name (zq I hN hi hx r (λs' I'=>⟨_,H,I',h⟩) hf))
def kq:UQ:=λvs σ H Q=>vs=[]/\Q σ H
def Zp (t:TG) (u:UQ):UQ:=λvs σ H Q=>∃v r,vs=v::r/\t v σ H λσ' H'=>u r σ' H' Q
theorem js:kJ X [] kq:=.of (by
 intro pins s σ H vs us Q I r h
 obtain⟨e,h⟩:=h
 subst e
 cases r
 exact assignInOrder_nil ⟨σ,H,I,h⟩)
theorem qF {e:Expr} {es:List Expr} {t:TG} {u:UQ} (h1:JG X e t) (h2:kJ X es u) (hs:(assignEach (e::es) X.env).map (·.2)=assign e X.env::(assignEach es X.env).map (·.2):=by rfl):kJ X (e::es) (Zp t u):=.of (by
 have h1:=h1.to
 have h2:=h2.to
 intro pins s σ H vs us Q I r h
 obtain⟨v,vr,e1,h⟩:=h
 subst e1
 cases r with
 | cons r rr=>
   rw[hs]
   refine assignInOrder_cons (ja (h1 pins s σ H _ _ _ I r h) λ_ s1 ⟨σ1,H1,I1,q1⟩=>?_)
   exact h2 pins s1 σ1 H1 _ _ Q I1 rr q1)
def ko (K:PySem.W.Frag) (n:Nat) (t:UQ):TG:=λv σ H Q=>∃a xs,v=.ref a/\SqT K H a xs/\xs.length=n/\t xs σ H Q
theorem Q9 {es:List Expr} {k:Nat} {t:UQ} {n:Nat} (hc:X.calm=true) (h:kJ X es t) (hn:(assignEach es X.env).length=n:=by rfl) (hst:(assignEach es X.env).findIdx? (·.1)=none:=by rfl):JG X (.Tuple es k pos) (ko X.K n t):=.of (by
 have h:=h.to
 intro pins s σ H v u Q I r hw
 obtain⟨a,xs,e1,hq,hl,hw⟩:=hw
 subst e1
 cases r
 obtain⟨its,rv,ht,hz⟩:=I.tuple hq
 refine assign_Tuple_tuple (I.ok.hd hc) ht (by simp [hn,<-hl,rv.length]) hst λh' hx=>?_
 have I1:qx X pins σ H {s with heap:=h'}:=I.kept (t':=s.toks) λb o e=>hx b o (Nat.ne_of_lt (Heap.lt_size e)) e
 exact h pins _ σ H xs _ Q I1 (by simpa using rv) hw)
def Ke (to ti:TE) (t:yQ):TG:=λv σ H Q=>to σ H λo H1=>ti σ H1 λi H2=>t o i v H2 λH3=>Q σ H3
theorem xU {o i:Expr} {to ti:TE} {t:yQ} (ho:PE X o to) (hi:PE X i ti) (hs:wH X t)
   (ha:∀v,assign (.Subscript o i pos) X.env v=(do
     let ov <-holding [v] (eval o X.env)
     let iv <-holding [v,ov] (eval i X.env)
     standAt pos
     holding [v,ov,iv] (setItem ov iv v)
     release [v,ov,iv] []):=by intro _;rfl):PG X (.Subscript o i pos) (Ke to ti t):=by
 intro pins s σ H v u Q I r h
 rw[ha]
 refine wpAny_bind (wpAny_holding (ja (ho pins s σ H _ I h) λov s1 ⟨x,H1,I1,r1,q1⟩=>?_))
 refine wpAny_bind (wpAny_holding (ja (hi pins s1 σ H1 _ I1 q1) λiv s2 ⟨y,H2,I2,r2,q2⟩=>?_))
 refine wpAny_bind (wpAny_standAt (wpAny_bind (wpAny_holding (ja (hs pins s2 σ H2 x y v ov iv u _ I2 r1 r2 r q2) λ_ s3 ⟨H3,I3,q3⟩=>?_))))
 exact wpAny_release ⟨σ,H3,I3,q3⟩
theorem Zd {o i:Expr} {to ti:TE} {t:yQ} (ho:JE X o to) (hi:JE X i ti) (hs:wH X t) (ha:∀v,assign (.Subscript o i pos) X.env v=(do
     let ov <-holding [v] (eval o X.env)
     let iv <-holding [v,ov] (eval i X.env)
     standAt pos
     holding [v,ov,iv] (setItem ov iv v)
     release [v,ov,iv] []):=by intro _;rfl):JG X (.Subscript o i pos) (Ke to ti t):=.of (xU ho.to hi.to hs ha)
def Xn (te:TE) (g:TG):TS:=λD σ H=>te σ H λx H1=>g x σ H1 D.nx
theorem jy {tg e:Expr} {te:TE} {g:TG} (he:JE X e te) (hg:JG X tg g) (hs:swapsWithSole [tg] e pos.line X.env=pure false:=by rfl) (hw:swappedStores [tg] e X.env=pure none:=by rfl) (h1:(assignEach [tg] X.env).map (·.2)=[assign tg X.env]:=by rfl):JS X (.Assign [tg] e pos) (Xn te g):=.of (by
 have he:=he.to
 have hg:=hg.to
 intro pins s σ H D I h
 refine wpAny_Assign_stores (ja (he pins s σ H _ I h) λv s1 ⟨x,H1,I1,r1,q1⟩=>?_) hs hw
 rw[h1]
 exact ja (hg pins s1 σ H1 x v _ I1 r1 q1) λ_ s2 q=>q)
theorem qB {i:Nat} {x:Str} {e:Expr} {te:TE} {pos':Pos} (hN:X.N.Nodup) (hi:X.N[i]?=some x) (hx:xy X.env.scope x) (he:JE X e te) (hs:swapsWith e (some (.Name x pos')) pos.line X.env=pure false:=by rfl) (hf:X.fn x=true\/X.env.scope.names.lookup x=some .local:=by first | exact .inl rfl | exact .inr rfl | assumption):JS X (.Assign [.Name x pos'] e pos) (Xn te (jH i)):=.of (by
 have he:=he.to
 intro pins s σ H D I h
 refine wpAny_Assign_Name (ja (he pins s σ H _ I h) λv s1 ⟨y,H1,I1,r1,q1⟩=>?_) hs
 exact zq I1 hN hi hx r1 (λs2 I2=>⟨_,H1,I2,q1⟩) hf)
end
section
variable {X:Cx} {pos:Pos}
end
structure It where
 go:Nat->Hp->Prop
 yld:Nat->Hp->V->Hp->Prop
 stop:Nat->Hp->Prop
def QW (X:Cx) (pins:List (Addr×Obj)) (H:Hp) (b:Addr):Prop:=
 H b=none/\b≠X.env.locals/\b∉X.fs/\(b∈X.ex\/X.s₀.heap.objs.size<=b)/\(∀x c,X.env.cells.lookup x=some c->c≠b)/\∀p∈X.pn++pins,p.1≠b
theorem qx.fpOk {X:Cx} {pins:List (Addr×Obj)} {σ:St} {H H':Hp} {s:Shared} {b:Addr} (I:qx X pins σ H s) (hb:s.heap.objs.size<=b) (hn:H' b=none):QW X pins H' b:=by
 refine⟨hn,Nat.ne_of_gt (Nat.lt_of_lt_of_le I.lt hb),I.nofs hb,.inr (Nat.le_trans I.sz hb),λx c e z=>?_,λp hp z=>?_⟩
 . obtain⟨v,q⟩:=I.cell x c e
   exact absurd (Nat.lt_of_lt_of_le q.lt (by rw[z];exact hb)) (Nat.lt_irrefl _)
 . exact absurd (Nat.lt_of_lt_of_le (Heap.lt_size (I.pin p hp).1) (by rw[z];exact hb)) (Nat.lt_irrefl _)
structure XU (P:Program) (w:World) (K:PySem.W.Frag) (tg:Expr) (J:It) (fp:List Addr) (it:Addr) (tn:Nat->Heap->Prop):Prop where
 mem:it∈fp
 obj:∀i h,tn i h->∀b∈fp,∃o,h.get? b=some o/\∀v,o.data≠.cell v
 keep:∀i h h',tn i h->(∀b∈fp,∀o,h.get? b=some o->h'.get? b=some o)->tn i h'
 item:∀(X:Cx),X.prog=P->X.w=w->X.K=K->X.calm=true->∀(i:Nat) (pins:List (Addr×Obj)) (s:Shared) (σ:St) (H:Hp) (E:Value->Shared->Prop),qx X pins σ H s->(∀b∈fp,QW X pins H b)->tn i s.heap->J.go i H->
   wpAny (model P w) X.A (pyNext (.ref it)) (λr s1=>∃u,r=some u/\
     wpAny (model P w) X.A (letOwnedTupleGo tg (.ref it) u) (λ_ s2=>∃x H',qx X pins σ H' s2/\qQ x u/\J.yld i H x H'/\tn (i+1) s2.heap/\∀b∈fp,H' b=none) E s1) E s
 done:∀(X:Cx),X.prog=P->X.w=w->X.K=K->X.calm=true->∀(i:Nat) (pins:List (Addr×Obj)) (s:Shared) (σ:St) (H:Hp) (E:Value->Shared->Prop),qx X pins σ H s->(∀b∈fp,QW X pins H b)->tn i s.heap->J.stop i H->
   wpAny (model P w) X.A (pyNext (.ref it)) (λr s1=>r=none/\qx X pins σ H s1) E s
 self:∀(A:Around) (i:Nat) (s:Shared) (Q:Value->Shared->Prop) (E:Value->Shared->Prop),tn i s.heap->Q (.ref it) s->wpAny (model P w) A (pyIter (.ref it)) Q E s
abbrev TI:=St->Hp->(It->Hp->Prop)->Prop
def PIE (X:Cx) (pins:List (Addr×Obj)) (σ:St) (tg:Expr) (R:It->Hp->Prop) (itv:Value) (s2:Shared):Prop:=
 ∃(it:Addr) (fp:List Addr) (tn:Nat->Heap->Prop) (J:It) (H':Hp),itv=.ref it/\qx X pins σ H' s2/\XU X.prog X.w X.K tg J fp it tn/\tn 0 s2.heap/\(∀b∈fp,QW X pins H' b)/\R J H'
def PI (X:Cx) (tg iter:Expr) (wi:TI):Prop:=
 ∀(pins:List (Addr×Obj)) (s:Shared) (σ:St) (H:Hp) (R:It->Hp->Prop),qx X pins σ H s->wi σ H R->
   wpAny (model X.prog X.w) X.A (eval iter X.env) (λv s1=>wpAny (model X.prog X.w) X.A (pyIter v) (PIE X pins σ tg R) X.xe s1) X.xe s
@[irreducible] def JI (X:Cx) (tg iter:Expr) (wi:TI):Prop:=PI X tg iter wi
theorem JI.of {X:Cx} {tg iter:Expr} {wi:TI} (h:PI X tg iter wi):JI X tg iter wi:=by unfold JI;exact h
theorem JI.to {X:Cx} {tg iter:Expr} {wi:TI} (h:JI X tg iter wi):PI X tg iter wi:=by unfold JI at h;exact h
theorem Vr {M:Model} {A:Around} {E:Value->Shared->Prop} {s:Shared} {tg:Expr} {it:Addr} {u:Value} {o:Obj} {n:String} {vs:Array Value} {Q:Unit->Shared->Prop} (ho:s.heap.get? it=some o) (hc:o.cls=.type n) (hd:o.data=.fields vs)
   (hn:["enumerate","zip","dict_itemiterator","dict_reverseitemiterator","odict_iterator","itertools.zip_longest","itertools.pairwise"].contains n=false) (hQ:Q () s):wpAny M A (letOwnedTupleGo tg (.ref it) u) Q E s:=by
 unfold letOwnedTupleGo
 cases tg<;>first
   | exact wpAny_pure hQ
   | (cases u<;>first
       | exact wpAny_pure hQ
       | (refine wpAny_bind (wpAny_load ho ?_)
          rw[hc,hd]
          show wpAny M A (if (["enumerate","zip","dict_itemiterator","dict_reverseitemiterator","odict_iterator","itertools.zip_longest","itertools.pairwise"].contains n&&vs[0]?==some (rawInt _))=true then _ else _) Q E s
          rw[if_neg (by intro h;rw[hn,Bool.false_and]at h;cases h)]
          exact wpAny_pure hQ))
def wT (K:PySem.W.Frag) (a:Addr):It:=
 ⟨λi H=>∃xs x,SqL K H a xs/\xs[i]?=some x,λi H x H'=>H'=H/\∀xs,SqL K H a xs->xs[i]?=some x,λi H=>∃xs,SqL K H a xs/\xs.length<=i⟩
def wS (K:PySem.W.Frag) (a:Addr):It:=
 ⟨λi H=>∃xs x,SqT K H a xs/\xs[i]?=some x,λi H x H'=>H'=H/\∀xs,SqT K H a xs->xs[i]?=some x,λi H=>∃xs,SqT K H a xs/\xs.length<=i⟩
def wK (lo:Int) (n:Nat):It:=⟨λi _=>i < n,λi H x H'=>H'=H/\x=.int (lo+i),λi _=>n<=i⟩
theorem VN {P:Program} {w:World} {K:PySem.W.Frag} {tg:Expr} (a it:Addr):XU P w K tg (wT K a) [it] it (λi h=>h.IsListIter it a i) where
 mem:=by simp
 obj:=λi h st b hb=>by
   have e:b=it:=by simpa using hb
   subst e
   obtain⟨o,e,c,d⟩:=st
   exact⟨o,e,λv z=>by rw[d]at z;cases z⟩
 keep:=λi h h' st k=>st.at λo e=>k it (by simp) o e
 item:=by
   intro X hP hw hK hc i pins s σ H E I hf st hg
   subst hP hw hK
   obtain⟨xs,x,hq,hx⟩:=hg
   obtain⟨its,rv,p,hz⟩:=I.list hq
   obtain⟨u,hu,ru⟩:=rv.get hx
   obtain⟨f0,f1,f2,f3,f4,f5⟩:=hf it (by simp)
   refine wpAny_pyNext_list_item st p.isList (x:=u) (by simpa using hu) λh' st' sb=>?_
   have I1:qx X pins σ H {s with heap:=h'}:=I.turned (t':=s.toks) (λb o hb e=>(sb.2 b hb).trans e) f0 f1 f3 f4 f5
   obtain⟨o,e,c,d⟩:=id st'
   exact⟨u,rfl,Vr (s:={s with heap:=h'}) e c d (by decide) ⟨x,H,I1,ru,⟨rfl,λys hy=>by rw[I.list_inj hy hq];exact hx⟩,st',λb hb=>(hf b hb).1⟩⟩
 done:=by
   intro X hP hw hK hc i pins s σ H E I hf st hg
   subst hP hw hK
   obtain⟨xs,hq,hx⟩:=hg
   obtain⟨its,rv,p,hz⟩:=I.list hq
   obtain⟨f0,f1,f2,f3,f4,f5⟩:=hf it (by simp)
   have hl:=rv.length
   exact wpAny_pyNext_list_end (I.ok.hd hc) st p.isList (by simp;omega) λh' eb=>⟨rfl,I.turned (t':=s.toks) (λb o hb e=>eb b o hb e) f0 f1 f3 f4 f5⟩
 self:=λ_ _ _ _ _ st h=>wpAny_pyIter_listiter st h
theorem X2 {P:Program} {w:World} {K:PySem.W.Frag} {tg:Expr} (a it:Addr):XU P w K tg (wS K a) [it] it (λi h=>h.IsTupleIter it a i) where
 mem:=by simp
 obj:=λi h st b hb=>by
   have e:b=it:=by simpa using hb
   subst e
   obtain⟨o,e,c,d⟩:=st
   exact⟨o,e,λv z=>by rw[d]at z;cases z⟩
 keep:=λi h h' st k=>st.at λo e=>k it (by simp) o e
 item:=by
   intro X hP hw hK hc i pins s σ H E I hf st hg
   subst hP hw hK
   obtain⟨xs,x,hq,hx⟩:=hg
   obtain⟨its,rv,p,hz⟩:=I.tuple hq
   obtain⟨u,hu,ru⟩:=rv.get hx
   obtain⟨f0,f1,f2,f3,f4,f5⟩:=hf it (by simp)
   refine wpAny_pyNext_tuple_item st (show s.heap.IsTuple a its.toArray from p) (x:=u) (by simpa using hu) λh' st' sb=>?_
   have I1:qx X pins σ H {s with heap:=h'}:=I.turned (t':=s.toks) (λb o hb e=>(sb.2 b hb).trans e) f0 f1 f3 f4 f5
   obtain⟨o,e,c,d⟩:=id st'
   exact⟨u,rfl,Vr (s:={s with heap:=h'}) e c d (by decide) ⟨x,H,I1,ru,⟨rfl,λys hy=>by rw[I.tuple_inj hy hq];exact hx⟩,st',λb hb=>(hf b hb).1⟩⟩
 done:=by
   intro X hP hw hK hc i pins s σ H E I hf st hg
   subst hP hw hK
   obtain⟨xs,hq,hx⟩:=hg
   obtain⟨its,rv,p,hz⟩:=I.tuple hq
   obtain⟨f0,f1,f2,f3,f4,f5⟩:=hf it (by simp)
   have hl:=rv.length
   exact wpAny_pyNext_tuple_end (I.ok.hd hc) st (show s.heap.IsTuple a its.toArray from p) (by simp;omega) λh' eb=>⟨rfl,I.turned (t':=s.toks) (λb o hb e=>eb b o hb e) f0 f1 f3 f4 f5⟩
 self:=λ_ _ _ _ _ st h=>wpAny_pyIter_tupleiter st h
theorem X3 {P:Program} {w:World} {K:PySem.W.Frag} {tg:Expr} (it:Addr) (lo:Int) (n:Nat):XU P w K tg (wK lo n) [it] it (λi h=>IsRangeIter h it (lo+(i:Nat)*1) ((n:Int) - (i:Nat)) 1) where
 mem:=by simp
 obj:=λi h st b hb=>by
   have e:b=it:=by simpa using hb
   subst e
   exact⟨_,st,λv z=>by
     have z':Data.fields _=Data.cell v:=z
     cases z'⟩
 keep:=λi h h' st k=>k it (by simp) _ st
 item:=by
   intro X hP hw hK hc i pins s σ H E I hf st hg
   subst hP hw hK
   obtain⟨f0,f1,f2,f3,f4,f5⟩:=hf it (by simp)
   have W:=Walks.range (prog:=X.prog) (w:=X.w) (I.ok.hd hc) it lo 1 n
   refine W.item i s _ _ hg st λv h' tk hv st' kk=>?_
   obtain⟨t,rfl⟩:=hv
   have I1:qx X pins σ H {s with heap:=h',toks:=tk}:=I.turned (λb o hb e=>kk b o (by simpa using hb) e) f0 f1 f3 f4 f5
   refine⟨_,rfl,Vr (s:={s with heap:=h',toks:=tk}) (n:="range_iterator") st' rfl rfl (by decide) ⟨.int (lo+i),H,I1,⟨t,?_⟩,⟨rfl,rfl⟩,st',λb hb=>(hf b hb).1⟩⟩
   rw[Int.mul_one]
 done:=by
   intro X hP hw hK hc i pins s σ H E I hf st hg
   subst hP hw hK
   obtain⟨f0,f1,f2,f3,f4,f5⟩:=hf it (by simp)
   exact wpAny_pyNext_range_end (I.ok.hd hc) st (by have:n<=i:=hg;omega) λh' eb=>⟨rfl,I.turned (t':=s.toks) (λb o hb e=>eb b o hb e) f0 f1 f3 f4 f5⟩
 self:=λ_ _ _ _ _ st h=>wpAny_pyIter_rangeiter st h
end L2
namespace L2
open PySem PySem.Spec PyProof.Rows
section
variable {X:Cx} {tg:Expr}
def Vq (K:PySem.W.Frag) (tl:TE):TI:=λσ H R=>tl σ H λx H1=>∃a,x=.ref a/\(∃xs,SqL K H1 a xs)/\R (wT K a) H1
def Kb (K:PySem.W.Frag) (tl:TE):TI:=λσ H R=>tl σ H λx H1=>∃a,x=.ref a/\(∃xs,SqT K H1 a xs)/\R (wS K a) H1
theorem jf {l:Expr} {tl:TE} (hl:JE X l tl):JI X tg l (Vq X.K tl):=.of (by
 have hl:=hl.to
 intro pins s σ H R I h
 refine ja (hl pins s σ H _ I h) λv s1 ⟨x,H1,I1,r1,q1⟩=>?_
 obtain⟨a,e,⟨xs,hq⟩,q⟩:=q1
 subst e
 cases r1
 obtain⟨its,rv,p,hz⟩:=I1.list hq
 refine wpAny_pyIter_list p.isList ?_
 refine⟨s1.heap.objs.size,[s1.heap.objs.size],_,_,H1,rfl,I1.kept (t':=s1.toks) λb o e=>Heap.get?_push_of_some _ e,VN a _,⟨_,Heap.get?_push_size _ rfl,rfl,rfl⟩,λb hb=>?_,q⟩
 have e:b=s1.heap.objs.size:=by simpa using hb
 subst e
 exact I1.fpOk (Nat.le_refl _) (I1.hok.fresh (Nat.le_refl _)))
theorem zL {l:Expr} {tl:TE} (hl:JE X l tl):JI X tg l (Kb X.K tl):=.of (by
 have hl:=hl.to
 intro pins s σ H R I h
 refine ja (hl pins s σ H _ I h) λv s1 ⟨x,H1,I1,r1,q1⟩=>?_
 obtain⟨a,e,⟨xs,hq⟩,q⟩:=q1
 subst e
 cases r1
 obtain⟨its,rv,p,hz⟩:=I1.tuple hq
 refine wpAny_pyIter_tuple (show s1.heap.IsTuple a its.toArray from p) ?_
 refine⟨s1.heap.objs.size,[s1.heap.objs.size],_,_,H1,rfl,I1.kept (t':=s1.toks) λb o e=>Heap.get?_push_of_some _ e,X2 a _,⟨_,Heap.get?_push_size _ rfl,rfl,rfl⟩,λb hb=>?_,q⟩
 have e:b=s1.heap.objs.size:=by simpa using hb
 subst e
 exact I1.fpOk (Nat.le_refl _) (I1.hok.fresh (Nat.le_refl _)))
theorem vo {pins:List (Addr×Obj)} {σ:St} {H:Hp} {s:Shared} {R:It->Hp->Prop} {E:Value->Shared->Prop} {lo hi:Int} {t u v:Tok} {tk:Nat} (I:qx X pins σ H s) (h1:-(2^62)<=lo) (h2:lo < 2^62) (h3:-(2^62)<=hi) (h4:hi < 2^62)
   (q:R (wK lo (hi - lo).toNat) H):wpAny (model X.prog X.w) X.A (pyIter (.ref s.heap.objs.size)) (PIE X pins σ tg R) E {s with heap:=s.heap.push {cls:=.type "range",data:=.fields #[.int lo t,.int hi u,.int 1 v]},toks:=tk}:=by
 refine wpAny_pyIter_range (IsRange.new ..) (small_one h1 h2 h3 h4) ?_
 have I1:qx X pins σ H {s with heap:=s.heap.push {cls:=.type "range",data:=.fields #[.int lo t,.int hi u,.int 1 v]},toks:=tk}:=I.kept λb o e=>Heap.get?_push_of_some _ e
 refine⟨(s.heap.push {cls:=.type "range",data:=.fields #[.int lo t,.int hi u,.int 1 v]}).objs.size,[(s.heap.push {cls:=.type "range",data:=.fields #[.int lo t,.int hi u,.int 1 v]}).objs.size],_,_,H,rfl,
   I1.kept (t':=tk) λb o e=>Heap.get?_push_of_some _ e,X3 _ lo (hi - lo).toNat,?_,λb hb=>?_,q⟩
 . have e1:lo+((0:Nat):Int)*1=lo:=by simp
   have e2:(((hi - lo).toNat:Nat):Int) - ((0:Nat):Int)=Builtin.Range.rangeSize lo hi 1:=by rw[rangeSize_one];split<;>omega
   show IsRangeIter _ _ (lo+((0:Nat):Int)*1) ((((hi - lo).toNat:Nat):Int) - ((0:Nat):Int)) 1
   rw[e1,e2]
   exact Heap.get?_push_size _ rfl
 . have e:b=(s.heap.push {cls:=.type "range",data:=.fields #[.int lo t,.int hi u,.int 1 v]}).objs.size:=by simpa using hb
   subst e
   exact I1.fpOk (Nat.le_refl _) (I1.hok.fresh (Nat.le_refl _))
def Kc (ta:TA):TI:=λσ H R=>ta σ H λvs H1=>∃j:Int,vs=[.int j]/\-(2^62)<=j/\j < 2^62/\R (wK 0 j.toNat) H1
theorem jG {a:Expr} {ta:TA} {p pos:Pos} (hg:Gl X "range") (hm:X.mg "range"=none) (ha:JA X [a] ta) (hs:starEach [a] X.env=[(false,eval a X.env)]:=by rfl):JI X tg (.Call (.Name "range" p) [a] [] pos) (Kc ta):=.of (by
 have ha:=ha.to
 intro pins s σ H R I h
 refine Call_ (QJ I hg hm boot_range (PyProof.Rows.callWith_type1 (ja (ha pos pins s σ H _ I h) λus s1 ⟨vs,H1,I1,r1,q1⟩=>?_) hs rfl))
 obtain⟨j,e,q1,q2,q⟩:=q1
 subst e
 cases r1 with
 | cons r rr=>
   cases rr
   obtain⟨t,rfl⟩:=r
   exact call_range_1 (vo I1 (by omega) (by omega) q1 q2 (by simpa using q)))
def UW (wi:TI) (g:TG) (tb:TS):TS:=λD σ H=>wi σ H λJ H1=>∃W:Nat->Nat->St->Hp->Prop,(∃m,W 0 m σ H1)/\∀i m σ H,W i m σ H->
 (J.stop i H/\D.nx σ H)\/(J.go i H/\∃N:St->Hp->Prop,(∀σ' H',N σ' H'->∃m',m' < m/\W (i+1) m' σ' H')/\∀x H',J.yld i H x H'->g x σ H' λσ2 H2=>tb {D with nx:=N,ct:=N,bk:=D.nx} σ2 H2)
def ZE (fp:List Addr) (h:Heap):List (Addr×Obj):=fp.filterMap λb=>(h.get? b).map λo=>(b,o)
theorem j9 {fp:List Addr} {h:Heap} {b:Addr} {o:Obj} (hb:b∈fp) (e:h.get? b=some o):(b,o)∈ZE fp h:=List.mem_filterMap.mpr ⟨b,hb,by rw[e];rfl⟩
theorem Uh {fp:List Addr} {h:Heap} {p:Addr×Obj} (hp:p∈ZE fp h):p.1∈fp/\h.get? p.1=some p.2:=by
 obtain⟨b,hb,e⟩:=List.mem_filterMap.mp hp
 cases q:h.get? b with
 | none=>rw[q]at e;cases e
 | some o=>
   rw[q]at e
   have e':(b,o)=p:=Option.some.inj e
   subst e'
   exact⟨hb,q⟩
theorem qx.pinned {pins:List (Addr×Obj)} {σ:St} {H:Hp} {s:Shared} {fp:List Addr} (I:qx X pins σ H s) (hf:∀b∈fp,QW X pins H b) (ho:∀b∈fp,∃o,s.heap.get? b=some o/\∀v,o.data≠.cell v):qx X (pins++ZE fp s.heap) σ H s:=
 I.pins_of λp hp=>(List.mem_append.mp hp).elim (λz=>I.pin p (List.mem_append_right _ z)) λz=>by
   obtain⟨hb,e⟩:=Uh z
   obtain⟨f0,f1,f2,_⟩:=hf p.1 hb
   obtain⟨o,e',d⟩:=ho p.1 hb
   rw[e]at e';cases e'
   exact⟨e,f0,f1,f2,d⟩
theorem qx.unpinned {pins pl:List (Addr×Obj)} {σ:St} {H:Hp} {s:Shared} (I:qx X (pins++pl) σ H s):qx X pins σ H s:=I.pins_of λp hp=>I.pin p (List.mem_append_right _ (List.mem_append_left _ hp))
theorem jQ {iter:Expr} {body:List Stmt} {wi:TI} {g:TG} {tb:TS} {pos:Pos} (hp:PassesOwn (model X.prog X.w) X.A X.env X.xe) (hc:X.calm=true) (hi:JI X tg iter wi) (hg:JG X tg g) (hb:YB X body tb) (hs:∀x,foldedSetIterable iter X.env x=pure x:=by intro _;rfl):JS X (.For tg iter body [] pos) (UW wi g tb):=.of (by
 have hi:=hi.to
 have hg:=hg.to
 have hb:=hb.to
 intro pins s σ H D I h
 refine wpAny_For (ja (hi pins s σ H _ I h) λv s1 h1=>ja h1 λitv s2 h2=>?_) hs
 obtain⟨it,fp,tn,J,H2,e,I2,T,st2,f2,W,⟨m0,w0⟩,turn⟩:=h2
 subst e
 have stat:∀{H':Hp},(∀b∈fp,H' b=none)->∀b∈fp,QW X pins H' b:=λhn b hb=>⟨hn b hb,(f2 b hb).2⟩
 refine codeAny_forLoop_any (λn s'=>∃i σ' H',qx X pins σ' H' s'/\tn i s'.heap/\(∀b∈fp,H' b=none)/\W i n σ' H') ?_ m0 ⟨0,σ,H2,I2,st2,λb hb=>(f2 b hb).1,w0⟩
 rintro n s3 ⟨i,σ3,H3,I3,st3,fr3,w3⟩
 rcases turn i n σ3 H3 w3 with ⟨stop,qn⟩ | ⟨go,N,hN,step⟩
 . refine wpAny_passesOwn hp (ja (T.done X rfl rfl rfl hc i pins s3 σ3 H3 X.xe I3 (stat fr3) st3 stop) λr s4 ⟨hr,I4⟩=>?_)
   subst hr
   exact wpAny_execs_nil ⟨σ3,H3,I4,qn⟩
 . refine wpAny_passesOwn hp (ja (T.item X rfl rfl rfl hc i pins s3 σ3 H3 X.xe I3 (stat fr3) st3 go) λr s4 ⟨u,hr,h4⟩=>?_)
   subst hr
   refine wpAny_passesOwn hp (ja h4 λ_ s5 ⟨x,H5,I5,r5,y5,st5,fr5⟩=>?_)
   have I5':=I5.pinned (stat fr5) (T.obj _ _ st5)
   refine wpAny_passesOwn hp (ja (hg _ s5 σ3 H5 x u _ I5' r5 (step x H5 y5)) λ_ s6 ⟨σ6,H6,I6,q6⟩=>?_)
   refine wpAny_passesOwn hp (ja (hb _ s6 σ6 H6 _ I6 q6) λf s7 q7=>?_)
   have again:∀{σ7:St} {H7:Hp},qx X (pins++ZE fp s5.heap) σ7 H7 s7->N σ7 H7->∃m,m < n/\∃i σ' H',qx X pins σ' H' s7/\tn i s7.heap/\(∀b∈fp,H' b=none)/\W i m σ' H':=λ{σ7 H7} I7 n7=>by
     obtain⟨m',hm,w7⟩:=hN σ7 H7 n7
     refine⟨m',hm,i+1,σ7,H7,I7.unpinned,T.keep _ _ _ st5 λb hb o e=>(I7.pin (b,o) (List.mem_append_right _ (List.mem_append_right _ (j9 hb e)))).1,λb hb=>?_,w7⟩
     obtain⟨o,e,d⟩:=T.obj _ _ st5 b hb
     exact(I7.pin (b,o) (List.mem_append_right _ (List.mem_append_right _ (j9 hb e)))).2.1
   cases f with
   | next=>obtain⟨σ7,H7,I7,n7⟩:=q7;exact again I7 n7
   | cont=>obtain⟨σ7,H7,I7,n7⟩:=q7;exact again I7 n7
   | brk=>obtain⟨σ7,H7,I7,q7⟩:=q7;exact⟨σ7,H7,I7.unpinned,q7⟩
   | ret v=>obtain⟨x7,σ7,H7,I7,r7,q7⟩:=q7;exact⟨x7,σ7,H7,I7.unpinned,r7,q7⟩)
end
theorem j3 {K:PySem.W.Frag} {a:Addr} {xs:List V} {g:TG} {tb:TS} {D:QX} {σ:St} {H:Hp} (Pv:Nat->St->Hp->Prop) (h0:Pv 0 σ H) (hl:∀i σ H,i<=xs.length->Pv i σ H->SqL K H a xs)
   (hs:∀i x σ H,xs[i]?=some x->Pv i σ H->g x σ H λσ2 H2=>tb {D with nx:=Pv (i+1),ct:=Pv (i+1),bk:=D.nx} σ2 H2) (hd:∀σ H,Pv xs.length σ H->D.nx σ H):
   ∃W:Nat->Nat->St->Hp->Prop,(∃m,W 0 m σ H)/\∀i m σ H,W i m σ H->
    ((wT K a).stop i H/\D.nx σ H)\/((wT K a).go i H/\∃N:St->Hp->Prop,(∀σ' H',N σ' H'->∃m',m' < m/\W (i+1) m' σ' H')/\∀x H',(wT K a).yld i H x H'->g x σ H' λσ2 H2=>tb {D with nx:=N,ct:=N,bk:=D.nx} σ2 H2):=by
 refine⟨λi m σ H=>m=xs.length - i/\i<=xs.length/\Pv i σ H,⟨xs.length,by simp,Nat.zero_le _,h0⟩,?_⟩
 rintro i m σ H ⟨rfl,hi,p⟩
 have q:=hl i σ H hi p
 by_cases hlt:i < xs.length
 . refine .inr ⟨⟨xs,xs[i],q,by simp [hlt]⟩,Pv (i+1),λσ' H' p'=>⟨xs.length - (i+1),by omega,rfl,hlt,p'⟩,λx H' y=>?_⟩
   obtain⟨e,y⟩:=y
   subst e
   exact hs i x σ _ (y xs q) p
 . have e:i=xs.length:=by omega
   subst e
   exact .inl ⟨⟨xs,q,Nat.le_refl _⟩,hd σ H p⟩
theorem YU {K:PySem.W.Frag} {a:Addr} {xs:List V} {g:TG} {tb:TS} {D:QX} {σ:St} {H:Hp} (Pv:Nat->St->Hp->Prop) (h0:Pv 0 σ H) (hl:∀i σ H,i<=xs.length->Pv i σ H->SqT K H a xs)
   (hs:∀i x σ H,xs[i]?=some x->Pv i σ H->g x σ H λσ2 H2=>tb {D with nx:=Pv (i+1),ct:=Pv (i+1),bk:=D.nx} σ2 H2) (hd:∀σ H,Pv xs.length σ H->D.nx σ H):
   ∃W:Nat->Nat->St->Hp->Prop,(∃m,W 0 m σ H)/\∀i m σ H,W i m σ H->
    ((wS K a).stop i H/\D.nx σ H)\/((wS K a).go i H/\∃N:St->Hp->Prop,(∀σ' H',N σ' H'->∃m',m' < m/\W (i+1) m' σ' H')/\∀x H',(wS K a).yld i H x H'->g x σ H' λσ2 H2=>tb {D with nx:=N,ct:=N,bk:=D.nx} σ2 H2):=by
 refine⟨λi m σ H=>m=xs.length - i/\i<=xs.length/\Pv i σ H,⟨xs.length,by simp,Nat.zero_le _,h0⟩,?_⟩
 rintro i m σ H ⟨rfl,hi,p⟩
 have q:=hl i σ H hi p
 by_cases hlt:i < xs.length
 . refine .inr ⟨⟨xs,xs[i],q,by simp [hlt]⟩,Pv (i+1),λσ' H' p'=>⟨xs.length - (i+1),by omega,rfl,hlt,p'⟩,λx H' y=>?_⟩
   obtain⟨e,y⟩:=y
   subst e
   exact hs i x σ _ (y xs q) p
 . have e:i=xs.length:=by omega
   subst e
   exact .inl ⟨⟨xs,q,Nat.le_refl _⟩,hd σ H p⟩
theorem JM {lo:Int} {n:Nat} {g:TG} {tb:TS} {D:QX} {σ:St} {H:Hp} (Pv:Nat->St->Hp->Prop) (h0:Pv 0 σ H)
   (hs:∀i σ H,i < n->Pv i σ H->g (.int (lo+i)) σ H λσ2 H2=>tb {D with nx:=Pv (i+1),ct:=Pv (i+1),bk:=D.nx} σ2 H2) (hd:∀σ H,Pv n σ H->D.nx σ H):
   ∃W:Nat->Nat->St->Hp->Prop,(∃m,W 0 m σ H)/\∀i m σ H,W i m σ H->
    ((wK lo n).stop i H/\D.nx σ H)\/((wK lo n).go i H/\∃N:St->Hp->Prop,(∀σ' H',N σ' H'->∃m',m' < m/\W (i+1) m' σ' H')/\∀x H',(wK lo n).yld i H x H'->g x σ H' λσ2 H2=>tb {D with nx:=N,ct:=N,bk:=D.nx} σ2 H2):=by
 refine⟨λi m σ H=>m=n - i/\i<=n/\Pv i σ H,⟨n,by simp,Nat.zero_le _,h0⟩,?_⟩
 rintro i m σ H ⟨rfl,hi,p⟩
 by_cases hlt:i < n
 . refine .inr ⟨hlt,Pv (i+1),λσ' H' p'=>⟨n - (i+1),by omega,rfl,hlt,p'⟩,λx H' y=>?_⟩
   obtain⟨e,y⟩:=y
   subst e y
   exact hs i σ _ hlt p
 . have e:i=n:=by omega
   subst e
   exact .inl ⟨Nat.le_refl _,hd σ H p⟩
end L2
namespace L2
open PySem PySem.Spec PyProof.Rows
abbrev R2:=V->V->Hp->VK->Prop
def Z1 (X:Cx) (f:Value->Value->Sem Value) (r:R2):Prop:=
 ∀(pins:List (Addr×Obj)) (s:Shared) (σ:St) (H:Hp) (x y:V) (v u:Value) (Q:VK),qx X pins σ H s->qQ x v->qQ y u->r x y H Q->
   wpAny (model X.prog X.w) X.A (f v u) (EP X pins σ Q) X.xe s
def jW (X:Cx) (f:Value) (r:List V->Hp->VK->Prop):Prop:=
 ∀(pins:List (Addr×Obj)) (s:Shared) (σ:St) (H:Hp) (xs:List V) (us:List Value) (Q:VK),qx X pins σ H s->qI xs us->r xs H Q->
   wpAny (model X.prog X.w) X.A (call f us) (EP X pins σ Q) X.xe s
def YD (r:R2) (ta tb:TE):TE:=λσ H Q=>ta σ H λx H1=>tb σ H1 λy H2=>r x y H2 Q
def rI (C:Int->Int->Prop) (g:Int->Int->V):R2:=λx y H Q=>∃i j,x=.int i/\y=.int j/\C i j/\Q (g i j) H
def xT (g:Int->Int->V):R2:=λx y H Q=>∃i j,x=.int i/\y=.int j/\Q (g i j) H
section
variable {X:Cx} {a b c:Expr} {ta tb tc:TE} {pos:Pos}
theorem wE (ha:PE X a ta) (hb:PE X b tb) {pins:List (Addr×Obj)} {s:Shared} {σ:St} {H:Hp} {R:V->V->Hp->Prop} (I:qx X pins σ H s)
   (h:ta σ H λx H1=>tb σ H1 λy H2=>R x y H2) {Q:Value->Shared->Prop} {f:Value->Value->Sem Value}
   (hf:∀v u s2 x y H2,qx X pins σ H2 s2->qQ x v->qQ y u->R x y H2->wpAny (model X.prog X.w) X.A (f v u) Q X.xe s2):
   wpAny (model X.prog X.w) X.A (eval a X.env) (λv s₁=>wpAny (model X.prog X.w) X.A (eval b X.env) (λu s₂=>wpAny (model X.prog X.w) X.A (f v u) Q X.xe s₂) X.xe s₁) X.xe s:=by
 refine ja (ha pins s σ H _ I h) λv s1 ⟨x,H1,I1,r1,q1⟩=>?_
 refine ja (hb pins s1 σ H1 _ I1 q1) λu s2 ⟨y,H2,I2,r2,q2⟩=>?_
 exact hf v u s2 x y H2 I2 r1 r2 q2
theorem qG {op:Operator} {r:R2} (ho:Z1 X (binaryOp op) r) (ha:JE X a ta) (hb:JE X b tb):JE X (.BinOp a op b pos) (YD r ta tb):=.of (by
 have ha:=ha.to
 have hb:=hb.to
 intro pins s σ H Q I h
 exact wpAny_BinOp (wE ha hb I h λv u s2 x y H2 I2 rx ry q=>ho pins s2 σ H2 x y v u Q I2 rx ry q))
theorem uE {f:Value->Value->Sem Value} {C:Int->Int->Prop} {g:Int->Int->Int}
   (rule:∀(i j:Int) (t u:Tok) (s:Shared) (Q:Value->Shared->Prop) (E:Value->Shared->Prop),C i j->Q (.int (g i j) s.toks) {s with toks:=s.toks+1}->wpAny (model X.prog X.w) X.A (f (.int i t) (.int j u)) Q E s):
   Z1 X f (rI C λi j=>.int (g i j)):=by
 intro pins s σ H x y v u Q I rx ry h
 obtain⟨i,j,rfl,rfl,hc,q⟩:=h
 obtain⟨t,rfl⟩:=rx
 obtain⟨t',rfl⟩:=ry
 exact rule i j t t' s _ _ hc ⟨.int (g i j),H,I.tok _,⟨_,rfl⟩,q⟩
theorem uD {f:Value->Value->Sem Value} {g:Int->Int->Int}
   (rule:∀(i j:Int) (t u:Tok) (s:Shared) (Q:Value->Shared->Prop) (E:Value->Shared->Prop),Q (.int (g i j) s.toks) {s with toks:=s.toks+1}->wpAny (model X.prog X.w) X.A (f (.int i t) (.int j u)) Q E s):
   Z1 X f (xT λi j=>.int (g i j)):=by
 intro pins s σ H x y v u Q I rx ry h
 obtain⟨i,j,rfl,rfl,q⟩:=h
 obtain⟨t,rfl⟩:=rx
 obtain⟨t',rfl⟩:=ry
 exact rule i j t t' s _ _ ⟨.int (g i j),H,I.tok _,⟨_,rfl⟩,q⟩
theorem xX {f:Value->Value->Sem Value} {g:Int->Int->Bool}
   (rule:∀(i j:Int) (t u:Tok) (s:Shared) (Q:Value->Shared->Prop) (E:Value->Shared->Prop),Q (.bool (g i j)) s->wpAny (model X.prog X.w) X.A (f (.int i t) (.int j u)) Q E s):
   Z1 X f (xT λi j=>.bl (g i j)):=by
 intro pins s σ H x y v u Q I rx ry h
 obtain⟨i,j,rfl,rfl,q⟩:=h
 obtain⟨t,rfl⟩:=rx
 obtain⟨t',rfl⟩:=ry
 exact rule i j t t' s _ _ ⟨.bl (g i j),H,I,rfl,q⟩
def Gz (i j:Int):Prop:=0 < j/\j < 1073741824
def Gy (i j:Int):Prop:=0<=j/\j<=1000000/\i.natAbs < 2^64
def wM (i j:Int):Prop:=(-(2^64) < i/\i < 2^64)\/(-(2^64) < j/\j < 2^64)
theorem wM.ok {i j:Int} (h:wM i j):IntMulOk i j:=by
 rcases h with ⟨h1,h2⟩ | ⟨h1,h2⟩
 . exact .of_left (intBits_le_64 h1 h2)
 . exact .of_right (intBits_le_64 h1 h2)
theorem jx:Z1 X (binaryOp .Add) (xT λi j=>.int (i+j)):=uD λ_ _ _ _ _ _ _ q=>add_int q
theorem zD:Z1 X (binaryOp .Sub) (xT λi j=>.int (i - j)):=uD λ_ _ _ _ _ _ _ q=>sub_int q
theorem QH:Z1 X (binaryOp .Mult) (rI wM λi j=>.int (i*j)):=uE λ_ _ _ _ _ _ _ hc q=>mul_int q hc.ok
theorem Z9:Z1 X (binaryOp .FloorDiv) (rI Gz λi j=>.int (i / j)):=uE λi j _ _ _ _ _ hc q=>by
 have h1:(0:Int) < j:=hc.1
 have h2:j < 1073741824:=hc.2
 exact floordiv_int (by omega) (by rw[Int.fdiv_eq_ediv_of_nonneg i (by omega)];exact q) (.inl (PyProof.noPylong_small (by omega)))
theorem jP:Z1 X (binaryOp .Mod) (rI (λ_ j=>0 < j) λi j=>.int (i % j)):=uE λi j _ _ _ _ _ hc q=>by
 have h1:(0:Int) < j:=hc
 exact mod_int' (by omega) (by rw[Int.fmod_eq_emod_of_nonneg i (by omega)];exact q)
theorem xW:Z1 X (binaryOp .Pow) (rI Gy λi j=>.int (i^j.toNat)):=uE λ_ _ _ _ _ _ _ hc q=>pow_int_small hc.1 hc.2.1 hc.2.2 q
end
def uj:V->V->Bool
 | .non,.non=>true | .non,.int _=>true | .int _,.non=>true | .non,.bl _=>true | .bl _,.non=>true | .non,.str _=>true | .str _,.non=>true
 | .int _,.int _=>true | .bl _,.bl _=>true | .str _,.str _=>true | .byt _,.byt _=>true
 | .int _,.str _=>true | .str _,.int _=>true | .bl _,.str _=>true | .str _,.bl _=>true
 | _,_=>false
def rEq:R2:=λx y H Q=>uj x y=true/\Q (.bl (decide (x=y))) H
def rNe:R2:=λx y H Q=>uj x y=true/\Q (.bl (!decide (x=y))) H
theorem VA {i j:Int}:decide (V.int i=V.int j)=(i==j):=by
 rw[Bool.eq_iff_iff]
 simp
theorem kz {i j:Bool}:decide (V.bl i=V.bl j)=(i==j):=by
 rw[Bool.eq_iff_iff]
 simp
theorem Vz {i j:Str}:decide (V.str i=V.str j)=(i==j):=by
 rw[Bool.eq_iff_iff]
 simp
theorem VB {i j:Array UInt8}:decide (V.byt i=V.byt j)=(i.toList==j.toList):=by
 rw[Bool.eq_iff_iff]
 cases i
 cases j
 simp
section
variable {X:Cx} {a b c:Expr} {ta tb tc:TE} {pos:Pos}
theorem qU {pins:List (Addr×Obj)} {σ:St} {H:Hp} {s:Shared} {Q:VK} {k k':Bool} (I:qx X pins σ H s) (q:Q (.bl k) H) (e:k=k'):EP X pins σ Q (.bool k') s:=by
 subst e
 exact⟨.bl k,H,I,rfl,q⟩
theorem jU:Z1 X (compareOp .Eq) rEq:=by
 intro pins s σ H x y v u Q I rx ry h
 obtain⟨hs,q⟩:=h
 cases x with
 | non=>
   cases rx
   cases y with
   | non=>cases ry;exact PySem.EqNone.eq_none_none (qU I q (by simp))
   | bl j=>cases ry;exact PySem.EqNone.eq_none_bool (qU I q (by simp))
   | int j=>obtain⟨t',rfl⟩:=ry;exact PySem.EqNone.eq_none_int (qU I q (by simp))
   | str j=>obtain⟨t',rfl⟩:=ry;exact PySem.EqNone.eq_none_str (qU I q (by simp))
   | _=>exact absurd (show false=true from hs) Bool.false_ne_true
 | bl i=>
   cases rx
   cases y with
   | non=>cases ry;exact PySem.EqNone.eq_bool_none (qU I q (by simp))
   | bl j=>cases ry;exact eq_bool (qU I q kz)
   | str j=>obtain⟨t',rfl⟩:=ry;exact PySem.EqMixed.eq_bool_str (qU I q (by simp))
   | _=>exact absurd (show false=true from hs) Bool.false_ne_true
 | int i=>
   obtain⟨t,rfl⟩:=rx
   cases y with
   | non=>cases ry;exact PySem.EqNone.eq_int_none (qU I q (by simp))
   | int j=>obtain⟨t',rfl⟩:=ry;exact eq_int (qU I q VA)
   | str j=>obtain⟨t',rfl⟩:=ry;exact PySem.EqMixed.eq_int_str (qU I q (by simp))
   | _=>exact absurd (show false=true from hs) Bool.false_ne_true
 | str i=>
   obtain⟨t,rfl⟩:=rx
   cases y with
   | non=>cases ry;exact PySem.EqNone.eq_str_none (qU I q (by simp))
   | bl j=>cases ry;exact PySem.EqMixed.eq_str_bool (qU I q (by simp))
   | int j=>obtain⟨t',rfl⟩:=ry;exact PySem.EqMixed.eq_str_int (qU I q (by simp))
   | str j=>obtain⟨t',rfl⟩:=ry;exact eq_str (qU I q Vz)
   | _=>exact absurd (show false=true from hs) Bool.false_ne_true
 | byt i=>
   obtain⟨t,rfl⟩:=rx
   cases y with
   | byt j=>obtain⟨t',rfl⟩:=ry;exact PySem.W.eq_bytes (qU I q VB)
   | _=>exact absurd (show false=true from hs) Bool.false_ne_true
 | _=>cases y<;>exact absurd (show false=true from hs) Bool.false_ne_true
theorem zE:Z1 X (compareOp .NotEq) rNe:=by
 intro pins s σ H x y v u Q I rx ry h
 obtain⟨hs,q⟩:=h
 cases x with
 | non=>
   cases rx
   cases y with
   | non=>cases ry;exact PySem.EqNone.ne_none_none (qU I q (by simp))
   | bl j=>cases ry;exact PySem.EqNone.ne_none_bool (qU I q (by simp))
   | int j=>obtain⟨t',rfl⟩:=ry;exact PySem.EqNone.ne_none_int (qU I q (by simp))
   | str j=>obtain⟨t',rfl⟩:=ry;exact PySem.EqNone.ne_none_str (qU I q (by simp))
   | _=>exact absurd (show false=true from hs) Bool.false_ne_true
 | bl i=>
   cases rx
   cases y with
   | non=>cases ry;exact PySem.EqNone.ne_bool_none (qU I q (by simp))
   | bl j=>cases ry;exact ne_bool (qU I q (congrArg not kz))
   | str j=>obtain⟨t',rfl⟩:=ry;exact PySem.EqMixed.ne_bool_str (qU I q (by simp))
   | _=>exact absurd (show false=true from hs) Bool.false_ne_true
 | int i=>
   obtain⟨t,rfl⟩:=rx
   cases y with
   | non=>cases ry;exact PySem.EqNone.ne_int_none (qU I q (by simp))
   | int j=>obtain⟨t',rfl⟩:=ry;exact ne_int (qU I q (congrArg not VA))
   | str j=>obtain⟨t',rfl⟩:=ry;exact PySem.EqMixed.ne_int_str (qU I q (by simp))
   | _=>exact absurd (show false=true from hs) Bool.false_ne_true
 | str i=>
   obtain⟨t,rfl⟩:=rx
   cases y with
   | non=>cases ry;exact PySem.EqNone.ne_str_none (qU I q (by simp))
   | bl j=>cases ry;exact PySem.EqMixed.ne_str_bool (qU I q (by simp))
   | int j=>obtain⟨t',rfl⟩:=ry;exact PySem.EqMixed.ne_str_int (qU I q (by simp))
   | str j=>obtain⟨t',rfl⟩:=ry;exact ne_str (qU I q (congrArg not Vz))
   | _=>exact absurd (show false=true from hs) Bool.false_ne_true
 | byt i=>
   obtain⟨t,rfl⟩:=rx
   cases y with
   | byt j=>obtain⟨t',rfl⟩:=ry;exact PySem.W.ne_bytes (qU I q (congrArg not VB))
   | _=>exact absurd (show false=true from hs) Bool.false_ne_true
 | _=>cases y<;>exact absurd (show false=true from hs) Bool.false_ne_true
theorem jY:Z1 X (compareOp .Lt) (xT λi j=>.bl (decide (i < j))):=xX λ_ _ _ _ _ _ _ q=>lt_int q
theorem JZ:Z1 X (compareOp .Gt) (xT λi j=>.bl (decide (j < i))):=xX λ_ _ _ _ _ _ _ q=>gt_int q
theorem vD:Z1 X (compareOp .GtE) (xT λi j=>.bl (decide (j<=i))):=xX λ_ _ _ _ _ _ _ q=>ge_int q
theorem Yj:Z1 X (compareOp .In) (λx y H Q=>∃i j,x=.str i/\y=.str j/\Q (.bl (!(Builtin.Str.occurrences j i 0 j.length 1).isEmpty)) H):=by
 intro pins s σ H x y v u Q I rx ry h
 obtain⟨i,j,rfl,rfl,q⟩:=h
 obtain⟨t,rfl⟩:=rx
 obtain⟨t',rfl⟩:=ry
 exact in_str (qU I q rfl)
theorem qC (b:Expr) {op:CmpOp} (h:op≠.In:=by decide) (h2:op≠.NotIn:=by decide):behindInMarks op b=false:=by
 have e1:(op==CmpOp.In)=false:=by cases op<;>first | rfl | exact absurd rfl h
 have e2:(op==CmpOp.NotIn)=false:=by cases op<;>first | rfl | exact absurd rfl h2
 cases b<;>simp [behindInMarks,e1,e2]
theorem Zo {op:CmpOp} {r:R2} (ho:Z1 X (compareOp op) r) (ha:JE X a ta) (hb:JE X b tb) (hm:behindInMarks op b=false):JE X (.Compare a [op] [b] pos) (YD r ta tb):=.of (by
 have ha:=ha.to
 have hb:=hb.to
 intro pins s σ H Q I h
 exact wpAny_Compare1 (wE ha hb I h λv u s2 x y H2 I2 rx ry q=>ho pins s2 σ H2 x y v u Q I2 rx ry q) hm)
def Ye (t:TE):TT:=λσ H Q=>t σ H λx H'=>∃k,x=.bl k/\Q k H'
theorem qu {op:CmpOp} {r:R2} (ho:Z1 X (compareOp op) r) (ha:JE X a ta) (hb:JE X b tb) (hm:behindInMarks op b=false):JT X (.Compare a [op] [b] pos) (Ye (YD r ta tb)):=.of (by
 have ha:=ha.to
 have hb:=hb.to
 intro pins s σ H Q I h
 refine wpAny_isTrue_Compare1 (ja (ha pins s σ H _ I h) λv s1 ⟨x,H1,I1,r1,q1⟩=>ja (hb pins s1 σ H1 _ I1 q1) λu s2 ⟨y,H2,I2,r2,q2⟩=>
   ja (ho pins s2 σ H2 x y v u _ I2 r1 r2 q2) λc s3 ⟨z,H3,I3,r3,k,e,q3⟩=>?_) hm
 subst e
 cases r3
 exact wpAny_truthy_bool ⟨H3,I3,q3⟩)
theorem ZI:(sizeLine:Nat) < 2^63:=by rw[sizeLine_eq];decide
theorem Q5:Z1 X (binaryOp .Add) (λx y H Q=>∃i j,x=.str i/\y=.str j/\i.length+j.length<=sizeLine/\Q (.str (i++j)) H):=by
 intro pins s σ H x y v u Q I rx ry h
 obtain⟨i,j,rfl,rfl,hz,q⟩:=h
 obtain⟨t,rfl⟩:=rx
 obtain⟨t',rfl⟩:=ry
 exact add_str (λt' tk=>⟨.str (i++j),H,I.tok _,⟨_,rfl⟩,q⟩) hz
theorem Qo {x:V} {us:List Value} (r:qI [x] us):∃u,us=[u]/\qQ x u:=by
 cases r with
 | cons r1 r2=>cases r2;exact⟨_,rfl,r1⟩
theorem Xg {x y:V} {us:List Value} (r:qI [x,y] us):∃u w',us=[u,w']/\qQ x u/\qQ y w':=by
 cases r with
 | cons r1 r2=>
   cases r2 with
   | cons r3 r4=>cases r4;exact⟨_,_,rfl,r1,r3⟩
theorem Yt (hc:X.calm=true):jW X (.builtin "max") (λxs H Q=>∃i j,xs=[.int i,.int j]/\Q (.int (if j > i then j else i)) H):=by
 intro pins s σ H xs us Q I r h
 obtain⟨i,j,rfl,q⟩:=h
 obtain⟨u,w',rfl,⟨t,rfl⟩,⟨t',rfl⟩⟩:=Xg r
 refine max_two_ints (I.ok.hd hc) λh' tk k=>⟨_,H,I.kept k,?_,q⟩
 by_cases hj:j > i
 . rw[if_pos hj,if_pos hj];exact⟨_,rfl⟩
 . rw[if_neg hj,if_neg hj];exact⟨_,rfl⟩
theorem UJ (hc:X.calm=true):jW X (.builtin "min") (λxs H Q=>∃i j,xs=[.int i,.int j]/\Q (.int (if j < i then j else i)) H):=by
 intro pins s σ H xs us Q I r h
 obtain⟨i,j,rfl,q⟩:=h
 obtain⟨u,w',rfl,⟨t,rfl⟩,⟨t',rfl⟩⟩:=Xg r
 refine min_two_ints (I.ok.hd hc) λh' tk k=>⟨_,H,I.kept k,?_,q⟩
 by_cases hj:j < i
 . rw[if_pos hj,if_pos hj];exact⟨_,rfl⟩
 . rw[if_neg hj,if_neg hj];exact⟨_,rfl⟩
theorem Yu:jW X (.type "int") (λxs H Q=>(∃i,xs=[.int i]/\Q (.int i) H)\/∃k,xs=[.bl k]/\Q (.int (if k then 1 else 0)) H):=by
 intro pins s σ H xs us Q I r h
 rcases h with ⟨i,rfl,q⟩ | ⟨k,rfl,q⟩
 . obtain⟨u,rfl,t,rfl⟩:=Qo r
   exact call_int_int ⟨.int i,H,I,⟨_,rfl⟩,q⟩
 . obtain⟨u,rfl,r1⟩:=Qo r
   cases r1
   exact call_int_bool ⟨.int (if k then 1 else 0),H,I.tok _,⟨_,rfl⟩,q⟩
end
end L2
namespace L2
open PySem PySem.Spec PyProof.Rows
structure WL (h:Heap) (x dx C:Addr) (mA:Str->Option Value):Prop where
 obj:h.get? x=some (PySem.W.instObj C dx)
 ns:h.Ns1 dx mA
 ne:dx≠x
theorem JF {h:Heap} {dx:Addr} {mA:Str->Option Value} (n:h.Ns1 dx mA):∃od,h.get? dx=some od/\∀name,PySem.W.lookIn name od=some (mA name):=by
 obtain⟨o,es,ep,ho,hd,hk,_,hm⟩:=n
 refine⟨o,ho,λname=>?_⟩
 have e:=hm name
 unfold nsFind findBy at e
 rw[<-Array.find?_toList]at e
 unfold PySem.W.lookIn
 rw[hd]
 dsimp only
 split
 . rename_i y q
   rw[q]at e
   exact congrArg some e
 . rename_i q
   rw[q]at e
   have a:es.toList.any (·.refKey)=false:=by
     rw[List.any_eq_false]
     intro y hy
     obtain⟨z,t,hkey⟩:=hk y (Array.mem_toList_iff.mp hy)
     simp [DictEntry.refKey,hkey]
   have a':¬es.toList.any (·.refKey)=true:=by rw[a];exact Bool.false_ne_true
   rw[if_neg a']
   exact congrArg some e
theorem WL.look {h:Heap} {x dx C:Addr} {mA:Str->Option Value} (I:WL h x dx C mA):∃od,PySem.W.InstAt h x (PySem.W.instObj C dx) C (some od)/\∀name,PySem.W.lookIn name od=some (mA name):=
 let ⟨od,ho,hl⟩:=JF I.ns
 ⟨od,⟨I.obj,rfl,rfl,ho⟩,hl⟩
section
variable {prog:Program} {w:World} {A:Around} {E:Value->Shared->Prop} {s:Shared} {K:PySem.W.Frag} {x dx C f:Addr} {mA:Str->Option Value} {name:Str} {v:Value}
theorem yG {expr:Bool} {Q:Value->Shared->Prop} (X:K.In s.heap) (I:WL s.heap x dx C mA) (hg:PySem.W.plainGet K C name=true) (hh:PySem.W.hasDictIn K C=true)
   (ha:PySem.W.findIn K (.ref C) name=some none) (hv:mA name=some v) (hv':PySem.W.handedIn v=true) (h:Q v {s with toks:=s.toks+1}):
   wpAny (model prog w) A (getAttr (.ref x) name expr) Q E s:=by
 obtain⟨od,J,hl⟩:=I.look
 exact PySem.W.get_value X J (PySem.W.plainGet_of hg).1 (PySem.W.findObj_own hh ha rfl (by rw[hl,hv])) hv' h
theorem kn {pl:Sem Bool} {Q:Value×List Value->Shared->Prop} (X:K.In s.heap) (I:WL s.heap x dx C mA) (hg:PySem.W.plainGet K C name=true)
   (hf:PySem.W.findIn K (.ref C) name=some (some (.ref f))) (ht:PySem.W.isFn K (.ref f)=true) (hv:mA name=none) (h:Q (.ref f,[.ref x]) s):
   wpAny (model prog w) A (getMethod (.ref x) name pl) Q E s:=by
 obtain⟨od,J,hl⟩:=I.look
 exact PySem.W.method_fn X J (PySem.W.plainGet_of hg).1 (PySem.W.plainGet_of hg).2 hf (beq_iff_eq.mp ht) (by show (PySem.W.lookIn name od).map (·.isSome)=some false;rw[hl,hv];rfl) h
theorem k7 {ns:List Str} {Q:Unit->Shared->Prop} (X:K.In s.heap) (I:WL s.heap x dx C mA)
   (hs:PySem.W.findIn K (.ref C) "__setattr__"=some (some (.builtin "object.__setattr__"))) (hp:PySem.W.plainOver K C=true) (ht:PySem.W.takerIn K C name=some none) (hh:PySem.W.hasDictIn K C=true)
   (hw:PySem.Within mA ns) (hsz:ns.length<=sizeLine)
   (h:∀h',WL h' x dx C (λy=>if y=name then some v else mA y)->Heap.SameBut dx s.heap h'->Q () {s with heap:=h',toks:=s.toks+2}):
   wpAny (model prog w) A (setAttr (.ref x) name v) Q E s:=by
 obtain⟨od,J,hl⟩:=I.look
 refine PySem.W.set_plain X J hs (PySem.W.osa_open (s:={s with toks:=s.toks+1}) (r:=none) X J hp ht λb=>?_)
 obtain⟨cd,hc,hd'⟩:=PySem.W.any_some hh
 have hx:s.heap.get? x=some ⟨.ref C,some dx,.plain,#[]⟩:=I.obj
 refine wpAny_bind (wpAny_pure (wpAny_bind (wpAny_bind (wpAny_loadPart hx (wpAny_bind (PySem.W.Looks.here (s:={s with toks:=s.toks+1}) (PySem.W.looks_clsIn X hc) ?_))))))
 rw[hd']
 refine wpAny_pure (a:=some dx) (wpAny_bind (wpAny_pure (wpAny_bind ?_)))
 refine wpAny_nsSet1 (s:={s with toks:=s.toks+1}) I.ns λh' hn2 hs2=>?_
 obtain⟨oD,esD,epD,hoD,hdD,hcD⟩:=hn2.count (PySem.Within.cons name v hw)
 refine wpAny_bind (wpAny_lookBehind hoD (by rw[hdD];exact pastItsLine_dict (Nat.le_trans hcD (by rw[List.length_cons];omega))) ?_)
 exact wpAny_pure (h _ ⟨(hs2.2 _ (Ne.symm I.ne)).trans I.obj,hn2,I.ne⟩ hs2)
theorem vO {R:Result->Shared->Prop} {vs:List Value} {kw:List (Str×Value)} (X:K.In s.heap) (hm:PySem.W.makesIn K C=true)
   (hi:PySem.W.findIn K (.ref C) "__init__"=some (some (.ref f))) (hf:PySem.W.typeIn K (.ref f)=some (.type "function"))
   (h:codeAny (model prog w) (A.under (.builtin "type.__call__" ⟨.ref C::vs,kw⟩)) (.call (.ref f) ⟨.ref (s.heap.objs.size+1)::vs,kw⟩) (PySem.W.InitBack (s.heap.objs.size+1) R)
     {s with heap:=(s.heap.push PySem.W.emptyDict).push (PySem.W.instObj C s.heap.objs.size)}):
   codeAny (model prog w) A (.call (.ref C) ⟨vs,kw⟩) R s:=by
 obtain⟨hh,g,d,t,os⟩:=s
 exact PySem.W.make_core (PySem.W.makes_of X hm) (PySem.W.looks_findIn X hi) (λself=>PySem.W.bind_fn X self hf) (.inl rfl) h
end
def Q3 (f:Str) (v:V):List (Str×V)->List (Str×V)
 | []=>[(f,v)]
 | (g,x)::r=>if g=f then (g,v)::r else (g,x)::Q3 f v r
theorem ZU (f g:Str) (v:V):∀fs:List (Str×V),(Q3 f v fs).lookup g=if g=f then some v else fs.lookup g
 | []=>by
   show List.lookup g [(f,v)]=_
   by_cases h:g=f
   . have hb:(g==f)=true:=beq_iff_eq.mpr h
     simp only[List.lookup,hb,if_pos h]
   . have hb:(g==f)=false:=beq_eq_false_iff_ne.mpr h
     simp only[List.lookup,hb,if_neg h]
 | (k,x)::r=>by
   have ih:=ZU f g v r
   rw[show Q3 f v ((k,x)::r)=(if k=f then (k,v)::r else (k,x)::Q3 f v r) from rfl]
   by_cases hk:k=f
   . rw[if_pos hk]
     by_cases h:g=k
     . have hb:(g==k)=true:=beq_iff_eq.mpr h
       simp only[List.lookup,hb,if_pos (h.trans hk)]
     . have hb:(g==k)=false:=beq_eq_false_iff_ne.mpr h
       simp only[List.lookup,hb,if_neg (λe:g=f=>h (e.trans hk.symm))]
   . rw[if_neg hk]
     by_cases h:g=k
     . have hb:(g==k)=true:=beq_iff_eq.mpr h
       simp only[List.lookup,hb,if_neg (λe:g=f=>hk (h.symm.trans e))]
     . have hb:(g==k)=false:=beq_eq_false_iff_ne.mpr h
       simp only[List.lookup,hb]
       exact ih
theorem ZJ (f:Str) (v:V):∀fs:List (Str×V),f∈(Q3 f v fs).map (·.1)/\∀g,g∈fs.map (·.1)->g∈(Q3 f v fs).map (·.1)
 | []=>⟨by simp [Q3],λg h=>by simp at h⟩
 | (k,x)::r=>by
   obtain⟨i1,i2⟩:=ZJ f v r
   rw[show Q3 f v ((k,x)::r)=(if k=f then (k,v)::r else (k,x)::Q3 f v r) from rfl]
   by_cases hk:k=f
   . rw[if_pos hk]
     subst hk
     exact⟨by simp,λg h=>by simpa using h⟩
   . rw[if_neg hk]
     refine⟨?_,λg h=>?_⟩
     . rw[List.map_cons]
       exact List.mem_cons_of_mem _ i1
     . rw[List.map_cons]at h ⊢
       rcases List.mem_cons.mp h with e | e
       . exact List.mem_cons.mpr (.inl e)
       . exact List.mem_cons_of_mem _ (i2 g e)
theorem ZV (f:Str) (v:V):∀fs:List (Str×V),(Q3 f v fs).length<=fs.length+1
 | []=>by simp [Q3]
 | (k,x)::r=>by
   have ih:=ZV f v r
   rw[show Q3 f v ((k,x)::r)=(if k=f then (k,v)::r else (k,x)::Q3 f v r) from rfl]
   by_cases hk:k=f
   . rw[if_pos hk,List.length_cons,List.length_cons];omega
   . rw[if_neg hk,List.length_cons,List.length_cons];omega
theorem Jg.some_of {v:V} {o:Option Value} (r:Jg (some v) o):∃u,o=some u/\qQ v u:=by
 cases o with
 | none=>exact(show False from r).elim
 | some u=>exact⟨u,rfl,r⟩
theorem Jg.none_of {o:Option Value} (r:Jg none o):o=none:=by
 cases o with
 | none=>rfl
 | some u=>exact(show False from r).elim
theorem Yo {v:V} {u:Value} (r:qQ v u):PySem.W.handedIn u=true:=by
 cases v with
 | non=>cases (show u=Value.none from r);rfl
 | bl b=>cases (show u=Value.bool b from r);rfl
 | int i=>obtain⟨t,e⟩:=(show ∃t,u=Value.int i t from r);cases e;rfl
 | str x=>obtain⟨t,e⟩:=(show ∃t,u=Value.str x t from r);cases e;rfl
 | byt b=>obtain⟨t,e⟩:=(show ∃t,u=Value.bytes b t from r);cases e;rfl
 | flt b=>obtain⟨t,e⟩:=(show ∃t,u=Value.float b t from r);cases e;rfl
 | ref a=>cases (show u=Value.ref a from r);rfl
 | ty n=>cases (show u=Value.type n from r);rfl
section
variable {P:Program} {w:World} {H H':Hp} {h h':Heap} {a C dx:Addr} {fs fs':List (Str×V)}
theorem zi (hok:Jh P w H h) (e:H a=some (.ins C dx fs)):∃mA,WL h a dx C mA/\(∀f,Jg (fs.lookup f) (mA f))/\PySem.Within mA (fs.map (·.1))/\fs.length<=1000/\H dx=some (.own a):=by
 obtain⟨d,z,ne,ob,mA,n,r,q⟩:=(show qJ P w H h a (.ins C dx fs) from hok a _ e)
 exact⟨mA,⟨ob,n,ne⟩,r,q,z,d⟩
end
structure UR (K:PySem.W.Frag) (C:Addr):Prop where
 pg:PySem.W.plainGet K C Str.empty=true
 hd:PySem.W.hasDictIn K C=true
 po:PySem.W.plainOver K C=true
 sa:PySem.W.findIn K (.ref C) "__setattr__"=some (some (.builtin "object.__setattr__"))
theorem UR.get {K:PySem.W.Frag} {C:Addr} (c:UR K C) (f:Str):PySem.W.plainGet K C f=true:=c.pg
def Qa (K:PySem.W.Frag) (C:Addr) (f:Str):Prop:=PySem.W.findIn K (.ref C) f=some none
theorem Qa.taker {K:PySem.W.Frag} {C:Addr} {f:Str} (n:Qa K C f):PySem.W.takerIn K C f=some none:=by
 unfold PySem.W.takerIn
 rw[show PySem.W.findIn K (.ref C) f=some none from n]
 rfl
structure Con (K:PySem.W.Frag) (C:Addr) (f:Str) (v:V) (u:Value):Prop where
 at_:PySem.W.findIn K (.ref C) f=some (some u)
 rel:qQ v u
 get:PySem.W.specialIn K u "__get__"=some none
 cp:PySem.W.copiedNames.contains f=false
structure yS (K:PySem.W.Frag) (C:Addr) (m:Str) (f:Addr):Prop where
 at_:PySem.W.findIn K (.ref C) m=some (some (.ref f))
 fn:PySem.W.isFn K (.ref f)=true
 kp:PySem.W.keepIn K (.ref f)=true
section
variable {X:Cx} {pins:List (Addr×Obj)} {σ:St} {H:Hp} {s:Shared} {a C dx:Addr} {fs:List (Str×V)} {f:Str} {v:V} {A:Around} {E:Value->Shared->Prop}
theorem Wy {b:Bool} {Q:Value->Shared->Prop} (I:qx X pins σ H s) (e:H a=some (.ins C dx fs)) (c:UR X.K C) (n:Qa X.K C f) (l:fs.lookup f=some v)
   (h:∀u s',qx X pins σ H s'->qQ v u->Q u s'):wpAny (model X.prog X.w) A (getAttr (.ref a) f b) Q E s:=by
 obtain⟨mA,O,r,_,_,_⟩:=zi I.hok e
 obtain⟨u,hu,ru⟩:=Jg.some_of (v:=v) (o:=mA f) (by rw[<-l];exact r f)
 exact yG I.kIn O (c.get f) c.hd n hu (Yo ru) (h u _ (I.tok _) ru)
theorem Wx {m:Str} {g:Addr} {pl:Sem Bool} {Q:Value×List Value->Shared->Prop} (I:qx X pins σ H s) (e:H a=some (.ins C dx fs)) (c:UR X.K C) (k:yS X.K C m g) (l:fs.lookup m=none)
   (h:Q (.ref g,[.ref a]) s):wpAny (model X.prog X.w) A (getMethod (.ref a) m pl) Q E s:=by
 obtain⟨mA,O,r,_,_,_⟩:=zi I.hok e
 have hn:mA m=none:=Jg.none_of (by rw[<-l];exact r m)
 exact kn I.kIn O (c.get m) k.at_ k.fn hn h
theorem We {y:V} {u:Value} {Q:Unit->Shared->Prop} (I:qx X pins σ H s) (e:H a=some (.ins C dx fs)) (c:UR X.K C) (n:Qa X.K C f) (hl:fs.length < 1000) (ry:qQ y u)
   (h:∀s',qx X pins σ (upd H a (.ins C dx (Q3 f y fs))) s'->Q () s'):wpAny (model X.prog X.w) A (setAttr (.ref a) f u) Q E s:=by
 obtain⟨mA,O,r,wi,_,ho⟩:=zi I.hok e
 have hz:(fs.map (·.1)).length<=sizeLine:=by rw[List.length_map,sizeLine_eq];omega
 refine k7 I.kIn O c.sa c.po n.taker c.hd wi hz λh' O' sb=>h _ ?_
 have hd:∃o,h'.get? dx=some o:=let ⟨o,_,_,e',_⟩:=O'.ns;⟨o,e'⟩
 refine I.write (x:=a) (e:=dx) (by rw[e];exact True.intro) (.inr ho) (λb q hb z=>(sb.2 b hb).trans z) hd ?_
 refine⟨by rw[qi O.ne];exact ho,?_,O.ne,O'.obj,_,O'.ns,λg=>?_,λg hg=>?_⟩
 . have:=ZV f y fs;omega
 . show Jg ((Q3 f y fs).lookup g) (if g=f then some u else mA g)
   rw[ZU]
   by_cases q:g=f
   . rw[if_pos q,if_pos q];exact ry
   . rw[if_neg q,if_neg q];exact r g
 . by_cases q:g=f
   . rw[q];exact(ZJ f y fs).1
   . refine(ZJ f y fs).2 g (wi g λz=>hg ?_)
     show (if g=f then some u else mA g)=none
     rw[if_neg q];exact z
theorem qx.made (I:qx X pins σ H s):qx X pins σ (upd (upd H s.heap.objs.size (.own (s.heap.objs.size+1))) (s.heap.objs.size+1) (.ins C s.heap.objs.size []))
   {s with heap:=(s.heap.push PySem.W.emptyDict).push (PySem.W.instObj C s.heap.objs.size)}:=by
 have e1:(s.heap.push PySem.W.emptyDict).get? s.heap.objs.size=some PySem.W.emptyDict:=Heap.get?_push_size s.heap rfl
 have e2:((s.heap.push PySem.W.emptyDict).push (PySem.W.instObj C s.heap.objs.size)).get? (s.heap.objs.size+1)=some (PySem.W.instObj C s.heap.objs.size):=by
   have:=Heap.get?_push_size (s.heap.push PySem.W.emptyDict) (o:=PySem.W.instObj C s.heap.objs.size) rfl
   rwa [Heap.size_push]at this
 have e3:(s.heap.push PySem.W.emptyDict).Ns s.heap.objs.size (λ_=>none):=⟨PySem.W.emptyDict,#[],_,e1,rfl,(λe he=>absurd he (by simp)),λ_=>rfl⟩
 have I1:=I.laid (a:=s.heap.objs.size) (o:=.own (s.heap.objs.size+1)) (h':=s.heap.push PySem.W.emptyDict) (t':=s.toks) (λb u q=>Heap.get?_push_of_some _ q) (Nat.le_refl _) ⟨_,e1⟩
 refine I1.laid (a:=s.heap.objs.size+1) (o:=.ins C s.heap.objs.size []) (t':=s.toks) (λb u q=>Heap.get?_push_of_some _ q) (Nat.le_of_eq (Heap.size_push _ _)) ?_
 have ne:s.heap.objs.size≠s.heap.objs.size+1:=Nat.ne_of_lt (Nat.lt_succ_self _)
 refine⟨by rw[qi ne,qd],Nat.zero_le _,ne,e2,λ_=>none,(Heap.Ns1.of_empty e3).at λo q=>Heap.get?_push_of_some _ q,λ_=>True.intro,λy hy=>absurd rfl hy⟩
theorem VF {prog:Program} {w:World} {env:Env} {e:Expr} {f:Str} {pos:Pos} {s:Shared} {Q:Value->Shared->Prop} (hb:attributeBase e f env (eval e env)=eval e env)
   (h:wpAny (model prog w) A (eval e env) (λo s₁=>wpAny (model prog w) A (getAttr o f true) Q E s₁) E s):wpAny (model prog w) A (eval (.Attribute e f pos) env) Q E s:=
 Attribute_any_ h (by rw[arm_eval_Attribute,hb])
end
def KO (K:PySem.W.Frag) (ta:TE) (f:Str):TE:=λσ H Q=>ta σ H λx H1=>∃a C dx fs v,x=.ref a/\H1 a=some (.ins C dx fs)/\UR K C/\Qa K C f/\fs.lookup f=some v/\Q v H1
def KY (K:PySem.W.Frag) (ta tv:TE) (f:Str):TS:=λD σ H=>tv σ H λy H1=>ta σ H1 λx H2=>∃a C dx fs,x=.ref a/\H2 a=some (.ins C dx fs)/\UR K C/\Qa K C f/\fs.length < 1000/\
 D.nx σ (upd H2 a (.ins C dx (Q3 f y fs)))
section
variable {X:Cx} {o e value:Expr} {f:Str} {pos pos' tpos:Pos} {ta tv:TE}
theorem Ws (he:JE X e ta) (hb:attributeBase e f X.env (eval e X.env)=eval e X.env):JE X (.Attribute e f pos) (KO X.K ta f):=.of (by
 have he:=he.to
 intro pins s σ H Q I h
 refine VF hb (ja (he pins s σ H _ I h) λu s1 ⟨x,H1,I1,rx,a,C,dx,fs,v,ex,ea,c,n,l,q⟩=>?_)
 subst ex
 obtain rfl:u=Value.ref a:=rx
 exact Wy I1 ea c n l λu' s2 I2 ru=>⟨v,H1,I2,ru,q⟩)
theorem vU (ha:JE X o ta) (hv:JE X value tv) (hs:swapsWith value (some (.Attribute o f pos')) pos.line X.env=pure false):JS X (.Assign [.Attribute o f pos'] value pos) (KY X.K ta tv f):=.of (by
 have ha:=ha.to
 have hv:=hv.to
 intro pins s σ H D I h
 refine plainObj_wpAny_Assign_Attribute (ja (hv pins s σ H _ I h) λu s1 ⟨y,H1,I1,ry,q⟩=>ja (ha pins s1 σ H1 _ I1 q) λov s2 ⟨x,H2,I2,rx,a,C,dx,fs,ex,ea,c,n,l,q2⟩=>?_) hs
 subst ex
 obtain rfl:ov=Value.ref a:=rx
 exact We I2 ea c n l ry λs3 I3=>⟨σ,_,I3,q2⟩)
end
section
variable {X:Cx} {pins:List (Addr×Obj)} {σ:St} {H:Hp} {s:Shared} {A:Around} {E:Value->Shared->Prop} {Q:Value->Shared->Prop} {c:Value} {b:Bool}
inductive Zw (K:PySem.W.Frag) (H:Hp):V->Value->Prop where
 | non:Zw K H .non (.type "NoneType")
 | bl (x:Bool):Zw K H (.bl x) (.type "bool")
 | int (i:Int):Zw K H (.int i) (.type "int")
 | str (x:Str):Zw K H (.str x) (.type "str")
 | flt (x:UInt64):Zw K H (.flt x) (.type "float")
 | lst {a:Addr} {xs:List V} (e:H a=some (.lst xs)):Zw K H (.ref a) (.type "list")
 | frz {a:Addr} {o:Obj} {xs:List V} (e:H a=some (.frz o (.lst xs))):Zw K H (.ref a) (.type "list")
 | tup {a:Addr} {xs:List V} (e:H a=some (.tup xs)):Zw K H (.ref a) (.type "tuple")
 | dK {a:Addr} {kvs:List (qW×V)} (e:H a=some (.dK kvs)):Zw K H (.ref a) (.type "dict")
 | dT {a:Addr} {kvs:List (List qW×V)} (e:H a=some (.dT kvs)):Zw K H (.ref a) (.type "dict")
 | ins {a C dx:Addr} {fs:List (Str×V)} (e:H a=some (.ins C dx fs)) (cl:UR K C) (ha:PySem.W.findIn K (.ref C) "__class__"=some (some (.builtin "object.__class__")))
     (hn:PySem.W.specialIn K (.builtin "object.__class__") "__get__"=some (some (.builtin "getset_descriptor.__get__"))) (htk:PySem.W.takesIn K (.builtin "object.__class__")=some true)
     (hm:PySem.W.mroIn K C (.type "object")=some true):Zw K H (.ref a) (.ref C)
theorem Ur {x:V} {u t:Value} (I:qx X pins σ H s) (rx:qQ x u) (ty:Zw X.K H x t) (e:PySem.W.kitOne X.K t c=some b) (h:∀tk,Q (.bool b) {s with toks:=tk}):
   wpAny (model X.prog X.w) A (call (.builtin "isinstance") [u,c]) Q E s:=by
 cases ty with
 | non=>cases (show u=Value.none from rx);exact PySem.W.kia_one PySem.W.kitx_none I.kIn True.intro e (λz=>nomatch z) h
 | bl y=>cases (show u=Value.bool y from rx);exact PySem.W.kia_one PySem.W.kitx_bool I.kIn True.intro e (λz=>nomatch z) h
 | int i=>obtain⟨t,q⟩:=(show ∃t,u=Value.int i t from rx);cases q;exact PySem.W.kia_one PySem.W.kitx_int I.kIn True.intro e (λz=>nomatch z) h
 | str y=>obtain⟨t,q⟩:=(show ∃t,u=Value.str y t from rx);cases q;exact PySem.W.kia_one PySem.W.kitx_str I.kIn True.intro e (λz=>nomatch z) h
 | flt y=>obtain⟨t,q⟩:=(show ∃t,u=Value.float y t from rx);cases q;exact PySem.W.kia_one PySem.W.kitx_float I.kIn True.intro e (λz=>nomatch z) h
 | @lst a xs ea=>
   cases (show u=Value.ref a from rx)
   obtain⟨_,_,n,_,h1⟩:=(show qJ X.prog X.w H s.heap a (.lst xs) from I.hok a _ ea)
   exact PySem.W.kia_one PySem.W.kitx_list I.kIn ⟨_,h1,rfl⟩ e (λz=>nomatch z) h
 | @frz a ob xs ea=>
   cases (show u=Value.ref a from rx)
   obtain⟨_,_,_,n,_,h1⟩:=(show qJ X.prog X.w H s.heap a (.frz ob (.lst xs)) from I.hok a _ ea)
   exact PySem.W.kia_one PySem.W.kitx_list I.kIn ⟨_,h1,rfl⟩ e (λz=>nomatch z) h
 | @tup a xs ea=>
   cases (show u=Value.ref a from rx)
   obtain⟨_,_,_,p⟩:=(show qJ X.prog X.w H s.heap a (.tup xs) from I.hok a _ ea)
   obtain⟨o,h1,h2,_⟩:=p
   exact PySem.W.kia_one PySem.W.kitx_tuple I.kIn ⟨o,h1,h2⟩ e (λz=>nomatch z) h
 | @dK a kvs ea=>
   cases (show u=Value.ref a from rx)
   obtain⟨_,_,vs,_,p⟩:=(show qJ X.prog X.w H s.heap a (.dK kvs) from I.hok a _ ea)
   obtain⟨o,es,ep,h1,h2,_⟩:=p
   exact PySem.W.kia_one PySem.W.kitx_dict I.kIn ⟨o,h1,h2.1⟩ e (λz=>nomatch z) h
 | @dT a kvs ea=>
   cases (show u=Value.ref a from rx)
   obtain⟨_,_,xs,_,o,es,ep,h1,h2,_⟩:=(show qJ X.prog X.w H s.heap a (.dT kvs) from I.hok a _ ea)
   exact PySem.W.kia_one PySem.W.kitx_dict I.kIn ⟨o,h1,h2.1⟩ e (λz=>nomatch z) h
 | @ins a C dx fs ea cl ha hn htk hm=>
   cases (show u=Value.ref a from rx)
   obtain⟨mA,O,_⟩:=zi I.hok ea
   obtain⟨od,J,_⟩:=O.look
   exact PySem.W.kia_one (PySem.W.kitx_own (cl.get _) cl.hd ha hn htk hm) I.kIn J e (λz=>nomatch z) h
end
end L2
namespace L2
open PySem PySem.Spec PyProof.Rows
structure q5 (k:Nat) (A:Around):Prop where
 hd:A.handled=none
 dp:A.depth+3*k+5 < recursionLimit
 un:A.units+16*k+200 < cLine
 gd:A.guards=some []
theorem q5.mono {j k:Nat} {A:Around} (r:q5 k A) (h:j<=k):q5 j A:=⟨r.hd,by have:=r.dp;omega,by have:=r.un;omega,r.gd⟩
theorem q5.deeper {k:Nat} {A:Around} (r:q5 (k+1) A) (env:Env):q5 k (A.deeper env):=
 ⟨r.hd,by have:=r.dp;show A.depth+1+3*k+5 < _;omega,by have:=r.un;show A.units+3+16*k+200 < _;omega,r.gd⟩
theorem Wp {A:Around} {C:Addr} {us:List Value} {kw:List (Str×Value)}:(A.under (.builtin "type.__call__" ⟨.ref C::us,kw⟩)).depth=A.depth+1:=by
 first | rfl | simp [Around.under,Code.weight,Code.isCreation,Code.isGuard,Code.isCaller,Code.frames,Code.isFrame,guardIds]
theorem Wo {A:Around} {C:Addr} {us:List Value} {kw:List (Str×Value)}:(A.under (.builtin "type.__call__" ⟨.ref C::us,kw⟩)).units=A.units+1:=by
 first | rfl | simp [Around.under,Code.cUnits,Code.frames,Code.isFrame]
theorem q5.make {k:Nat} {A:Around} (r:q5 (k+1) A) (C:Addr) (us:List Value) (kw:List (Str×Value)):q5 k (A.under (.builtin "type.__call__" ⟨.ref C::us,kw⟩)):=
 ⟨r.hd,by have:=r.dp;rw[Wp];omega,by have:=r.un;rw[Wo];omega,(by have:=r.gd;first | exact this | simpa [Around.under,Code.isGuard,guardIds] using this)⟩
theorem q5.depth {k:Nat} {A:Around} (r:q5 k A):A.depth < recursionLimit:=by have:=r.dp;omega
theorem q5.units {k:Nat} {A:Around} (r:q5 k A):A.units+64 < cLine:=by have:=r.un;omega
def Qh:TA:=λ_ H Q=>Q [] H
def jd (ta:TE) (tr:TA):TA:=λσ H Q=>ta σ H λx H1=>tr σ H1 λxs H2=>Q (x::xs) H2
section
variable {X:Cx} {e:Expr} {es:List Expr} {te:TE} {t:TA} {pos:Pos}
theorem qf:JA X [] Qh:=.of (by
 exact λ_ _ _ _ H Q I h=>Calls.spliced_nil ⟨[],H,I,.nil,h⟩)
theorem qb (ha:JE X e te) (hr:JA X es t) (hs:starEach (e::es) X.env=(false,eval e X.env)::starEach es X.env:=by rfl):JA X (e::es) (jd te t):=.of (by
 have ha:=ha.to
 have hr:=hr.to
 intro pos pins s σ H Q I h
 rw[hs]
 show wpAny _ _ (spliced ((false,eval e X.env)::backTo pos (starEach es X.env))) _ _ s
 refine Calls.spliced_cons (ja (ha pins s σ H _ I h) λu s1 ⟨x,H1,I1,r1,q1⟩=>?_)
 exact ja (hr pos pins s1 σ H1 _ I1 q1) λus s2 ⟨xs,H2,I2,r2,q2⟩=>⟨x::xs,H2,I2,.cons r1 r2,q2⟩)
def kS (t:TA):TE:=λσ H Q=>t σ H λxs H1=>xs.length<=sizeLine/\∀p,H1 p=none->Q (.ref p) (upd H1 p (.tup xs))
def xB (t:TA):TE:=λσ H Q=>t σ H λxs H1=>xs.length<=sizeLine/\∀p,H1 p=none->Q (.ref p) (upd H1 p (.lst xs))
theorem qM {x1} (h:JA X es t):JE X (.Tuple es x1 pos) (kS t):=.of (by
 have h:=h.to
 intro pins s σ H Q I hq
 refine wpAny_Tuple_spliced (ja (h pos pins s σ H _ I hq) λus s1 ⟨xs,H1,I1,r,z,q⟩=>⟨by rw[<-r.length];exact z,?_⟩)
 have hf:H1 s1.heap.objs.size=none:=I1.hok.fresh (Nat.le_refl _)
 refine⟨.ref s1.heap.objs.size,upd H1 s1.heap.objs.size (.tup xs),I1.laid (t':=s1.toks) (λb u e=>Heap.get?_push_of_some _ e) (Nat.le_refl _) ?_,rfl,q _ hf⟩
 exact⟨z,us,r,⟨_,Heap.get?_push_size _ rfl,rfl,_,rfl⟩⟩)
theorem qA (h:JA X es t):JE X (.List es pos) (xB t):=.of (by
 have h:=h.to
 intro pins s σ H Q I hq
 refine wpAny_List_spliced (ja (h pos pins s σ H _ I hq) λus s1 ⟨xs,H1,I1,r,z,q⟩=>⟨by rw[<-r.length];exact z,?_⟩)
 have hf:H1 s1.heap.objs.size=none:=I1.hok.fresh (Nat.le_refl _)
 refine⟨.ref s1.heap.objs.size,upd H1 s1.heap.objs.size (.lst xs),I1.laid (t':=s1.toks) (λb u e=>Heap.get?_push_of_some _ e) (Nat.le_refl _) ?_,rfl,q _ hf⟩
 exact⟨z,us,0,r,Heap.get?_push_size _ rfl⟩)
end
abbrev Sp:=List V->Hp->VK->XK->Prop
abbrev z9:=List Env->Hp->Shared->XK->Value->Shared->Prop
structure XX (P:Program) (w:World) (K:PySem.W.Frag) (mg:Str->Option Value) (base:Heap) (A:Around) (outer:List Env) (s:Shared) (H:Hp):Prop where
 frames:A.frames=some outer
 mod:Mod K mg base
 bs:∀b o,base.get? b=some o->s.heap.get? b=some o/\H b=none
 bsz:base.objs.size<=s.heap.objs.size
 funs:s.heap.FunFrames base outer
 frf:∀b∈ZW outer,H b=none
 hok:Jh P w H s.heap
 bare:AllBare s.gens
def CE (outer:List Env) (P:Program) (w:World) (H:Hp) (s:Shared) (Q:VK) (u:Value) (s':Shared):Prop:=
 ∃v H',s'.os=s.os/\AllBare s'.gens/\Un (ZW outer) [] H H' s.heap s'.heap/\Jh P w H' s'.heap/\qQ v u/\Q v H'
def CR (CX:z9) (outer:List Env) (P:Program) (w:World) (H:Hp) (s:Shared) (Q:VK) (E:XK) (r:Result) (s':Shared):Prop:=
 match r with
 | .ok (.ret u)=>CE outer P w H s Q u s'
 | .ok _=>False
 | .error e=>CX outer H s E e s'
structure qz (P:Program) (w:World) (K:PySem.W.Frag) (mg:Str->Option Value) (base:Heap) (CX:z9) (k:Nat) (f:Addr) (fd:FuncData) (ps:List Str) (sp:Sp):Prop where
 len:∀vs H Q E,sp vs H Q E->vs.length=ps.length
 run:∀(A:Around) (outer:List Env) (s:Shared) (H:Hp) (args:Args) (us:List Value) (vs:List V) (Q:VK) (E:XK),q5 k A->XX P w K mg base A outer s H->BindsTo s fd args (ps.zip us)->qI vs us->sp vs H Q E->
   codeAny (model P w) A (.call (.ref f) args) (CR CX outer P w H s Q E) s
theorem qz.imp {P:Program} {w:World} {K:PySem.W.Frag} {mg:Str->Option Value} {base:Heap} {CX:z9} {k:Nat} {f:Addr} {fd:FuncData} {ps:List Str} {sp sp':Sp} (F:qz P w K mg base CX k f fd ps sp)
   (h:∀vs H Q E,sp' vs H Q E->sp vs H Q E):qz P w K mg base CX k f fd ps sp':=
 ⟨λvs H Q E q=>F.len vs H Q E (h _ _ _ _ q),λA outer s H args us vs Q E hr he hb hv hs=>F.run A outer s H args us vs Q E hr he hb hv (h _ _ _ _ hs)⟩
theorem XX.make {P:Program} {w:World} {K:PySem.W.Frag} {mg:Str->Option Value} {base:Heap} {A:Around} {outer:List Env} {s:Shared} {H:Hp} (e:XX P w K mg base A outer s H) (C:Addr) (us:List Value) (kw:List (Str×Value)):
   XX P w K mg base (A.under (.builtin "type.__call__" ⟨.ref C::us,kw⟩)) outer s H:=⟨by first | exact e.frames | (simpa [Around.under,Code.envs,Code.isFrame,pushEnvs] using e.frames),e.mod,e.bs,e.bsz,e.funs,e.frf,e.hok,e.bare⟩
section
variable {X:Cx} {pins:List (Addr×Obj)} {σ:St} {H:Hp} {s s':Shared}
theorem qx.env0 (I:qx X pins σ H s):XX X.prog X.w X.K X.mg X.base X.A X.stack s H:=
 ⟨I.ok.frames,I.ok.mod,I.bs,Nat.le_trans I.ok.bsz I.sz,I.stack,I.stkFree,I.hok,I.bare⟩
theorem qx.after {Q:VK} {u:Value} (I:qx X pins σ H s) (h:CE X.stack X.prog X.w H s Q u s'):EP X pins σ Q u s':=by
 obtain⟨v,H',os,bare,un,hok,r,q⟩:=h
 obtain⟨hh,g,d,t,os'⟩:=s'
 obtain rfl:os'=s.os:=os
 exact⟨v,H',I.call (h':=hh) (g':=g) (d':=d) (t':=t) (ch:=[]) un hok bare (λb z=>absurd z (by simp)),r,q⟩
end
def Xl (sp:Sp) (dvs:List V) (E:XK) (t:TA):TE:=λσ H Q=>t σ H λvs H1=>sp (vs++dvs) H1 Q E
def WU (C:Addr) (m:Str) (sp:Sp) (dvs:List V) (E:XK) (ta:TE) (t:TA):TE:=λσ H Q=>ta σ H λx H1=>∃a dx fs,x=.ref a/\H1 a=some (.ins C dx fs)/\fs.lookup m=none/\
 t σ H1 λvs H2=>sp (x::(vs++dvs)) H2 Q E
def Qi (K:PySem.W.Frag) (fd:FuncData) (ps:List Str) (ds:List Value):Prop:=
 ∀(s:Shared) (us:List Value),K.In s.heap->(us++ds).length=ps.length->BindsTo s fd ⟨us,[]⟩ (ps.zip (us++ds))
theorem Qi.all {K:PySem.W.Frag} {fd:FuncData} {ps:List Str} (h:∀us:List Value,us.length=ps.length->bindArgs fd ⟨us,[]⟩=pure (ps.zip us)):Qi K fd ps []:=λs us _ hl=>by
 rw[List.append_nil]at hl ⊢
 exact .of_eq (h us hl)
def Qz (CX:z9) (X:Cx) (E:XK):Prop:=∀(pins:List (Addr×Obj)) (σ:St) (H:Hp) (s:Shared) (e:Value) (s':Shared),qx X pins σ H s->CX X.stack H s E e s'->X.xe e s'
section
variable {X:Cx} {CX:z9} {k:Nat} {f C:Addr} {fd:FuncData} {ps:List Str} {sp:Sp} {dvs:List V} {ds:List Value} {E:XK} {x m:Str} {p pos apos:Pos} {e o:Expr} {es:List Expr} {ta:TE} {t:TA}
theorem vk {pins:List (Addr×Obj)} {σ:St} {H:Hp} {s:Shared} {Q:VK} {us:List Value} {vs:List V} (F:qz X.prog X.w X.K X.mg X.base CX k f fd ps sp) (hr:q5 k X.A) (hb:Qi X.K fd ps ds) (hd:qI dvs ds) (hx:Qz CX X E)
   (I:qx X pins σ H s) (r:qI vs us) (h:sp (vs++dvs) H Q E):wpAny (model X.prog X.w) X.A (call (.ref f) us) (EP X pins σ Q) X.xe s:=by
 have r2:qI (vs++dvs) (us++ds):=r.append hd
 have hl:(us++ds).length=ps.length:=by rw[<-r2.length];exact F.len _ _ _ _ h
 refine wpAny_call (codeAny_mono (F.run X.A X.stack s H ⟨us,[]⟩ (us++ds) (vs++dvs) Q E hr I.env0 (hb s us I.kIn hl) r2 h) λr s' hq=>?_)
 cases r with
 | error e=>exact hx pins σ H s e s' I hq
 | ok fl=>
   cases fl with
   | ret u=>exact I.after hq
   | next=>exact False.elim hq
   | brk=>exact False.elim hq
   | cont=>exact False.elim hq
theorem Vc (F:qz X.prog X.w X.K X.mg X.base CX k f fd ps sp) (hr:q5 k X.A) (hg:Gl X x) (hm:X.mg x=some (.ref f)) (hk:PySem.W.keepIn X.K (.ref f)=true) (hb:Qi X.K fd ps ds) (hd:qI dvs ds) (hx:Qz CX X E)
   (ha:PA X (e::es) t) (hdb:(x==("__debug__":Str))=false:=by decide) (he:starEach (e::es) X.env=(false,eval e X.env)::starEach es X.env:=by rfl) (hpl:(backTo pos (starEach es X.env)).any (·.1)=false:=by rfl):
   PE X (.Call (.Name x p) (e::es) [] pos) (Xl sp dvs E t):=by
 intro pins s σ H Q I h
 refine wpAny_Call_Name_kw (ze I hg hm ?_ hdb)
 refine PySem.W.callWith_K (h₀:=X.base) I.ok.mod.kin hk (ja (ha pos pins s σ H _ I h) λus s1 ⟨vs,H1,I1,r,q⟩=>⟨I1.kIn,?_⟩) he hpl
 exact vk F hr hb hd hx I1 r q
theorem vz {pl:Sem Bool} (he:PE X o ta) (c:UR X.K C) (hm:yS X.K C m f) (F:qz X.prog X.w X.K X.mg X.base CX k f fd ps sp) (hr:q5 k X.A) (hb:Qi X.K fd ps ds) (hd:qI dvs ds) (hx:Qz CX X E)
   (ht:eval (.Call (.Attribute o m apos) [] [] pos) X.env=(do
     let ov <-eval o X.env
     standAt apos.atName
     let (f,first) <-holding [ov] (getMethod ov m pl)
     callWith pos f first (backTo pos (starEach [] X.env)) (backToKw pos (keywordEach [] X.env))):=by rfl):
   PE X (.Call (.Attribute o m apos) [] [] pos) (WU C m sp dvs E ta Qh):=by
 intro pins s σ H Q I h
 refine PySem.W.methodCall_KW (pl:=pl) (ja (he pins s σ H _ I h) λu s1 ⟨x,H1,I1,rx,a,dx,fs,ex,ea,l,q⟩=>?_) ht
 subst ex
 obtain rfl:u=Value.ref a:=rx
 refine Wx I1 ea c hm l ?_
 exact PySem.W.callWith_K0 (first:=[.ref a]) I1.kIn hm.kp (vk (us:=[.ref a]) (vs:=[.ref a]) F hr hb hd hx I1 (.cons rfl .nil) q)
theorem vX {pl:Sem Bool} (he:JE X o ta) (c:UR X.K C) (hm:yS X.K C m f) (F:qz X.prog X.w X.K X.mg X.base CX k f fd ps sp) (hr:q5 k X.A) (hb:Qi X.K fd ps ds) (hd:qI dvs ds) (hx:Qz CX X E) (ht:eval (.Call (.Attribute o m apos) [] [] pos) X.env=(do
     let ov <-eval o X.env
     standAt apos.atName
     let (f,first) <-holding [ov] (getMethod ov m pl)
     callWith pos f first (backTo pos (starEach [] X.env)) (backToKw pos (keywordEach [] X.env))):=by rfl):JE X (.Call (.Attribute o m apos) [] [] pos) (WU C m sp dvs E ta Qh):=.of (vz he.to c hm F hr hb hd hx ht)
structure Mk (K:PySem.W.Frag) (C f:Addr):Prop where
 makes:PySem.W.makesIn K C=true
 init:PySem.W.findIn K (.ref C) "__init__"=some (some (.ref f))
 fn:PySem.W.isFn K (.ref f)=true
 kp:PySem.W.keepIn K (.ref C)=true
end
section
variable {X:Cx} {CX:z9} {k:Nat} {f C:Addr} {fd:FuncData} {ps ks:List Str} {sp:Sp} {E:XK} {x m:Str} {p pos apos kpos:Pos} {e o:Expr} {es:List Expr} {kws:List Keyword} {te ta:TE} {t tk:TA} {nm:Option Str}
structure Gv (K:PySem.W.Frag) (fd:FuncData) (ps ks:List Str) (g:List Value->List Value->List Value) (gV:List V->List V->List V):Prop where
 to:∀(s:Shared) (us ws:List Value),K.In s.heap->(g us ws).length=ps.length->BindsTo s fd ⟨us,ks.zip ws⟩ (ps.zip (g us ws))
 rel:∀{vs:List V} {us:List Value} {zs:List V} {ws:List Value},qI vs us->qI zs ws->qI (gV vs zs) (g us ws)
variable {g:List Value->List Value->List Value} {gV:List V->List V->List V}
end
structure qK (N P:List Str) (sc:Scope):Prop where
 kind:sc.kind=.function
 co:sc.isCoroutine=false
 gen:sc.isGenerator=false
 nd:N.Nodup
 pre:N.take P.length=P
 par:∀x∈P,sc.names.lookup x=some .local\/sc.names.lookup x=some .cell
 nofree:∀y∈sc.names,y.2≠.free
theorem Yw {kindOf:Str->Option NameKind} {x:Str}:∀{binds:List (Str×Value)} {m:Str->Option Value},(∀v,(x,v)∉binds)->bindL kindOf binds m x=m x
 | [],_,_=>rfl
 | (n,v)::r,m,h=>by
   unfold bindL
   rw[Yw λw hw=>h w (List.mem_cons_of_mem _ hw)]
   split
   . have:x≠n:=by rintro rfl;exact h v List.mem_cons_self
     simp [this]
   . rfl
theorem Yy {kindOf:Str->Option NameKind} {x:Str}:∀{binds:List (Str×Value)} {m:Str->Option Value},(∀v,(x,v)∉binds)->bindC kindOf binds m x=m x
 | [],_,_=>rfl
 | (n,v)::r,m,h=>by
   unfold bindC
   rw[Yy λw hw=>h w (List.mem_cons_of_mem _ hw)]
   split
   . rfl
   . have:x≠n:=by rintro rfl;exact h v List.mem_cons_self
     simp [this]
theorem Yx {kindOf:Str->Option NameKind} {x:Str} {v:Value}:∀{P:List Str} {vs:List Value} {i:Nat} {m:Str->Option Value},P.Nodup->P[i]?=some x->vs[i]?=some v->kindOf x=some .local->
   bindL kindOf (P.zip vs) m x=some v
 | [],_,_,_,_,h,_,_=>by simp at h
 | _::_,[],_,_,_,_,h,_=>by simp at h
 | p::P,w::vs,0,m,nd,h1,h2,hk=>by
   simp at h1 h2;subst h1;subst h2
   show bindL kindOf ((p,w)::P.zip vs) m p=_
   unfold bindL
   rw[Yw λv hv=>(List.nodup_cons.mp nd).1 (List.of_mem_zip hv).1,if_pos hk]
   simp
 | p::P,w::vs,i+1,m,nd,h1,h2,hk=>by
   show bindL kindOf ((p,w)::P.zip vs) m x=_
   unfold bindL
   exact Yx (i:=i) (List.nodup_cons.mp nd).2 (by simpa using h1) (by simpa using h2) hk
theorem Yz {kindOf:Str->Option NameKind} {x:Str} {v:Value}:∀{P:List Str} {vs:List Value} {i:Nat} {m:Str->Option Value},P.Nodup->P[i]?=some x->vs[i]?=some v->kindOf x≠some .local->
   bindC kindOf (P.zip vs) m x=some v
 | [],_,_,_,_,h,_,_=>by simp at h
 | _::_,[],_,_,_,_,h,_=>by simp at h
 | p::P,w::vs,0,m,nd,h1,h2,hk=>by
   simp at h1 h2;subst h1;subst h2
   show bindC kindOf ((p,w)::P.zip vs) m p=_
   unfold bindC
   rw[Yy λv hv=>(List.nodup_cons.mp nd).1 (List.of_mem_zip hv).1,if_neg hk]
   simp
 | p::P,w::vs,i+1,m,nd,h1,h2,hk=>by
   show bindC kindOf ((p,w)::P.zip vs) m x=_
   unfold bindC
   exact Yz (i:=i) (List.nodup_cons.mp nd).2 (by simpa using h1) (by simpa using h2) hk
def JY (N:List Str) (vs:List V):St:=vs.map some++List.replicate (N.length - vs.length) none
def j5 (CX:z9) (P:Program) (w:World) (K:PySem.W.Frag) (mg:Str->Option Value) (base:Heap) (N:List Str) (qual:Str) (scope:Scope) (f:Addr) (cd:Value) (A:Around) (outer:List Env) (s:Shared) (H:Hp) (E:XK):Cx where
 prog:=P
 w:=w
 K:=K
 mg:=mg
 base:=base
 A:=A.deeper (envOfC qual scope s.heap.objs.size f cd)
 N:=N
 s₀:=s
 H₀:=H
 env:=envOfC qual scope s.heap.objs.size f cd
 outer:=outer
 stack:=envOfC qual scope s.heap.objs.size f cd::outer
 ex:=[]
 calm:=true
 fn:=λ_=>true
 pn:=[]
 xe:=λe s'=>wpAny (model P w) (A.deeper (envOfC qual scope s.heap.objs.size f cd)) (leaving (envOfC qual scope s.heap.objs.size f cd) e) (λ_ s''=>CX outer H s E e s'') (λe' s''=>CX outer H s E e' s'') s'
theorem XO {sc:Scope} {n:Nat} {x:Str} (h:sc.names.lookup x=some .cell):∃c,(cellsFrom n sc.names []).lookup x=some c:=by
 have q:=PySem.W.cellsFrom_some sc.names n [] (.inl h)
 exact Option.isSome_iff_exists.mp q
theorem Ut {CX:z9} {P:Program} {w:World} {K:PySem.W.Frag} {mg:Str->Option Value} {base:Heap} {N ps:List Str} {qual:Str} {scope:Scope} {f:Addr} {cd:Value} {A:Around} {outer:List Env} {s s1:Shared} {H:Hp} {E:XK} {us:List Value} {vs:List V}
   (S:qK N ps scope) (hd:A.handled=none) (e0:XX P w K mg base A outer s H) (hl:vs.length=ps.length) (r:qI vs us)
   (x:InCallC s s.heap.objs.size (bindL (envOfC qual scope s.heap.objs.size f cd).kindOf (ps.zip us) λ_=>none) (cellsFrom (s.heap.objs.size+1) scope.names []) (bindC (envOfC qual scope s.heap.objs.size f cd).kindOf (ps.zip us) λ_=>none) s1):
   qx (j5 CX P w K mg base N qual scope f cd A outer s H E) [] (JY N vs) H s1:=by
 have hpl:ps.length<=N.length:=by have:=congrArg List.length S.pre;rw[List.length_take]at this;omega
 obtain⟨h1,tk,rfl,hk⟩:=x.done
 have noA:∀b:Addr,b∉(j5 CX P w K mg base N qual scope f cd A outer s H E).ex:=λb z=>absurd (show b∈([]:List Addr) from z) (by simp)
 refine⟨⟨e0.mod,S.kind,rfl,rfl,Nat.le_refl _,λy z c h1 h2=>?_,λy hy=>?_,λy c _ h=>?_,λ_=>hd,Around.frames_deeper e0.frames,.inr ⟨rfl,rfl⟩,λb z=>absurd z (noA b),e0.bs,e0.bsz,λb _ _=>noA b,λb z=>absurd z (noA b),e0.funs,e0.frf⟩,
   rfl,e0.bare,Un.kept hk,⟨_,x.toInCall.ns,λi y v h1 h2 h3=>?_⟩,λy c h=>⟨_,x.cell y c h⟩,e0.hok.fresh (Nat.le_refl _),λy c h=>?_,λp hp=>absurd (show p∈([]:List (Addr×Obj)) from hp) (by simp),e0.hok.kept hk,?_⟩
 . exact name_of_addr x.apart (PySem.mem_of_lookup h1) (PySem.mem_of_lookup h2)
 . have hy:scope.names.lookup y=some .cell\/scope.names.lookup y=some .free:=hy
   rcases hy with hy | hy
   . exact XO hy
   . exact absurd rfl (S.nofree _ (PySem.mem_of_lookup hy))
 . exact Nat.le_of_lt (x.above y c (PySem.mem_of_lookup h))
 . have hi:i < vs.length:=by
     unfold JY at h2
     by_cases hi:i < vs.length
     . exact hi
     . rw[List.getElem?_append_right (by simpa using hi)]at h2
       rw[List.getElem?_replicate]at h2
       split at h2<;>cases h2
   have ha:vs[i]?=some v:=by
     unfold JY at h2
     rw[List.getElem?_append_left (by simpa using hi),List.getElem?_map]at h2
     cases e:vs[i]? with
     | none=>rw[e]at h2;cases h2
     | some a=>rw[e]at h2;cases h2;rfl
   obtain⟨u,hu,rv⟩:=r.get ha
   have hp:ps[i]?=some y:=by
     rw[<-S.pre,List.getElem?_take_of_lt (by omega)];exact h1
   have ndP:ps.Nodup:=by rw[<-S.pre];exact S.nd.sublist (List.take_sublist _ _)
   refine⟨u,rv,?_⟩
   rcases S.par y (List.mem_of_getElem? hp) with k | k
   . exact .inl ⟨k,Yx ndP hp hu k⟩
   . obtain⟨c,e⟩:=XO (n:=s.heap.objs.size+1) k
     refine .inr ⟨.inl k,c,e,?_⟩
     have q:=x.cell y c e
     rw[Yz ndP hp hu (by show scope.names.lookup y≠_;rw[k];decide)]at q
     exact q
 . exact e0.hok.fresh (Nat.le_of_lt (x.above y c (PySem.mem_of_lookup h)))
 . unfold JY
   show _=N.length
   rw[List.length_append,List.length_map,List.length_replicate]
   omega
theorem xv {CX:z9} {P:Program} {w:World} {K:PySem.W.Frag} {mg:Str->Option Value} {base:Heap} {k:Nat} {f:Addr} {name qual:Str} {params:Arguments} {body:List Stmt} {scope:Scope} {dV kV doc pm cdv ct oc:Value} {an od:Option Addr}
   {osl:Array (Option Value)} {N ps:List Str} {sp:Sp} (lk:K.lookup f=some ⟨oc,od,.func (PySem.W.fnOf name qual params body scope dV kV doc pm an cdv ct),osl⟩) (hcd:PySem.W.codeIn K cdv qual=true) (S:qK N ps scope)
   (len:∀vs H Q E,sp vs H Q E->vs.length=ps.length)
   (hbody:∀(A:Around) (outer:List Env) (s:Shared) (H:Hp) (vs:List V) (Q:VK) (E:XK),q5 k (A.deeper (envOfC qual scope s.heap.objs.size f cdv))->sp vs H Q E->
     ∃t,kN (j5 CX P w K mg base N qual scope f cdv A outer s H E) body t/\t {nx:=λ_ H'=>Q .non H',rt:=Q} (JY N vs) H):
   qz P w K mg base CX (k+1) f (PySem.W.fnOf name qual params body scope dV kV doc pm an cdv ct) ps sp:=by
 refine⟨len,λA outer s H args us vs Q E hr e0 hb r hsp=>?_⟩
 have hl:=len _ _ _ _ hsp
 have KX:K.In s.heap:=e0.mod.kin.keeps λb o e=>(e0.bs b o e).1
 have lim:s.heap.NoLimit:=e0.mod.nolimit.keeps λb o e=>(e0.bs b o e).1
 have hkind:∀y∈ps.zip us,scope.names.lookup y.1=some .local\/(scope.names.lookup y.1=some .cell/\((cellsFrom (s.heap.objs.size+1) scope.names []).lookup y.1).isSome=true):=λ⟨n,v⟩ hy=>by
   rcases S.par n (List.of_mem_zip hy).1 with q | q
   . exact .inl q
   . exact .inr ⟨q,PySem.W.cellsFrom_some _ _ _ (.inl q)⟩
 refine codeAny_call_function hr.depth (KX _ _ lk) rfl S.co S.gen rfl (PySem.W.codeRec_of KX hcd) (hb _ _ _ _ ?_)
 refine wpAny_newFunctionEnv_cells S.kind hkind λenv he s1 x=>?_
 subst he
 refine⟨lim.keeps x.toInCall.keep,codeAny_func ?_⟩
 obtain⟨t,ht,hq⟩:=hbody A outer s H vs Q E (hr.deeper _) hsp
 have I:qx (j5 CX P w K mg base N qual scope f cdv A outer s H E) [] (JY N vs) H s1:=Ut S hr.hd e0 hl r x
 refine wpAny_mono (ht [] s1 (JY N vs) H _ I hq) (λfl s' hs=>?_) λe s' hs=>hs
 have fin:∀{σ':St} {H':Hp} {v:V} {u:Value},qx (j5 CX P w K mg base N qual scope f cdv A outer s H E) [] σ' H' s'->qQ v u->Q v H'->CE outer P w H s Q u s':=
   λ{σ' H' v u} J rv q=>⟨v,H',J.os,J.bare,J.base,J.hok,rv,q⟩
 cases fl with
 | ret u=>
   obtain⟨v,σ',H',J,rv,q⟩:=hs
   exact fin J rv q
 | next=>
   obtain⟨σ',H',J,q⟩:=hs
   exact fin (v:=V.non) (u:=Value.none) J rfl q
 | brk=>
   obtain⟨_,_,_,q⟩:=hs
   exact False.elim q
 | cont=>
   obtain⟨_,_,_,q⟩:=hs
   exact False.elim q
end L2
namespace L2
open PySem PySem.Spec PyProof.Rows
section
variable {X:Cx} {x:Str} {p pos:Pos} {e:Expr} {es:List Expr} {t:TA} {id T:String} {r:List V->Hp->VK->Prop}
def yZ (r:List V->Hp->VK->Prop) (t:TA):TE:=λσ H Q=>t σ H λvs H1=>r vs H1 Q
theorem ql (hc:jW X (.builtin id) r) (hg:Gl X x) (hm:X.mg x=none) (hv:bootBuiltins x=some (.builtin id)) (ha:JA X (e::es) t) (hn:x≠"__name__":=by decide) (hdb:(x==("__debug__":Str))=false:=by decide) (he:starEach (e::es) X.env=(false,eval e X.env)::starEach es X.env:=by rfl) (hpl:(backTo pos (starEach es X.env)).any (·.1)=false:=by rfl):JE X (.Call (.Name x p) (e::es) [] pos) (yZ r t):=.of (by
 have ha:=ha.to
 intro pins s σ H Q I h
 refine wpAny_Call_Name_kw (QJ I hg hm hv ?_ hn hdb)
 exact PyProof.Rows.callWith_builtin1 (ja (ha pos pins s σ H _ I h) λus s1 ⟨vs,H1,I1,r1,q1⟩=>hc pins s1 σ H1 vs us Q I1 r1 q1) he hpl)
theorem ji (hc:jW X (.type T) r) (hg:Gl X x) (hm:X.mg x=none) (hv:bootBuiltins x=some (.type T)) (ha:JA X (e::es) t) (hn:x≠"__name__":=by decide) (hdb:(x==("__debug__":Str))=false:=by decide) (he:starEach (e::es) X.env=(false,eval e X.env)::starEach es X.env:=by rfl) (hpl:(backTo pos (starEach es X.env)).any (·.1)=false:=by rfl):JE X (.Call (.Name x p) (e::es) [] pos) (yZ r t):=.of (by
 have ha:=ha.to
 intro pins s σ H Q I h
 refine wpAny_Call_Name_kw (QJ I hg hm hv ?_ hn hdb)
 exact PyProof.Rows.callWith_type1 (ja (ha pos pins s σ H _ I h) λus s1 ⟨vs,H1,I1,r1,q1⟩=>hc pins s1 σ H1 vs us Q I1 r1 q1) he hpl)
end
end L2
namespace HT
open PySem PyProof.Rows
section
open PySem.SeqAt
open PySem.AutoSeq1 (wpAny_loadPart')
open PySem.MeetsSeq PySem.MeetsSeq2 PySem.MeetsSeq3
end
section
variable {prog:Program} {w:World} {A:Around} {E:Value->Shared->Prop} {s:Shared}
theorem cat_tup {t b:Addr} {vs ws:List Value} {Q:Value->Shared->Prop} (ht:IsTup s.heap t vs.toArray) (hb:IsTup s.heap b ws.toArray) (hv:vs≠[])
   (h1:ws=[]->Q (.ref t) s) (h2:ws≠[]->Q (.ref s.heap.objs.size) {s with heap:=s.heap.push {cls:=.type "tuple",data:=.seq (vs++ws).toArray}})
   (hsz:vs.length+ws.length<=sizeLine):wpAny (model prog w) A (binaryOp .Add (.ref t) (.ref b)) Q E s:=by
 obtain⟨⟨cls,dd,data,sl⟩,ho,hc,n,hd⟩:=id ht
 obtain⟨⟨cls2,dd2,data2,sl2⟩,ho2,hc2,n2,hd2⟩:=id hb
 simp only at hc hd hc2 hd2
 subst hc hd hc2 hd2
 have e:vs.toArray++ws.toArray=(vs++ws).toArray:=by simp
 by_cases hw:ws=[]
 . exact concat_meets ⟨_,ho,rfl⟩ ⟨_,ho2,rfl⟩ noFill_tuple_add seq_tuple_add PySem.F.slot_tuple_add PySem.F.entry_tuple_add (PySem.F.args_tuple_add_2 _ _)
     (tuple_addW1 t b vs.toArray ws.toArray n n2 dd dd2 sl sl2 (by simpa using hv) (by simp [hw])) ⟨ho,ho2,h1 hw⟩
 . refine concat_meets ⟨_,ho,rfl⟩ ⟨_,ho2,rfl⟩ noFill_tuple_add seq_tuple_add PySem.F.slot_tuple_add PySem.F.entry_tuple_add (PySem.F.args_tuple_add_2 _ _)
     (tuple_addW2 t b vs.toArray ws.toArray n n2 dd dd2 sl sl2 (by simpa using hv) (by simpa using hw) (by rw[List.size_toArray,List.size_toArray];exact hsz)) ⟨ho,ho2,?_⟩
   rw[e]
   exact h2 hw
def sIx (n d:Nat):Option Int->Nat
 | none=>d
 | some v=>if v < 0 then (v+(n:Int)).toNat else min v.toNat n
theorem sIx_none (n d:Nat):sIx n d none=d:=rfl
theorem sIx_nat (n d k:Nat):sIx n d (some (k:Int))=min k n:=by
 show (if (k:Int) < 0 then ((k:Int)+(n:Int)).toNat else min (k:Int).toNat n)=min k n
 rw[if_neg (by omega),Int.toNat_natCast]
theorem xN (n d:Nat) (hd:d<=n) (o:Option Int):sIx n d o<=n:=by
 cases o with
 | none=>exact hd
 | some v=>
   show (if v < 0 then (v+(n:Int)).toNat else min v.toNat n)<=n
   by_cases hv:v < 0
   . rw[if_pos hv];omega
   . rw[if_neg hv];exact Nat.min_le_right _ _
theorem VC (v:Int) (n d:Nat):(if v < 0 then max (v+(n:Int)) 0 else min v (n:Int))=((sIx n d (some v):Nat):Int):=by
 show (if v < 0 then max (v+(n:Int)) 0 else min v (n:Int))=(((if v < 0 then (v+(n:Int)).toNat else min v.toNat n):Nat):Int)
 by_cases hv:v < 0
 . simp only[if_pos hv];omega
 . simp only[if_neg hv];omega
theorem WG (lo hi:Option Int) (n:Nat):Builtin.Slice.sliceAdjust lo hi 1 (n:Int)=(((sIx n 0 lo:Nat):Int),((sIx n n hi:Nat):Int)):=by
 have h1:¬((1:Int) < 0):=by omega
 unfold Builtin.Slice.sliceAdjust
 simp only[h1,if_false]
 refine Prod.ext ?_ ?_
 . cases lo with
   | none=>rfl
   | some v=>exact VC v n 0
 . cases hi with
   | none=>rfl
   | some v=>exact VC v n n
theorem Wi (i j:Nat):Builtin.Slice.slicePlaces (i:Int) (j:Int) 1=j - i:=by
 unfold Builtin.Slice.slicePlaces
 have h1:(1:Int) > 0:=by omega
 simp only[h1,if_true,Int.ediv_one]
 split<;>omega
theorem zt {v:Value} {o:Option Int} {Q:Option Int->Shared->Prop} (p:IsPart v o) (h:Q o s):wpAny (model prog w) A (Builtin.Slice.slicePartIndex v) Q E s:=by
 cases p with
 | none=>exact slicePart_none h
 | int i t=>exact slicePart_int h
theorem QO {sl:Addr} {vl vu:Value} {lo hi:Option Int} {n:Nat} {Q:Int×Int×Nat->Shared->Prop} (hs:s.heap.IsSliceOf sl vl vu .none) (pl:IsPart vl lo) (pu:IsPart vu hi)
   (h:Q (((sIx n 0 lo:Nat):Int),1,sIx n n hi - sIx n 0 lo) s):wpAny (model prog w) A (Builtin.Slice.sliceApplied (.ref sl) (pure (n:Int))) Q E s:=by
 obtain⟨os,hos,hcs,hds⟩:=id hs
 unfold Builtin.Slice.sliceApplied Builtin.Slice.sliceFields
 refine wpAny_bind (wpAny_bind (wpAny_field hos hds (x:=vl) rfl (wpAny_bind (wpAny_field hos hds (x:=vu) rfl (wpAny_bind (wpAny_field hos hds (x:=.none) rfl (wpAny_pure ?_)))))))
 refine wpAny_bind (slicePart_none ?_)
 show wpAny _ _ (if ((1:Int)==0)=true then _ else _) _ _ s
 rw[if_neg (by decide)]
 refine wpAny_bind (zt pl (wpAny_bind (zt pu (wpAny_bind (wpAny_pure ?_)))))
 show wpAny _ _ (match Builtin.Slice.sliceAdjust lo hi 1 (n:Int) with | (lo,hi)=>pure (lo,(1:Int),Builtin.Slice.slicePlaces lo hi 1)) _ _ s
 rw[WG lo hi n]
 show wpAny _ _ (pure (((sIx n 0 lo:Nat):Int),(1:Int),Builtin.Slice.slicePlaces ((sIx n 0 lo:Nat):Int) ((sIx n n hi:Nat):Int) 1)) _ _ s
 rw[Wi]
 exact wpAny_pure h
theorem vy (xs:Array Value) (i k:Nat):((List.range k).filterMap λ(m:Nat)=>xs[((i:Int)+(m:Int)*1).toNat]?).toArray=((xs.toList.drop i).take k).toArray:=by
 have e:(λ(m:Nat)=>xs[((i:Int)+(m:Int)*1).toNat]?)=λm=>xs[i+m]?:=by
   funext m
   have:((i:Int)+(m:Int)*1).toNat=i+m:=by omega
   rw[this]
 rw[e]
 have:=pick_run xs i k
 rw[List.filterMap_map]at this
 have e2:((λx=>xs[x]?) ∘ λx=>i+x)=λm=>xs[i+m]?:=rfl
 rw[e2]at this
 rw[this]
theorem getItem_tuple_cut {t sl:Addr} {items:Array Value} {vl vu:Value} {lo hi:Option Int} {Q:Value->Shared->Prop} (ht:IsTup s.heap t items) (hs:s.heap.IsSliceOf sl vl vu .none) (pl:IsPart vl lo) (pu:IsPart vu hi)
   (hw:¬(sIx items.size 0 lo=0/\sIx items.size items.size hi=items.size))
   (h:Q (.ref s.heap.objs.size) {s with heap:=s.heap.push {cls:=.type "tuple",data:=.seq ((items.toList.drop (sIx items.size 0 lo)).take (sIx items.size items.size hi - sIx items.size 0 lo)).toArray}})
   (hsz:items.size<=sizeLine):wpAny (model prog w) A (getItem (.ref t) (.ref sl)) Q E s:=by
 have htake:sizeOk (.seq ((items.toList.drop (sIx items.size 0 lo)).take (sIx items.size items.size hi - sIx items.size 0 lo)).toArray):=by
   show ((items.toList.drop (sIx items.size 0 lo)).take (sIx items.size items.size hi - sIx items.size 0 lo)).toArray.size<=sizeLine
   rw[List.size_toArray,List.length_take,List.length_drop,Array.length_toList]
   omega
 have hj:sIx items.size items.size hi<=items.size:=xN _ _ (Nat.le_refl _) hi
 obtain⟨os,hos,hcs,hds⟩:=id hs
 have hTs:s.TypeIs (.ref sl) "slice":=⟨os,hos,hcs⟩
 unfold getItem
 try with_reducible refine wpAny_holding ?_
 first | refine wpAny_bind (wpAny_pure ?_) | skip
 refine wpAny_bind (wpAny_sequenceKey ht.typeIs (by decide) ?_)
 refine wpAny_bind (wpAny_callSpecial?_slot (name:=Str.ofString "__getitem__") ht.typeIs PyProof.Rows.slot_tuple_getitem
   (wpAny_call_entry PyProof.Rows.slot_tuple_getitem ht.typeIs entry_tuple_getitem ?_ (args_tuple_getitem _ _)))
 show wpAny _ _ (Builtin.Tuple.tupleItemsOf (.ref t) >>= _) _ _ s
 refine wpAny_bind (tupleItemsOf_ ht ?_)
 refine wpAny_bind (wpAny_typeOf hTs ?_)
 rw[if_pos (by decide)]
 refine wpAny_bind (QO hs pl pu ?_)
 have hno:¬((((sIx items.size 0 lo:Nat):Int)==0&&(1:Int)==1&&(sIx items.size items.size hi - sIx items.size 0 lo)==items.size)=true):=by
   intro q
   rw[Bool.and_eq_true,Bool.and_eq_true]at q
   have q1:((sIx items.size 0 lo:Nat):Int)=0:=eq_of_beq q.1.1
   have q2:sIx items.size items.size hi - sIx items.size 0 lo=items.size:=eq_of_beq q.2
   exact hw ⟨by omega,by omega⟩
 show wpAny _ _ (if (((sIx items.size 0 lo:Nat):Int)==0&&(1:Int)==1&&(sIx items.size items.size hi - sIx items.size 0 lo)==items.size)=true then _ else _) _ _ s
 rw[if_neg hno,vy]
 first
   | exact wpAny_bind (m:=Builtin.Tuple.tupleExact _) (wpAny_newObj_type (wpAny_pure ⟨_,rfl,wpAny_pure h⟩) htake)
   | exact wpAny_bind (m:=Builtin.Tuple.tupleExact _) (wpAny_newObj_type (wpAny_bind (wpAny_pure (wpAny_pure ⟨_,rfl,wpAny_pure h⟩))) htake)
   | exact wpAny_bind (wpAny_bind (m:=Builtin.Tuple.tupleExact _) (wpAny_newObj_type (wpAny_pure (wpAny_pure ⟨_,rfl,wpAny_pure h⟩)) htake))
   | exact wpAny_bind (wpAny_bind (m:=Builtin.Tuple.tupleExact _) (wpAny_newObj_type (wpAny_pure ⟨_,rfl,wpAny_pure h⟩) htake))
end
end HT
namespace L2
open PySem PySem.Spec PyProof.Rows
abbrev TO:=St->Hp->(Option Int->Hp->Prop)->Prop
def PO (X:Cx) (e:Option Expr) (t:TO):Prop:=
 ∀(pins:List (Addr×Obj)) (s:Shared) (σ:St) (H:Hp) (Q:Option Int->Hp->Prop),qx X pins σ H s->t σ H Q->
   wpAny (model X.prog X.w) X.A (evalPart e X.env) (λu s'=>∃o H',qx X pins σ H' s'/\IsPart u o/\Q o H') X.xe s
@[irreducible] def JO (X:Cx) (e:Option Expr) (t:TO):Prop:=PO X e t
theorem JO.of {X:Cx} {e:Option Expr} {t:TO} (h:PO X e t):JO X e t:=by unfold JO;exact h
theorem JO.to {X:Cx} {e:Option Expr} {t:TO} (h:JO X e t):PO X e t:=by unfold JO at h;exact h
def kU:TO:=λ_ H Q=>Q none H
def wW (t:TE):TO:=λσ H Q=>t σ H λx H1=>∃i,x=.int i/\Q (some i) H1
theorem Wv {ns:List Int}:∀{us:List Value},qI (ns.map V.int) us->IntsAre us ns:=by
 induction ns with
 | nil=>intro us r;rw[List.map_nil]at r;cases r;exact .nil
 | cons n ns ih=>
   intro us r
   rw[List.map_cons]at r
   cases r with
   | cons r1 r2=>
     obtain⟨t,e⟩:=r1
     subst e
     exact .cons n t (ih r2)
section
variable {X:Cx} {e:Expr} {te:TE} {lo hi:Option Expr} {tl th:TO} {pos p2:Pos}
theorem Qc:JO X none kU:=.of (by
 intro pins s σ H Q I h
 rw[evalPart_none]
 exact wpAny_pure ⟨none,H,I,.none,h⟩)
theorem Qb (h:JE X e te):JO X (some e) (wW te):=.of (by
 have h:=h.to
 intro pins s σ H Q I hw
 rw[evalPart_some]
 refine ja (h pins s σ H _ I hw) λu s1 ⟨x,H1,I1,r1,q1⟩=>?_
 obtain⟨i,rfl,q⟩:=q1
 obtain⟨t,rfl⟩:=r1
 exact⟨some i,H1,I1,.int i t,q⟩)
def Kk (X:Cx) (r:V->Option Int->Option Int->Hp->VK->Prop):Prop:=
 ∀(pins:List (Addr×Obj)) (s:Shared) (σ:St) (H:Hp) (x:V) (v vl vu:Value) (lo hi:Option Int) (sl:Addr) (Q:VK),qx X pins σ H s->qQ x v->s.heap.IsSliceOf sl vl vu .none->IsPart vl lo->IsPart vu hi->r x lo hi H Q->
   ∃T id,typeLookup (.type T) "__getitem__"=pure (some (.builtin id))/\s.TypeIs v T/\wpAny (model X.prog X.w) X.A (getItem v (.ref sl)) (EP X pins σ Q) X.xe s
def tSl (r:V->Option Int->Option Int->Hp->VK->Prop) (te:TE) (tl th:TO):TE:=λσ H Q=>te σ H λx H1=>tl σ H1 λl H2=>th σ H2 λu H3=>r x l u H3 Q
theorem jK {r:V->Option Int->Option Int->Hp->VK->Prop} (hr:Kk X r) (he:JE X e te) (hl:JO X lo tl) (hu:JO X hi th):JE X (.Subscript e (.Slice lo hi none p2) pos) (tSl r te tl th):=.of (by
 have he:=he.to
 have hl:=hl.to
 have hu:=hu.to
 intro pins s σ H Q I h
 refine Subscript_ (ja (he pins s σ H _ I h) λv s1 ⟨x,H1,I1,r1,q1⟩=>?_)
 refine wpAny_Slice (ja (hl pins s1 σ H1 _ I1 q1) λvl s2 ⟨l,H2,I2,pl,q2⟩=>ja (hu pins s2 σ H2 _ I2 q2) λvu s3 ⟨u,H3,I3,pu,q3⟩=>?_)
 rw[evalPart_none]
 refine wpAny_pure ?_
 have I4:qx X pins σ H3 {s3 with heap:=s3.heap.push {cls:=.type "slice",data:=.fields #[vl,vu,.none]}}:=I3.kept (t':=s3.toks) λb ob q=>Heap.get?_push_of_some _ q
 obtain⟨T,id,hT,ht,hg⟩:=hr pins {s3 with heap:=s3.heap.push {cls:=.type "slice",data:=.fields #[vl,vu,.none]}} σ H3 x v vl vu l u s3.heap.objs.size Q I4 r1 (Heap.IsSliceOf.new ..) pl pu q3
 show wpAny (model X.prog X.w) X.A (subscriptTail e (.Slice lo hi none p2) v (.ref s3.heap.objs.size)) (EP X pins σ Q) X.xe {s3 with heap:=s3.heap.push {cls:=.type "slice",data:=.fields #[vl,vu,.none]}}
 exact tail_any (ops:=[.ref s3.heap.objs.size,v]) ht hT hg (by with_unfolding_all rfl))
def cutV (xs:List V) (lo hi:Option Int):List V:=(xs.drop (HT.sIx xs.length 0 lo)).take (HT.sIx xs.length xs.length hi - HT.sIx xs.length 0 lo)
theorem ZZ (xs:List V) (lo hi:Option Int):(cutV xs lo hi).length<=xs.length:=by
 unfold cutV
 rw[List.length_take,List.length_drop]
 omega
def uq (K:PySem.W.Frag):V->Option Int->Option Int->Hp->VK->Prop:=λx lo hi H Q=>∃a xs,x=.ref a/\SqT K H a xs/\
 ¬(HT.sIx xs.length 0 lo=0/\HT.sIx xs.length xs.length hi=xs.length)/\∀p,H p=none->Q (.ref p) (upd H p (.tup (cutV xs lo hi)))
theorem xJ:Kk X (uq X.K):=by
 intro pins s σ H x v vl vu lo hi sl Q I rx hs pl pu h
 obtain⟨a,xs,rfl,hx,hw,q⟩:=h
 cases rx
 obtain⟨its,r,ht,hz⟩:=I.tuple hx
 have hlen:its.toArray.size=xs.length:=by rw[List.size_toArray];exact r.length.symm
 refine⟨"tuple",_,PyProof.Rows.slot_tuple_getitem.lookup,ht.typeIs,?_⟩
 refine HT.getItem_tuple_cut ht hs pl pu (by rw[hlen];exact hw) ?_ (by rw[hlen];exact hz)
 rw[hlen]
 refine⟨.ref s.heap.objs.size,_,I.laid (t':=s.toks) (o:=.tup (cutV xs lo hi)) (λb ob q=>Heap.get?_push_of_some _ q) (Nat.le_refl _) ?_,rfl,q _ (I.hok.fresh (Nat.le_refl _))⟩
 exact⟨Nat.le_trans (ZZ xs lo hi) hz,_,(r.drop (HT.sIx xs.length 0 lo)).take (HT.sIx xs.length xs.length hi - HT.sIx xs.length 0 lo),IsTup.new _ _⟩
theorem qI.nil_iff {xs:List V} {us:List Value} (r:qI xs us):us=[]↔xs=[]:=by
 cases r with
 | nil=>simp
 | cons _ _=>simp
end
end L2
namespace L2
open PySem PySem.Spec PyProof.Rows
def Wt (n:Nat) (i:Int):Option Nat:=if 0<=i then (if i < n then some i.toNat else none) else if -(n:Int)<=i then some (i+n).toNat else none
def Xd {α:Type} (xs:List α) (i:Int):Option α:=(Wt xs.length i).bind λj=>xs[j]?
theorem Vn {n:Nat} {i:Int} {j:Nat} (h:Wt n i=some j):seqIndex? i n=some j/\j < n/\-(n:Int)<=i/\i < n:=by
 unfold Wt at h
 by_cases h0:0<=i
 . rw[if_pos h0]at h
   by_cases h1:i < n
   . rw[if_pos h1]at h
     have e:i.toNat=j:=Option.some.inj h
     exact⟨by rw[seqIndex_of h0 h1,e],by omega,by omega,h1⟩
   . rw[if_neg h1]at h;cases h
 . rw[if_neg h0]at h
   by_cases h1:-(n:Int)<=i
   . rw[if_pos h1]at h
     have e:(i+n).toNat=j:=Option.some.inj h
     exact⟨by rw[seqIndex_neg (by omega) h1,e],by omega,h1,by omega⟩
   . rw[if_neg h1]at h;cases h
theorem Y8 {α:Type} {xs:List α} {i:Int} {v:α} (h:Xd xs i=some v):∃j,seqIndex? i xs.length=some j/\xs[j]?=some v/\j < xs.length/\-(xs.length:Int)<=i/\i < xs.length:=by
 unfold Xd at h
 cases e:Wt xs.length i with
 | none=>rw[e]at h;cases h
 | some j=>
   rw[e]at h
   obtain⟨h1,h2,h3,h4⟩:=Vn e
   exact⟨j,h1,h,h2,h3,h4⟩
theorem jp {α:Type} {xs:List α} {j:Nat} {v:α} (h:xs[j]?=some v):Xd xs (j:Int)=some v:=by
 have hj:j < xs.length:=(List.getElem?_eq_some_iff.mp h).1
 have e:Wt xs.length (j:Int)=some j:=by
   unfold Wt
   rw[if_pos (by omega),if_pos (by omega)];simp
 unfold Xd;rw[e];exact h
def yR (b:Expr):Prop:=∀o i,subscripted b false o i=operate [o,i] (getItem o i)
def KH (X:Cx) (r:R2):Prop:=
 ∀(value slice:Expr) (pins:List (Addr×Obj)) (s:Shared) (σ:St) (H:Hp) (x y:V) (v u:Value) (Q:VK),qx X pins σ H s->qQ x v->qQ y u->r x y H Q->
   subscripted slice false v u=operate [v,u] (getItem v u)->wpAny (model X.prog X.w) X.A (subscriptTail value slice v u) (EP X pins σ Q) X.xe s
def KG (X:Cx) (id:String) (r:V->List V->Hp->VK->Prop):Prop:=
 ∀(pins:List (Addr×Obj)) (s:Shared) (σ:St) (H:Hp) (x:V) (xs:List V) (v:Value) (us:List Value) (Q:VK),qx X pins σ H s->qQ x v->qI xs us->r x xs H Q->
   wpAny (model X.prog X.w) X.A (call (.builtin id) (v::us)) (EP X pins σ Q) X.xe s
section
variable {X:Cx} {a b:Expr} {ta tb:TE} {pos:Pos}
theorem qP {r:R2} (hr:KH X r) (ha:JE X a ta) (hb:JE X b tb) (hs:yR b):JE X (.Subscript a b pos) (YD r ta tb):=.of (by
 have ha:=ha.to
 have hb:=hb.to
 intro pins s σ H Q I h
 exact Subscript_ (wE ha hb I h λv u s2 x y H2 I2 rx ry q=>hr a b pins s2 σ H2 x y v u Q I2 rx ry q (hs _ _)))
def uw (K:PySem.W.Frag):R2:=λx y H Q=>∃p xs i v,x=.ref p/\y=.int i/\SqL K H p xs/\Xd xs i=some v/\Q v H
def Xw (K:PySem.W.Frag):R2:=λx y H Q=>∃p xs i v,x=.ref p/\y=.int i/\SqT K H p xs/\Xd xs i=some v/\Q v H
def xS:R2:=λx y H Q=>∃z i c,x=.str z/\y=.int i/\z.length<=sizeLine/\Xd z.cps.toList i=some c/\Q (.str ⟨#[c]⟩) H
theorem qO:KH X (uw X.K):=by
 intro value slice pins s σ H x y v u Q I rx ry h hs
 obtain⟨p,xs,i,z,rfl,rfl,hq,he,q⟩:=h
 cases rx
 obtain⟨t,rfl⟩:=ry
 obtain⟨its,r,pl,hz⟩:=I.list hq
 obtain⟨j,h1,h2,h3,h4,h5⟩:=Y8 he
 obtain⟨w,ew,rw'⟩:=r.get h2
 have hl:=r.length
 have hn:=ZI
 have fin:EP X pins σ Q w s:=⟨z,H,I,rw',q⟩
 by_cases h0:0<=i
 . have hj:i.toNat=j:=by
     rw[seqIndex_of h0 h5]at h1
     exact Option.some.inj h1
   exact item_listR pl.isList h0 (by omega) (by rw[hj];simpa using ew) fin hs
 . have hj:(i+(its.toArray.size:Int)).toNat=j:=by
     rw[seqIndex_neg (by omega) h4]at h1
     rw[List.size_toArray,<-hl]
     exact Option.some.inj h1
   exact subscriptTail_builtinR (x:=w) pl.isList.typeIs slot_list_getitem.lookup
     (wpAny_getItem_list_neg (Q:=λr s'=>r=w/\EP X pins σ Q r s') pl.isList (by omega) (by rw[List.size_toArray]<;>omega) (by omega) (by rw[hj];simpa using ew) ⟨rfl,fin⟩) hs
theorem j2:KH X (Xw X.K):=by
 intro value slice pins s σ H x y v u Q I rx ry h hs
 obtain⟨p,xs,i,z,rfl,rfl,hq,he,q⟩:=h
 cases rx
 obtain⟨t,rfl⟩:=ry
 obtain⟨its,r,pl,hz⟩:=I.tuple hq
 obtain⟨j,h1,h2,h3,h4,h5⟩:=Y8 he
 obtain⟨w,ew,rw'⟩:=r.get h2
 have hl:=r.length
 have hn:=ZI
 have fin:EP X pins σ Q w s:=⟨z,H,I,rw',q⟩
 exact subscriptTail_builtinR (x:=w) pl.typeIs slot_tuple_getitem.lookup
   (getItem_tuple (j:=j) (Q:=λr s'=>r=w/\EP X pins σ Q r s') pl (by omega) (by omega) (by rw[List.size_toArray,<-hl];exact h1) (by simpa using ew) ⟨rfl,fin⟩) hs
theorem zN:KH X xS:=by
 intro value slice pins s σ H x y v u Q I rx ry h hs
 obtain⟨z,i,c,rfl,rfl,hz,he,q⟩:=h
 obtain⟨t,rfl⟩:=rx
 obtain⟨t',rfl⟩:=ry
 obtain⟨j,h1,h2,h3,h4,h5⟩:=Y8 he
 have hl:z.cps.toList.length=z.length:=by simp [Str.length]
 rw[hl]at h1 h4 h5
 have hn:=ZI
 exact tail_any (typeIs_str s z t) slot_str_getitem.lookup (getItem_str (c:=c) (by
   have e1:decide (i < -(2^63:Int))=false:=decide_eq_false (by omega)
   have e2:decide (i ≥ 2^63)=false:=decide_eq_false (by omega)
   rw[e1,e2,Bool.or_false]) (by rw[h1];simpa using h2) ⟨.str ⟨#[c]⟩,H,I.tok _,⟨_,rfl⟩,q⟩) hs
theorem Wn (its:List Value) (n j:Nat) (u:Value):Obj.mapSeq (·.setIfInBounds j u) {cls:=.type "list",data:=.seq its.toArray n}={cls:=.type "list",data:=.seq (its.set j u).toArray n}:=by
 simp [Obj.mapSeq]
theorem qx.lst {pins:List (Addr×Obj)} {σ:St} {H:Hp} {s:Shared} {p:Addr} {xs:List V} (I:qx X pins σ H s) (h:H p=some (.lst xs)):
   ∃(its:List Value) (n:Nat),qI xs its/\s.heap.get? p=some {cls:=.type "list",data:=.seq its.toArray n}/\xs.length<=sizeLine:=by
 obtain⟨z,its,n,r,e⟩:=I.hok p _ h
 exact⟨its,n,r,e,z⟩
theorem qx.lstUpd {pins:List (Addr×Obj)} {σ:St} {H:Hp} {s:Shared} {p:Addr} {xs ys:List V} {its its':List Value} {n n':Nat} {f:Obj->Obj} (I:qx X pins σ H s) (h:H p=some (.lst xs))
   (ho:s.heap.get? p=some {cls:=.type "list",data:=.seq its.toArray n}) (hf:f {cls:=.type "list",data:=.seq its.toArray n}={cls:=.type "list",data:=.seq its'.toArray n'}) (r:qI ys its') (hz:ys.length<=sizeLine) (t:Nat):
   qx X pins σ (upd H p (.lst ys)) {s with heap:=s.heap.update p f,toks:=t}:=by
 have e:(s.heap.update p f).get? p=some {cls:=.type "list",data:=.seq its'.toArray n'}:=by
   rw[Heap.get?_update_self f ho (by rw[hf]<;>rfl),hf]
 refine I.write (x:=p) (e:=p) (by rw[h];trivial) (.inl rfl) (λb u hb q=>(Heap.get?_update_other _ _ (Ne.symm hb)).trans q) ⟨_,e⟩ ?_
 exact⟨hz,its',n',r,e⟩
def ur:V->V->V->Hp->(Hp->Prop)->Prop:=λo i v H Q=>∃p xs k j,o=.ref p/\i=.int k/\H p=some (.lst xs)/\Wt xs.length k=some j/\Q (upd H p (.lst (xs.set j v)))
theorem Qq:wH X ur:=by
 intro pins s σ H o i v ov iv u Q I ro ri rv h
 obtain⟨p,xs,k,j,rfl,rfl,hp,hj,q⟩:=h
 cases ro
 obtain⟨t,rfl⟩:=ri
 obtain⟨its,n,r,ho,hz⟩:=I.lst hp
 obtain⟨h1,h2,h3,h4⟩:=Vn hj
 have hl:=r.length
 have hn:=ZI
 have I':qx X pins σ (upd H p (.lst (xs.set j v))) {s with heap:=s.heap.update p (Obj.mapSeq (·.setIfInBounds j u))}:=
   I.lstUpd hp ho (Wn its n j u) (r.set rv j) (by rw[List.length_set];exact hz) s.toks
 by_cases h0:0<=k
 . have hk:k.toNat=j:=by
     rw[seqIndex_of h0 h4]at h1
     exact Option.some.inj h1
   exact PySem.W.ki_setAt ho h0 (by omega) (by rw[List.size_toArray,<-hl];exact h4) (by rw[hk];exact⟨_,I',q⟩)
 . have hk:(k+(its.toArray.size:Int)).toNat=j:=by
     rw[seqIndex_neg (by omega) h3]at h1
     rw[List.size_toArray,<-hl]
     exact Option.some.inj h1
   exact PySem.W.ki_setBack ho (by omega) (by rw[List.size_toArray,<-hl];exact h3) (by omega) (by rw[hk];exact⟨_,I',q⟩)
theorem YH (lo hi:Option Int) (n:Nat):(sliceBounds lo hi none n).1=((HT.sIx n 0 lo:Nat):Int)/\(sliceBounds lo hi none n).2.1=((HT.sIx n n hi:Nat):Int)/\(sliceBounds lo hi none n).2.2=1:=by
 refine⟨?_,?_,rfl⟩
 . cases lo with
   | none=>simp [sliceBounds,HT.sIx]
   | some i=>
     simp only[sliceBounds,HT.sIx,Option.getD_none,show (1:Int) > 0 by decide,if_true]
     by_cases h:i < 0
     . simp only[h,if_true]<;>omega
     . simp only[h,if_false]<;>omega
 . cases hi with
   | none=>simp [sliceBounds,HT.sIx]
   | some i=>
     simp only[sliceBounds,HT.sIx,Option.getD_none,show (1:Int) > 0 by decide,if_true]
     by_cases h:i < 0
     . simp only[h,if_true]<;>omega
     . simp only[h,if_false]<;>omega
theorem z5 (its:List Value) (lo hi:Option Int):slicePick its.toArray lo hi none=((its.drop (HT.sIx its.length 0 lo)).take (HT.sIx its.length its.length hi - HT.sIx its.length 0 lo)).toArray:=by
 obtain⟨h1,h2,h3⟩:=YH lo hi its.toArray.size
 unfold slicePick
 rw[h1,h2,h3]
 simp only[sliceRange_one,pick_run,List.size_toArray]<;>rfl
def K1 (K:PySem.W.Frag):V->Option Int->Option Int->Hp->VK->Prop:=λx lo hi H Q=>∃a xs,x=.ref a/\SqL K H a xs/\∀p,H p=none->Q (.ref p) (upd H p (.lst (cutV xs lo hi)))
theorem Zi:Kk X (K1 X.K):=by
 intro pins s σ H x v vl vu lo hi sl Q I rx hs pl pu h
 obtain⟨a,xs,rfl,hx,q⟩:=h
 cases rx
 obtain⟨its,r,ht,hz⟩:=I.list hx
 have hlen:=r.length
 refine⟨"list",_,slot_list_getitem.lookup,ht.isList.typeIs,?_⟩
 refine wpAny_getItem_list_slice ht.isList hs pl pu .none (by simp) ?_ (by rw[List.size_toArray]<;>omega)
 rw[z5,<-hlen]
 refine⟨.ref s.heap.objs.size,_,I.laid (t':=s.toks) (o:=.lst (cutV xs lo hi)) (λb ob q=>Heap.get?_push_of_some _ q) (Nat.le_refl _) ?_,rfl,q _ (I.hok.fresh (Nat.le_refl _))⟩
 exact⟨Nat.le_trans (ZZ xs lo hi) hz,_,0,(r.drop (HT.sIx xs.length 0 lo)).take (HT.sIx xs.length xs.length hi - HT.sIx xs.length 0 lo),Heap.get?_push_size _ rfl⟩
def Zq:V->Bool
 | .non=>true
 | .bl _=>true
 | .int _=>true
 | .str _=>true
 | _=>false
def yK:V->V->Bool
 | .non,.non=>true
 | .bl a,.bl b=>a==b
 | .bl a,.int b=>(if a then 1 else 0)==b
 | .int a,.bl b=>a==(if b then 1 else 0)
 | .int a,.int b=>a==b
 | .str a,.str b=>a==b
 | _,_=>false
theorem wB {A:Around} {s:Shared} {y x:V} {u v:Value} (ry:qQ y u) (rx:qQ x v) (fy:Zq y=true) (fx:Zq x=true):SeqAt.EqAt A s u v (yK y x):=by
 cases y with
 | non=>
   cases ry
   cases x with
   | non=>cases rx;exact SeqAt.EqAt.same _
   | bl b=>cases rx;exact SeqAt.EqAt.none_bool b
   | int b=>obtain⟨t,rfl⟩:=rx;exact SeqAt.EqAt.none_int b t
   | str b=>obtain⟨t,rfl⟩:=rx;exact SeqAt.EqAt.none_str b t
   | _=>exact absurd (show false=true from fx) Bool.false_ne_true
 | bl a=>
   cases ry
   cases x with
   | non=>cases rx;exact SeqAt.EqAt.bool_none a
   | bl b=>cases rx;exact SeqAt.EqAt.bool_bool a b
   | int b=>obtain⟨t,rfl⟩:=rx;exact SeqAt.EqAt.bool_int a b t
   | str b=>obtain⟨t,rfl⟩:=rx;exact SeqAt.EqAt.bool_str a b t
   | _=>exact absurd (show false=true from fx) Bool.false_ne_true
 | int a=>
   obtain⟨t',rfl⟩:=ry
   cases x with
   | non=>cases rx;exact SeqAt.EqAt.int_none a t'
   | bl b=>cases rx;exact SeqAt.EqAt.int_bool a t' b
   | int b=>obtain⟨t,rfl⟩:=rx;exact SeqAt.EqAt.int_int a t' b t
   | str b=>obtain⟨t,rfl⟩:=rx;exact SeqAt.EqAt.int_str a t' b t
   | _=>exact absurd (show false=true from fx) Bool.false_ne_true
 | str a=>
   obtain⟨t',rfl⟩:=ry
   cases x with
   | non=>cases rx;exact SeqAt.EqAt.str_none a t'
   | bl b=>cases rx;exact SeqAt.EqAt.str_bool a t' b
   | int b=>obtain⟨t,rfl⟩:=rx;exact SeqAt.EqAt.str_int a t' b t
   | str b=>obtain⟨t,rfl⟩:=rx;exact SeqAt.EqAt.str_str a t' b t
   | _=>exact absurd (show false=true from fx) Bool.false_ne_true
 | _=>exact absurd (show false=true from fy) Bool.false_ne_true
def WB (x:V) (u:Value):Bool:=match u with
 | .none=>yK .non x
 | .bool b=>yK (.bl b) x
 | .int i _=>yK (.int i) x
 | .str z _=>yK (.str z) x
 | _=>false
theorem kt {x y:V} {u:Value} (r:qQ y u) (f:Zq y=true):WB x u=yK y x:=by
 cases y with
 | non=>cases r;rfl
 | bl b=>cases r;rfl
 | int i=>obtain⟨t,rfl⟩:=r;rfl
 | str z=>obtain⟨t,rfl⟩:=r;rfl
 | _=>exact absurd (show false=true from f) Bool.false_ne_true
theorem Zv {x:V}:∀{xs:List V} {us:List Value},qI xs us->xs.all Zq=true->us.any (WB x)=xs.any λy=>yK y x
 | _,_,.nil,_=>rfl
 | y::xs,u::us,.cons r t,f=>by
   rw[List.all_cons,Bool.and_eq_true]at f
   rw[List.any_cons,List.any_cons,kt r f.1,Zv t f.2]
theorem Jp {A:Around} {s:Shared} {x:V} {v:Value} (rx:qQ x v) (fx:Zq x=true):∀{xs:List V} {us:List Value},qI xs us->xs.all Zq=true->∀u∈us,SeqAt.EqAt A s u v (WB x u)
 | _,_,.nil,_=>λu hu=>by cases hu
 | y::xs,u::us,.cons r t,f=>λu' hu=>by
   rw[List.all_cons,Bool.and_eq_true]at f
   rcases List.mem_cons.mp hu with rfl | hu
   . rw[kt r f.1];exact wB r rx f.1 fx
   . exact Jp rx fx t f.2 u' hu
def YS (x:V) (xs:List V):Bool:=xs.any λy=>yK y x
def uy (K:PySem.W.Frag) (neg:Bool):R2:=λx y H Q=>∃p xs,y=.ref p/\(SqL K H p xs\/SqT K H p xs)/\Zq x=true/\xs.all Zq=true/\Q (.bl (if neg then !YS x xs else YS x xs)) H
theorem Uc:Z1 X (compareOp .In) (uy X.K false):=by
 intro pins s σ H x y v u Q I rx ry h
 obtain⟨p,xs,rfl,hq,fx,fs,q⟩:=h
 cases ry
 rcases hq with hq | hq
 . obtain⟨its,r,pl,hz⟩:=I.list hq
   refine SeqAt.in_listAt (WB x) pl.isList (λw hw=>Jp rx fx r fs w (by simpa using hw)) ⟨.bl _,H,I,rfl,?_⟩
   rw[show its.toArray.any (WB x)=its.any (WB x) by simp,Zv r fs]
   exact q
 . obtain⟨its,r,pl,hz⟩:=I.tuple hq
   refine SeqAt.in_tupleAt (WB x) pl (λw hw=>Jp rx fx r fs w (by simpa using hw)) ⟨.bl _,H,I,rfl,?_⟩
   rw[show its.toArray.any (WB x)=its.any (WB x) by simp,Zv r fs]
   exact q
theorem Q4:Z1 X (compareOp .NotIn) (uy X.K true):=by
 intro pins s σ H x y v u Q I rx ry h
 obtain⟨p,xs,rfl,hq,fx,fs,q⟩:=h
 cases ry
 rcases hq with hq | hq
 . obtain⟨its,r,pl,hz⟩:=I.list hq
   refine SeqAt.notIn_listAt (WB x) pl.isList (λw hw=>Jp rx fx r fs w (by simpa using hw)) ⟨.bl _,H,I,rfl,?_⟩
   rw[show its.toArray.any (WB x)=its.any (WB x) by simp,Zv r fs]
   exact q
 . obtain⟨its,r,pl,hz⟩:=I.tuple hq
   refine SeqAt.notIn_tupleAt (WB x) pl (λw hw=>Jp rx fx r fs w (by simpa using hw)) ⟨.bl _,H,I,rfl,?_⟩
   rw[show its.toArray.any (WB x)=its.any (WB x) by simp,Zv r fs]
   exact q
theorem qy:jW X (.builtin "len") (λxs H Q=>∃p ys,xs=[.ref p]/\(SqL X.K H p ys\/SqT X.K H p ys)/\Q (.int ys.length) H):=by
 intro pins s σ H xs us Q I r h
 obtain⟨p,ys,rfl,hq,q⟩:=h
 obtain⟨u,rfl,rx⟩:=Qo r
 cases rx
 have hn:=ZI
 rcases hq with hq | hq
 . obtain⟨its,r',pl,hz⟩:=I.list hq
   have hlen:=r'.length
   exact Calls.call_len_list pl.isList (by simp only[List.size_toArray]<;>omega) ⟨.int ys.length,H,I.tok _,⟨s.toks+1,by rw[List.size_toArray,hlen]⟩,q⟩
 . obtain⟨its,r',pl,hz⟩:=I.tuple hq
   have hlen:=r'.length
   exact len_tuple pl (by simp only[List.size_toArray]<;>omega) ⟨.int ys.length,H,I.tok _,⟨s.toks+1,by rw[List.size_toArray,hlen]⟩,q⟩
theorem j6:jW X (.builtin "len") (λxs H Q=>∃z,xs=[.str z]/\z.length<=sizeLine/\Q (.int z.length) H):=by
 intro pins s σ H xs us Q I r h
 obtain⟨z,rfl,hz,q⟩:=h
 obtain⟨u,rfl,t,rfl⟩:=Qo r
 have hn:=ZI
 exact len_str (by omega) ⟨.int z.length,H,I.tok _,⟨_,rfl⟩,q⟩
theorem Zt:jW X (.type "list") (λxs H Q=>∃p ys,xs=[.ref p]/\(SqL X.K H p ys\/SqT X.K H p ys)/\∀l,H l=none->Q (.ref l) (upd H l (.lst ys))):=by
 intro pins s σ H xs us Q I r h
 obtain⟨p,ys,rfl,hq,q⟩:=h
 obtain⟨u,rfl,rx⟩:=Qo r
 cases rx
 have fin:∀(its:List Value),qI ys its->ys.length<=sizeLine->∀(h':Heap) (c':Nat),(∀b o',s.heap.get? b=some o'->h'.get? b=some o')->
     h'.get? s.heap.objs.size=some {cls:=.type "list",dict:=none,data:=.seq its.toArray c',slots:=#[]}->EP X pins σ Q (.ref s.heap.objs.size) {s with heap:=h'}:=λits r' hz h' c' kp e=>
   ⟨.ref s.heap.objs.size,_,I.laid (t':=s.toks) kp (Nat.le_refl _) (show qJ X.prog X.w _ h' _ (.lst ys) from⟨hz,its,c',r',e⟩),rfl,q _ (I.hok.fresh (Nat.le_refl _))⟩
 rcases hq with hq | hq
 . obtain⟨its,r',pl,hz⟩:=I.list hq
   have hlen:=r'.length
   obtain⟨o,ho,hc,n,hd⟩:=pl.isList
   exact call_list_seq p (.inl rfl) ho hc hd (λh' c' kp e=>fin its r' hz h' c' kp e) (by simp only[List.size_toArray]<;>omega)
 . obtain⟨its,r',pl,hz⟩:=I.tuple hq
   have hlen:=r'.length
   obtain⟨o,ho,hc,n,hd⟩:=pl
   exact call_list_seq p (.inr rfl) ho hc hd (λh' c' kp e=>fin its r' hz h' c' kp e) (by simp only[List.size_toArray]<;>omega)
theorem QN:jW X (.type "tuple") (λxs H Q=>∃p ys,xs=[.ref p]/\((SqL X.K H p ys/\∀l,H l=none->Q (.ref l) (upd H l (.tup ys)))\/(SqT X.K H p ys/\Q (.ref p) H))):=by
 intro pins s σ H xs us Q I r h
 obtain⟨p,ys,rfl,h⟩:=h
 obtain⟨u,rfl,rx⟩:=Qo r
 cases rx
 rcases h with ⟨hq,q⟩ | ⟨hq,q⟩
 . obtain⟨its,r',pl,hz⟩:=I.list hq
   have hlen:=r'.length
   refine call_tuple_list pl.isList (λh' kp=>?_) (by simp only[List.size_toArray]<;>omega)
   have I1:qx X pins σ H {s with heap:=h'}:=I.kept (t':=s.toks) kp
   have I2:qx X pins σ (upd H h'.objs.size (.tup ys)) {s with heap:=h'.push {cls:=.type "tuple",data:=.seq its.toArray}}:=
     I1.laid (t':=s.toks) (λb o e=>Heap.get?_push_of_some _ e) (Nat.le_refl _) (show qJ X.prog X.w _ _ _ (.tup ys) from⟨hz,its,r',IsTup.new _ _⟩)
   exact⟨.ref h'.objs.size,_,I2,rfl,q _ (I1.hok.fresh (Nat.le_refl _))⟩
 . obtain⟨its,r',pl,hz⟩:=I.tuple hq
   exact call_tuple_same pl ⟨.ref p,H,I,rfl,q⟩
def KI (K:PySem.W.Frag) (T:String) (x:V) (H:Hp):Prop:=match x with
 | .str _=>T="str"
 | .int _=>T="int"
 | .ref p=>(T="list"/\∃xs,SqL K H p xs)\/(T="tuple"/\∃o,K.lookup p=some o/\o.cls=.type "tuple"/\o.dict=none)\/
     (T="dict"/\((∃kvs,H p=some (.dK kvs))\/∃kvs,H p=some (.dT kvs)))\/(T="set"/\∃S n,H p=some (.set S n))
 | _=>False
theorem US {pins:List (Addr×Obj)} {σ:St} {H:Hp} {s:Shared} {T:String} {x:V} {v:Value} (I:qx X pins σ H s) (r:qQ x v) (ty:KI X.K T x H):
   s.TypeIs v T/\∀a,v=.ref a->∃ob,s.heap.get? a=some ob/\ob.dict=none:=by
 cases x with
 | str z=>
   obtain⟨t,rfl⟩:=r
   cases (show T="str" from ty)
   exact⟨typeIs_str s z t,λ_ e=>nomatch e⟩
 | int i=>
   obtain⟨t,rfl⟩:=r
   cases (show T="int" from ty)
   exact⟨typeIs_int s i t,λ_ e=>nomatch e⟩
 | ref p=>
   cases r
   rcases ty with ⟨rfl,xs,hq⟩ | ⟨rfl,o,hk,hc,hd⟩ | ⟨rfl,hk⟩ | ⟨rfl,S,n,hk⟩
   . obtain⟨its,_,pl,_⟩:=I.list hq
     refine⟨pl.isList.typeIs,λa e=>?_⟩
     cases e
     obtain⟨o,n,e,c,hd,_⟩:=pl
     exact⟨o,e,hd⟩
   . refine⟨⟨o,I.kIn p o hk,hc⟩,λa e=>?_⟩
     cases e
     exact⟨o,I.kIn _ o hk,hd⟩
   . have z:∃o,s.heap.get? p=some o/\o.ExactDict:=by
       rcases hk with ⟨kvs,hk⟩ | ⟨kvs,hk⟩
       . obtain⟨_,_,_,_,o,_,_,e,ex,_⟩:=I.hok p _ hk
         exact⟨o,e,ex⟩
       . obtain⟨_,_,_,_,o,_,_,e,ex,_⟩:=I.hok p _ hk
         exact⟨o,e,ex⟩
     obtain⟨o,e,ex⟩:=z
     refine⟨⟨o,e,ex.1⟩,λa e2=>?_⟩
     cases e2
     exact⟨o,e,ex.2.1⟩
   . obtain⟨o,_,_,_,e,ex,_⟩:=I.hok p _ hk
     refine⟨⟨o,e,ex.1⟩,λa e2=>?_⟩
     cases e2
     exact⟨o,e,ex.2.1⟩
 | _=>exact False.elim ty
def KP (K:PySem.W.Frag) (T:String) (r:V->List V->Hp->VK->Prop) (to:TE):TE:=λσ H Q=>to σ H λx H1=>KI K T x H1/\r x [] H1 Q
def tBM (K:PySem.W.Frag) (T:String) (r:V->List V->Hp->VK->Prop) (to:TE) (t:TA):TE:=λσ H Q=>to σ H λx H1=>KI K T x H1/\t σ H1 λxs H2=>r x xs H2 Q
variable {o e:Expr} {es:List Expr} {to:TE} {t:TA} {name:Str} {apos cpos:Pos} {T id:String} {r:V->List V->Hp->VK->Prop}
theorem ww (pa:PlainAttrs T) (slot:Slot T name id) (hty:typeOf (.builtin id)=pure (.type "method_descriptor")) (hm:KG X id r) (ho:JE X o to) (hbase:attributeBase o name X.env (eval o X.env)=eval o X.env:=by rfl) (hline:(apos.endLine==cpos.line)=true:=by rfl):JE X (.Call (.Attribute o name apos) [] [] cpos) (KP X.K T r to):=.of (by
 have ho:=ho.to
 intro pins s σ H Q I h
 refine wpAny_Call_method0_late hbase hline (ja (ho pins s σ H _ I h) λv s1 ⟨x,H1,I1,r1,ty,q1⟩=>?_)
 obtain⟨h1,h2⟩:=US I1 r1 ty
 exact⟨T,id,pa,slot,hty,h1,h2,Calls.callWith_builtin rfl (PySem.evalArgs_none (hm pins s1 σ H1 x [] v [] Q I1 r1 .nil q1))⟩)
theorem uC (pa:PlainAttrs T) (slot:Slot T name id) (hty:typeOf (.builtin id)=pure (.type "method_descriptor")) (hm:KG X id r) (ho:PE X o to) (ha:PA X (e::es) t)
   (hbase:attributeBase o name X.env (eval o X.env)=eval o X.env:=by rfl)
   (hfew:((backTo cpos (starEach (e::es) X.env)).all (λx=> !x.1)&&(backToKw cpos (keywordEach [] X.env)).all (λx=>x.1.isSome)
     &&decide ((e::es).length+([]:List Keyword).length+(if ([]:List Keyword).isEmpty then 0 else 1) < 30))=true:=by rfl)
   (hline:(apos.endLine==cpos.line)=true:=by rfl) (hs:starEach (e::es) X.env=(false,eval e X.env)::starEach es X.env:=by rfl) (hplain:(backTo cpos (starEach es X.env)).any (·.1)=false:=by rfl):
   PE X (.Call (.Attribute o name apos) (e::es) [] cpos) (tBM X.K T r to t):=by
 intro pins s σ H Q I h
 refine wpAny_Call_method_late hbase hfew hline rfl (ja (ho pins s σ H _ I h) λv s1 ⟨x,H1,I1,r1,ty,q1⟩=>?_)
 obtain⟨h1,h2⟩:=US I1 r1 ty
 refine⟨T,id,pa,slot,hty,h1,h2,?_⟩
 have hA:=ha cpos pins s1 σ H1 _ I1 q1
 rw[hs]at hA ⊢
 refine Calls.callWith_builtin (by show (false || (backTo cpos (starEach es X.env)).any (·.1))=false;rw[hplain]<;>rfl) (Calls.evalArgs_plain ?_)
 exact ja hA λus s2 ⟨vs,H2,I2,r2,q2⟩=>hm pins s2 σ H2 x vs v us Q I2 r1 r2 q2
theorem ka (pa:PlainAttrs T) (slot:Slot T name id) (hty:typeOf (.builtin id)=pure (.type "method_descriptor")) (hm:KG X id r) (ho:JE X o to) (ha:JA X (e::es) t) (hbase:attributeBase o name X.env (eval o X.env)=eval o X.env:=by rfl) (hfew:((backTo cpos (starEach (e::es) X.env)).all (λx=> !x.1)&&(backToKw cpos (keywordEach [] X.env)).all (λx=>x.1.isSome)
     &&decide ((e::es).length+([]:List Keyword).length+(if ([]:List Keyword).isEmpty then 0 else 1) < 30))=true:=by rfl) (hline:(apos.endLine==cpos.line)=true:=by rfl) (hs:starEach (e::es) X.env=(false,eval e X.env)::starEach es X.env:=by rfl) (hplain:(backTo cpos (starEach es X.env)).any (·.1)=false:=by rfl):JE X (.Call (.Attribute o name apos) (e::es) [] cpos) (tBM X.K T r to t):=.of (uC pa slot hty hm ho.to ha.to hbase hfew hline hs hplain)
end
end L2
namespace L2
open PySem PySem.Spec PyProof.Rows
def MtM (X:Cx) (id:String) (r:V->List V->Hp->VK->Prop):Prop:=
 ∀(pins:List (Addr×Obj)) (s:Shared) (σ:St) (H:Hp) (x:V) (xs:List V) (v:Value) (us:List Value) (Q:VK),qx X pins σ H s->qQ x v->qI xs us->r x xs H Q->
   wpAny (model X.prog X.w) X.A (call (.builtin id) (v::us)) (EP X pins σ Q) X.xe s
theorem qI.one:∀{x:V} {us:List Value},qI [x] us->∃u,us=[u]/\qQ x u
 | _,_,.cons r .nil=>⟨_,rfl,r⟩
theorem qI.zero:∀{us:List Value},qI [] us->us=[]
 | _,.nil=>rfl
theorem qI.reverse {xs:List V} {us:List Value} (h:qI xs us):qI xs.reverse us.reverse:=by
 induction h with
 | nil=>exact .nil
 | cons r t ih=>rw[List.reverse_cons,List.reverse_cons];exact qI.append ih (.cons r .nil)
section
variable {X:Cx} {pins:List (Addr×Obj)} {σ:St} {H:Hp} {s:Shared} {l b:Addr} {xs ys zs:List V}
theorem qx.lset {its its':List Value} {n:Nat} {f:Array Value->Array Value} {t':Nat} (I:qx X pins σ H s) (hH:H l=some (.lst xs))
   (e:s.heap.get? l=some {cls:=.type "list",data:=.seq its.toArray n}) (hf:f its.toArray=its'.toArray) (hv:qI ys its') (hz:ys.length<=sizeLine):
   qx X pins σ (upd H l (.lst ys)) {s with heap:=s.heap.update l (Obj.mapSeq f),toks:=t'}:=by
 have q:=PySem.IsL.update e f
 rw[hf]at q
 refine I.write (x:=l) (e:=l) (by rw[hH];exact trivial) (.inl rfl) (λb' u hb hu=>(Heap.get?_update_other s.heap (Obj.mapSeq f) (Ne.symm hb)).trans hu) ⟨_,q⟩ ?_
 exact⟨hz,its',_,hv,q⟩
theorem qx.lstM (I:qx X pins σ H s) (hH:H l=some (.lst xs)):xs.length<=sizeLine/\∃(its:List Value) (n:Nat),qI xs its/\xs.length=its.length/\s.heap.get? l=some {cls:=.type "list",data:=.seq its.toArray n}:=by
 obtain⟨z,its,n,r,e⟩:=I.hok l _ hH
 exact⟨z,its,n,r,r.length,e⟩
end
section
variable {X:Cx}
def ye:V->List V->Hp->VK->Prop:=λx vs H Q=>∃l xs y,x=.ref l/\vs=[y]/\H l=some (.lst xs)/\xs.length < sizeLine/\Q .non (upd H l (.lst (xs++[y])))
theorem JD:MtM X "list.append" ye:=by
 intro pins s σ H x vs v us Q I rx rv h
 obtain⟨l,xs,y,rfl,rfl,hH,hz,q⟩:=h
 cases rx
 obtain⟨u,rfl,ru⟩:=rv.one
 obtain⟨z,its,n,r,hl,e⟩:=I.lstM hH
 refine call_meets F.slot_list_append ⟨_,e,rfl⟩ F.entry_list_append (F.args_list_append_2 _ _) (PySem.list_append l its.toArray n u (by rw[List.size_toArray];omega)) ⟨e,?_⟩
 refine⟨.non,_,I.lset (its':=its++[u]) hH e (by simp) (r.append (.cons ru .nil)) ?_,rfl,q⟩
 rw[List.length_append,List.length_singleton]
 omega
def vp:V->List V->Hp->VK->Prop:=λx vs H Q=>∃l xs,x=.ref l/\vs=[]/\H l=some (.lst xs)/\Q .non (upd H l (.lst xs.reverse))
theorem Wm:MtM X "list.reverse" vp:=by
 intro pins s σ H x vs v us Q I rx rv h
 obtain⟨l,xs,rfl,rfl,hH,q⟩:=h
 cases rx
 have hus:=rv.zero
 subst hus
 obtain⟨z,its,n,r,hl,e⟩:=I.lstM hH
 refine call_meets F.slot_list_reverse ⟨_,e,rfl⟩ F.entry_list_reverse (F.args_list_reverse_1 _) (AutoSeq1.list_reverse_list_0 l its.toArray n (by rw[List.size_toArray];omega)) ⟨e,?_⟩
 refine⟨.non,_,I.lset (its':=its.reverse) hH e (by simp) r.reverse ?_,rfl,q⟩
 rw[List.length_reverse]
 omega
end
section
variable {prog:Program} {w:World} {A:Around} {E:Value->Shared->Prop} {s:Shared}
set_option maxRecDepth 100000 in
end
section
variable {X:Cx}
end
end L2
namespace L2
open PySem PySem.Spec PyProof.Rows
section
variable {κ:Type} [DecidableEq κ]
def jz (kvs:List (κ×V)) (k:κ):Option V:=(kvs.find? λkv=>decide (kv.1=k)).map (·.2)
def jJ (kvs:List (κ×V)) (k:κ) (v:V):List (κ×V):=
 if (kvs.any λkv=>decide (kv.1=k))=true then kvs.map (λkv=>if kv.1=k then (kv.1,v) else kv) else kvs++[(k,v)]
theorem jk {p:κ×V} {r:List (κ×V)} {k:κ} (e:p.1=k):jz (p::r) k=some p.2:=by simp [jz,List.find?_cons,e]
theorem jm {p:κ×V} {r:List (κ×V)} {k:κ} (e:¬p.1=k):jz (p::r) k=jz r k:=by simp [jz,List.find?_cons,e]
theorem Qp (k:κ):∀kvs:List (κ×V),(kvs.any λkv=>decide (kv.1=k))=(jz kvs k).isSome
 | []=>rfl
 | p::r=>by
   rw[List.any_cons]
   by_cases e:p.1=k
   . simp only[jk e,decide_eq_true e,Bool.true_or,Option.isSome_some]
   . rw[jm e,decide_eq_false e,Bool.false_or];exact Qp k r
theorem Xi (k j:κ) (y:V):∀kvs:List (κ×V),jz (kvs.map λkv=>if kv.1=k then (kv.1,y) else kv) j=(jz kvs j).map λx=>if j=k then y else x
 | []=>rfl
 | p::r=>by
   have ih:=Xi k j y r
   rw[List.map_cons]
   by_cases h:p.1=k
   . rw[if_pos h]
     by_cases e:p.1=j
     . rw[jk (p:=(p.1,y)) e,jk e,Option.map_some,if_pos (e.symm.trans h)]
     . rw[jm (p:=(p.1,y)) e,jm e,ih]
   . rw[if_neg h]
     by_cases e:p.1=j
     . rw[jk (p:=p) e,jk e,Option.map_some,if_neg (λz=>h (e.trans z))]
     . rw[jm (p:=p) e,jm e,ih]
theorem Yc (k j:κ) (y:V):∀kvs:List (κ×V),jz kvs k=none->jz (kvs++[(k,y)]) j=if j=k then some y else jz kvs j
 | [],_=>by
   by_cases e:k=j
   . rw[if_pos e.symm];exact jk (p:=(k,y)) e
   . rw[if_neg (λz=>e z.symm)];exact jm (p:=(k,y)) e
 | p::r,hn=>by
   rw[List.cons_append]
   have hk:¬p.1=k:=λz=>by rw[jk z]at hn;cases hn
   rw[jm hk]at hn
   have ih:=Yc k j y r hn
   by_cases e:p.1=j
   . rw[jk e,jk e,if_neg (λz=>hk (e.trans z))]
   . rw[jm e,jm e,ih]
theorem Xh (kvs:List (κ×V)) (k j:κ) (y:V):jz (jJ kvs k y) j=if j=k then some y else jz kvs j:=by
 unfold jJ
 by_cases a:(kvs.any λkv=>decide (kv.1=k))=true
 . rw[if_pos a,Xi]
   rw[Qp]at a
   by_cases e:j=k
   . obtain⟨x,hx⟩:=Option.isSome_iff_exists.mp a
     rw[if_pos e,e,hx,Option.map_some,if_pos rfl]
   . rw[if_neg e]
     cases jz kvs j with
     | none=>rfl
     | some x=>rw[Option.map_some,if_neg e]
 . rw[if_neg a]
   refine Yc k j y kvs ?_
   rw[Qp]at a
   cases q:jz kvs k with
   | none=>rfl
   | some x=>rw[q]at a;exact(a rfl).elim
theorem Jq (kvs:List (κ×V)) (k:κ) (v:V):(jJ kvs k v).length<=kvs.length+1:=by
 unfold jJ
 split
 . rw[List.length_map];omega
 . rw[List.length_append,List.length_cons,List.length_nil];omega
theorem vt {kvs:List (κ×V)} {k:κ} (v:V) (h:jz kvs k=none):jJ kvs k v=kvs++[(k,v)]:=by
 unfold jJ
 rw[Qp,h]
 exact if_neg (by decide)
theorem Jg.isSome_eq {o:Option V} {u:Option Value} (r:Jg o u):o.isSome=u.isSome:=by
 cases o with
 | none=>cases u with
   | none=>rfl
   | some _=>exact(show False from r).elim
 | some _=>cases u with
   | none=>exact(show False from r).elim
   | some _=>rfl
theorem KV.val {kvs:List (κ×V)} {vs:List (κ×Value)} (r:KV kvs vs) (k:κ):Jg (jz kvs k) (valueAt vs k):=by
 unfold KV at r
 induction r with
 | nil=>exact True.intro
 | @cons p q ps qs h t ih=>
   obtain⟨h1,h2⟩:=h
   by_cases e:p.1=k
   . have e':q.1=k:=h1.symm.trans e
     have b:valueAt (q::qs) k=some q.2:=by simp [valueAt,List.find?_cons,e']
     rw[jk e,b];exact h2
   . have e':¬q.1=k:=λz=>e (h1.trans z)
     have b:valueAt (q::qs) k=valueAt qs k:=by simp [valueAt,List.find?_cons,e']
     rw[jm e,b];exact ih
theorem KV.any {kvs:List (κ×V)} {vs:List (κ×Value)} (r:KV kvs vs) (k:κ):(kvs.any λkv=>decide (kv.1=k))=vs.any λkv=>decide (kv.1=k):=by
 unfold KV at r
 induction r with
 | nil=>rfl
 | cons h t ih=>rw[List.any_cons,List.any_cons,ih,h.1]
theorem KV.repl {kvs:List (κ×V)} {vs:List (κ×Value)} (r:KV kvs vs) (k:κ) {y:V} {u:Value} (ry:qQ y u):
   KV (kvs.map λkv=>if kv.1=k then (kv.1,y) else kv) (vs.map λkv=>if kv.1=k then (kv.1,u) else kv):=by
 unfold KV at r ⊢
 induction r with
 | nil=>exact .nil
 | @cons p q ps qs h t ih=>
   rw[List.map_cons,List.map_cons]
   refine .cons ?_ ih
   obtain⟨h1,h2⟩:=h
   by_cases e:p.1=k
   . rw[if_pos e,if_pos (h1.symm.trans e)];exact⟨h1,ry⟩
   . rw[if_neg e,if_neg (λz=>e (h1.trans z))];exact⟨h1,h2⟩
theorem KV.put {kvs:List (κ×V)} {vs:List (κ×Value)} (r:KV kvs vs) (k:κ) {y:V} {u:Value} (ry:qQ y u):KV (jJ kvs k y) (stored vs k u):=by
 unfold jJ stored
 rw[r.any k]
 by_cases e:(vs.any λkv=>decide (kv.1=k))=true
 . rw[if_pos e,if_pos e];exact r.repl k ry
 . rw[if_neg e,if_neg e];exact Paired.snoc r ⟨rfl,ry⟩
theorem KV.length {kvs:List (κ×V)} {vs:List (κ×Value)} (r:KV kvs vs):kvs.length=vs.length:=Paired.length r
end
theorem XG {P:Program} {w:World} {k:qW} {u:Value} (r:qQ (kV k) u):(ju P w).is k u=true:=by
 cases k with
 | inl i=>obtain⟨t,e⟩:=(show ∃t,u=Value.int i t from r);subst e;exact XE P w i t
 | inr x=>obtain⟨t,e⟩:=(show ∃t,u=Value.str x t from r);subst e;exact XD P w x t
theorem Yn {P:Program} {w:World}:∀{ks:List qW} {us:List Value},qI (ks.map kV) us->ItemsAre (ju P w) ks us
 | [],_,r=>by rw[List.map_nil]at r;cases r;exact .nil
 | k::ks,_,r=>by
   rw[List.map_cons]at r
   cases r with
   | cons h t=>exact .cons (XG h) (Yn t)
abbrev KT (H:Hp):List (List qW×V)->List (List qW×Addr×Value)->Prop:=Paired λp q=>p.1=q.1/\H q.2.1=some (.tup (p.1.map kV))/\qQ p.2 q.2.2
theorem KT.val {H:Hp} {kvs:List (List qW×V)} {xs:List (List qW×Addr×Value)} (r:KT H kvs xs) (k:List qW):Jg (jz kvs k) ((atKey xs k).map (·.2)):=by
 induction r with
 | nil=>exact True.intro
 | @cons p q ps qs h t ih=>
   obtain⟨h1,_,h2⟩:=h
   by_cases e:p.1=k
   . have e':q.1=k:=h1.symm.trans e
     have b:atKey (q::qs) k=some q.2:=by simp [atKey,List.find?_cons,e']
     rw[jk e,b];exact h2
   . have e':¬q.1=k:=λz=>e (h1.trans z)
     have b:atKey (q::qs) k=atKey qs k:=by simp [atKey,List.find?_cons,e']
     rw[jm e,b];exact ih
theorem KT.repl {H:Hp} {kvs:List (List qW×V)} {xs:List (List qW×Addr×Value)} (r:KT H kvs xs) (k:List qW) {y:V} {u:Value} (ry:qQ y u):
   KT H (kvs.map λkv=>if kv.1=k then (kv.1,y) else kv) (xs.map (putAt k u)):=by
 induction r with
 | nil=>exact .nil
 | @cons p q ps qs h t ih=>
   rw[List.map_cons,List.map_cons]
   refine .cons ?_ ih
   obtain⟨h1,h2,h3⟩:=h
   unfold putAt
   by_cases e:p.1=k
   . rw[if_pos e,if_pos (h1.symm.trans e)];exact⟨h1,h2,ry⟩
   . rw[if_neg e,if_neg (λz=>e (h1.trans z))];exact⟨h1,h2,h3⟩
theorem KT.put {H:Hp} {kvs:List (List qW×V)} {xs:List (List qW×Addr×Value)} (r:KT H kvs xs) (k:List qW) {b:Addr} {y:V} {u:Value} (hb:H b=some (.tup (k.map kV))) (ry:qQ y u):
   KT H (jJ kvs k y) (storedH xs k b u):=by
 have e:(kvs.any λkv=>decide (kv.1=k))=(atKey xs k).isSome:=by
   rw[Qp,(r.val k).isSome_eq,Option.isSome_map]
 unfold jJ storedH
 rw[e]
 by_cases q:(atKey xs k).isSome=true
 . rw[if_pos q,if_pos q];exact r.repl k ry
 . rw[if_neg q,if_neg q];exact Paired.snoc r ⟨rfl,hb,ry⟩
theorem KT.keeps {H H':Hp} {kvs:List (List qW×V)} {xs:List (List qW×Addr×Value)} (r:KT H kvs xs) (ht:∀b ys,H b=some (.tup ys)->H' b=some (.tup ys)):KT H' kvs xs:=
 Paired.mapP r λ_ _ z=>⟨z.1,ht _ _ z.2.1,z.2.2⟩
section
variable {P:Program} {w:World} {H:Hp} {h:Heap} {a:Addr}
theorem xb {u:HO} (ok:Jh P w H h) (e:Rd H a u):qJ P w H h a u:=e.ok ok
theorem Vy {kvs:List (qW×V)} (ok:Jh P w H h) (e:Rd H a (.dK kvs)):kvs.length<=sizeLine/\(a==sysModules)=false/\∃vs,KV kvs vs/\h.DictOf (ju P w) a vs:=
 show qJ P w H h a (.dK kvs) from xb ok e
theorem xw {kvs:List (qW×V)} (ok:Jh P w H h) (e:H a=some (.dK kvs)):kvs.length<=sizeLine/\(a==sysModules)=false/\∃vs,KV kvs vs/\h.DictOf (ju P w) a vs:=Vy ok (.inl e)
theorem YM {ks:List qW} (ok:Jh P w H h) (e:H a=some (.tup (ks.map kV))):(tupleKind (ju P w)).is h ks a:=by
 obtain⟨_,its,r,o,h1,h2,n,h3⟩:=(show qJ P w H h a (.tup (ks.map kV)) from ok a _ e)
 exact⟨o,its.toArray,n,h1,h2,h3,by simpa using Yn r⟩
theorem Vx {kvs:List (List qW×V)} (ok:Jh P w H h) (e:Rd H a (.dT kvs)):kvs.length<=sizeLine/\(a==sysModules)=false/\
   ∃xs,KT H kvs xs/\h.DictOfH (tupleKind (ju P w)) a xs:=by
 obtain⟨z,y,xs,r,o,es,ep,h1,h2,h3,h4,h5⟩:=(show qJ P w H h a (.dT kvs) from xb ok e)
 refine⟨z,y,xs,r,o,es,ep,h1,h2,h3,h4,λx hx=>?_,h5⟩
 have all:∀{l:List (List qW×V)} {m:List (List qW×Addr×Value)},KT H l m->∀x∈m,(tupleKind (ju P w)).is h x.1 x.2.1:=by
   intro l m q
   induction q with
   | nil=>intro x hx;exact nomatch hx
   | @cons p q ps qs hq t ih=>
     intro x hx
     rcases List.mem_cons.mp hx with e | hx
     . subst e
       exact YM ok (by rw[<-hq.1];exact hq.2.1)
     . exact ih x hx
 exact all r x hx
theorem Kg {kvs:List (List qW×V)} (ok:Jh P w H h) (e:H a=some (.dT kvs)):kvs.length<=sizeLine/\(a==sysModules)=false/\
   ∃xs,KT H kvs xs/\h.DictOfH (tupleKind (ju P w)) a xs:=Vx ok (.inl e)
end
def Je (H:Hp) (a:Addr) (y:V) (r:Option V):Prop:=
 (∃kvs k,Rd H a (.dK kvs)/\y=kV k/\r=jz kvs k)\/∃kvs k b,Rd H a (.dT kvs)/\y=.ref b/\H b=some (.tup (k.map kV))/\r=jz kvs k
def Ji (H:Hp) (a:Addr) (y v:V) (H':Hp):Prop:=
 (∃kvs k,H a=some (.dK kvs)/\y=kV k/\kvs.length < sizeLine/\H'=upd H a (.dK (jJ kvs k v)))\/
 ∃kvs k b,H a=some (.dT kvs)/\y=.ref b/\H b=some (.tup (k.map kV))/\kvs.length < sizeLine/\H'=upd H a (.dT (jJ kvs k v))
theorem Je.k {H:Hp} {a:Addr} {kvs:List (qW×V)} {k:qW} (e:H a=some (.dK kvs)):Je H a (kV k) (jz kvs k):=.inl ⟨kvs,k,.inl e,rfl,rfl⟩
theorem Ji.k {H:Hp} {a:Addr} {kvs:List (qW×V)} {k:qW} {v:V} (e:H a=some (.dK kvs)) (hl:kvs.length < sizeLine):Ji H a (kV k) v (upd H a (.dK (jJ kvs k v))):=.inl ⟨kvs,k,e,rfl,hl,rfl⟩
theorem Ji.t {H:Hp} {a b:Addr} {kvs:List (List qW×V)} {k:List qW} {v:V} (e:H a=some (.dT kvs)) (eb:H b=some (.tup (k.map kV))) (hl:kvs.length < sizeLine):
   Ji H a (.ref b) v (upd H a (.dT (jJ kvs k v))):=.inr ⟨kvs,k,b,e,rfl,eb,hl,rfl⟩
section
variable {X:Cx} {pins:List (Addr×Obj)} {σ:St} {H:Hp} {s:Shared} {a:Addr} {y v:V} {u r:Value} {o:Option V} {A:Around} {E:Value->Shared->Prop}
theorem qx.big (I:qx X pins σ H s):sysModules < s.heap.objs.size:=by
 have h:mainGlobals < s.heap.objs.size:=(I.mod.glob.keeps I.bk).lt
 exact Nat.lt_trans (by decide) h
theorem UG {Q:Value->Shared->Prop} (hu:A.units+1 < cLine) (I:qx X pins σ H s) (g:Je H a y (some v)) (ry:qQ y u) (h:∀w' s',qx X pins σ H s'->qQ v w'->Q w' s'):
   wpAny (model X.prog X.w) A (getItem (.ref a) u) Q E s:=by
 rcases g with ⟨kvs,k,e,ey,l⟩ | ⟨kvs,k,b,e,ey,eb,l⟩
 . subst ey
   obtain⟨z,hd,vs,rel,dd⟩:=Vy I.hok e
   obtain⟨w',hw,rw'⟩:=Jg.some_of (v:=v) (o:=valueAt vs k) (by rw[l];exact rel.val k)
   exact wpAny_getItem_of (XG ry) dd.mapOf hw (h w' _ (I.tok _) rw')
 . subst ey
   cases (show u=Value.ref b from ry)
   obtain⟨z,hd,xs,rel,dd⟩:=Vx I.hok e
   obtain⟨w',hw,rw'⟩:=Jg.some_of (v:=v) (o:=(atKey xs k).map (·.2)) (by rw[l];exact rel.val k)
   obtain⟨p,hp,hp2⟩:=Option.map_eq_some_iff.mp hw
   refine wpAny_getItem_heap (tupleKind_room_in1 hu) (YM I.hok eb) dd hp ?_
   rw[hp2]
   exact h w' _ (I.tok _) rw'
theorem Go {Q:Value->Shared->Prop} (hu:A.units+1 < cLine) (I:qx X pins σ H s) (g:Je H a y o) (ry:qQ y u) (h:∀s',qx X pins σ H s'->Q (.bool o.isSome) s'):
   wpAny (model X.prog X.w) A (compareOp .In u (.ref a)) Q E s:=by
 rcases g with ⟨kvs,k,e,ey,l⟩ | ⟨kvs,k,b,e,ey,eb,l⟩
 . subst ey
   obtain⟨z,hd,vs,rel,dd⟩:=Vy I.hok e
   refine wpAny_in_of (XG ry) hd dd.mapOf ?_
   rw[<-(rel.val k).isSome_eq,<-l]
   exact h _ (I.tok _)
 . subst ey
   cases (show u=Value.ref b from ry)
   obtain⟨z,hd,xs,rel,dd⟩:=Vx I.hok e
   refine wpAny_in_heap (tupleKind_room_in1 hu) (YM I.hok eb) hd dd ?_
   have q:=(rel.val k).isSome_eq
   rw[Option.isSome_map]at q
   rw[<-q,<-l]
   exact h _ (I.tok _)
theorem YY {h':Heap} {t':Nat} {ob:HO} (I:qx X pins σ H s) (mu:wQ (H a)) (hs:Heap.SameBut a s.heap h') (he:∃q,h'.get? a=some q) (new:qJ X.prog X.w (upd H a ob) h' a ob):
   qx X pins σ (upd H a ob) {s with heap:=h',toks:=t'}:=
 I.write (x:=a) (e:=a) mu (.inl rfl) (λb q hb z=>(hs.2 b hb).trans z) he new
theorem ky {P:Program} {w:World} {H':Hp} {h':Heap} {kvs:List (qW×V)} {vs:List (qW×Value)} (z:kvs.length<=sizeLine) (hd:(a==sysModules)=false) (rel:KV kvs vs) (dd:h'.DictOf (ju P w) a vs):
   qJ P w H' h' a (.dK kvs):=⟨z,hd,vs,rel,dd⟩
theorem UF {H':Hp} {Q:Unit->Shared->Prop} (hu:A.units+1 < cLine) (I:qx X pins σ H s) (g:Ji H a y v H') (ry:qQ y u) (rv:qQ v r) (h:∀s',qx X pins σ H' s'->Q () s'):
   wpAny (model X.prog X.w) A (setItem (.ref a) u r) Q E s:=by
 rcases g with ⟨kvs,k,e,ey,l,eH⟩ | ⟨kvs,k,b,e,ey,eb,l,eH⟩
 . subst ey eH
   obtain⟨z,hd,vs,rel,dd⟩:=xw I.hok e
   have hz:vs.length<=sizeLine:=by rw[<-rel.length];exact z
   have hl:(jJ kvs k v).length<=sizeLine:=by have:=Jq kvs k v;omega
   refine wpAny_setItem_pairs (hsz:=hz) (XG ry) dd λh' dd' hs=>h _ ?_
   have he:∃q,h'.get? a=some q:=let ⟨q,_,_,hq,_⟩:=dd';⟨q,hq⟩
   exact YY I (by rw[e];exact True.intro) hs he (ky hl hd (rel.put k rv) dd')
 . subst ey eH
   cases (show u=Value.ref b from ry)
   obtain⟨z,hd,xs,rel,dd⟩:=Kg I.hok e
   have hz:xs.length<=sizeLine:=by rw[<-Paired.length rel];exact z
   have hl:(jJ kvs k v).length<=sizeLine:=by have:=Jq kvs k v;omega
   refine wpAny_setItem_heap (hsz:=hz) (tupleKind_room_in1 hu) (YM I.hok eb) dd λh' dd' hs=>h _ ?_
   obtain⟨q,es,ep,hq,h2,h3,h4,_,h5⟩:=dd'
   refine YY I (by rw[e];exact True.intro) hs ⟨q,hq⟩ ⟨hl,hd,_,(rel.put k eb rv).keeps λc ys ec=>?_,q,es,ep,hq,h2,h3,h4,h5⟩
   rw[qi (uP ec e (λz=>nomatch z))]
   exact ec
end
section
variable {X:Cx} {pins:List (Addr×Obj)} {σ:St} {H:Hp} {s:Shared} {a:Addr} {kvs:List (qW×V)} {k:qW} {u:Value} {A:Around} {E:Value->Shared->Prop}
end
def Kn (i:Expr):Prop:=∀ov iv,subscripted i false ov iv=operate [ov,iv] (getItem ov iv)
theorem k4 {prog:Program} {w:World} {A:Around} {E:Value->Shared->Prop} {s:Shared} {env:Env} {value slice:Expr} {pos:Pos} {T id:String} {Q:Value->Shared->Prop}
   (hl:typeLookup (.type T) "__getitem__"=pure (some (.builtin id))) (hs:Kn slice)
   (h:wpAny (model prog w) A (eval value env) (λo s₁=>wpAny (model prog w) A (eval slice env) (λi s₂=>s₂.TypeIs o T/\wpAny (model prog w) A (getItem o i) Q E s₂) E s₁) E s):
   wpAny (model prog w) A (eval (.Subscript value slice pos) env) Q E s:=by
 refine Subscript_ (wpAny_mono h (λo s₁ h₁=>wpAny_mono h₁ (λi s₂ h₂=>?_) λ_ _ x=>x) λ_ _ x=>x)
 obtain⟨hT,h₂⟩:=h₂
 unfold subscriptTail
 refine wpAny_bind ?_
 rw[getitemInPython_of_ne hT.not_modules]
 refine wpAny_bind (wpAny_specialOf hT hl ?_)
 have fin:wpAny (model prog w) A (subscripted slice false o i) (λr s₃=>wpAny (model prog w) A (letTemporaryGo value o r >>= λ_=>pure r) Q E s₃) E s₂:=by
   rw[hs o i]
   exact wpAny_operating (wpAny_mono h₂ (λr s₃ h₃=>wpAny_bind (wpAny_letTemporaryGo (wpAny_pure h₃))) λ_ _ x=>x)
 first
   | exact wpAny_pure (wpAny_bind fin)
   | exact wpAny_bind (wpAny_pure (wpAny_bind fin))
   | exact wpAny_bind fin
theorem XN {X:Cx} {pins:List (Addr×Obj)} {σ:St} {H:Hp} {s:Shared} {a:Addr} {y:V} {o:Option V} (I:qx X pins σ H s) (g:Je H a y o):s.TypeIs (.ref a) "dict":=by
 rcases g with ⟨kvs,k,e,_,_⟩ | ⟨kvs,k,b,e,_,_,_⟩
 . obtain⟨_,_,vs,_,dd⟩:=Vy I.hok e
   exact dd.typeIs
 . obtain⟨_,_,xs,_,dd⟩:=Vx I.hok e
   exact dd.typeIs
def uc (td ty:TE):TE:=λσ H Q=>td σ H λx H1=>ty σ H1 λy H2=>∃a v,x=.ref a/\Je H2 a y (some v)/\Q v H2
def xD (ty td:TE):TE:=λσ H Q=>ty σ H λy H1=>td σ H1 λx H2=>∃a o,x=.ref a/\Je H2 a y o/\Q (.bl o.isSome) H2
def W5 (td ty tv:TE):TS:=λD σ H=>tv σ H λv H1=>td σ H1 λx H2=>ty σ H2 λy H3=>∃a H4,x=.ref a/\Ji H3 a y v H4/\D.nx σ H4
section
variable {X:Cx} {o i e value:Expr} {pos pos' tpos:Pos} {td ty tv:TE}
theorem Ja (hu:X.A.units+1 < cLine) (ho:JE X o td) (hi:JE X i ty) (hs:Kn i):JE X (.Subscript o i pos) (uc td ty):=.of (by
 have ho:=ho.to
 have hi:=hi.to
 intro pins s σ H Q I h
 refine k4 PySem.F.slot_dict_getitem.lookup hs (ja (ho pins s σ H _ I h) λu s1 ⟨x,H1,I1,rx,q1⟩=>ja (hi pins s1 σ H1 _ I1 q1) λiv s2 ⟨y,H2,I2,ry,a,v,ex,g,q2⟩=>?_)
 subst ex
 obtain rfl:u=Value.ref a:=rx
 exact⟨XN I2 g,UG hu I2 g ry λw' s3 I3 rw'=>⟨v,H2,I3,rw',q2⟩⟩)
theorem YQ (hu:X.A.units+1 < cLine) (hi:JE X i ty) (ho:JE X o td):JC X .In i o (xD ty td):=.of (by
 have hi:=hi.to
 have ho:=ho.to
 intro pins s σ H Q I h
 refine ja (hi pins s σ H _ I h) λiv s1 ⟨y,H1,I1,ry,q1⟩=>ja (ho pins s1 σ H1 _ I1 q1) λu s2 ⟨x,H2,I2,rx,a,ov,ex,g,q2⟩=>?_
 subst ex
 obtain rfl:u=Value.ref a:=rx
 exact Go hu I2 g ry λs3 I3=>⟨.bl ov.isSome,H2,I3,rfl,q2⟩)
theorem jO (hu:X.A.units+1 < cLine) (ho:JE X o td) (hi:JE X i ty) (hv:JE X value tv) (hs:swapsWith value (some (.Subscript o i pos')) pos.line X.env=pure false):JS X (.Assign [.Subscript o i pos'] value pos) (W5 td ty tv):=.of (by
 have ho:=ho.to
 have hi:=hi.to
 have hv:=hv.to
 intro pins s σ H D I h
 refine wpAny_Assign_Subscript (ja (hv pins s σ H _ I h) λr s1 ⟨v,H1,I1,rv,q1⟩=>ja (ho pins s1 σ H1 _ I1 q1) λu s2 ⟨x,H2,I2,rx,q2⟩=>ja (hi pins s2 σ H2 _ I2 q2) λiv s3 ⟨y,H3,I3,ry,a,H4,ex,g,q3⟩=>?_) hs
 subst ex
 obtain rfl:u=Value.ref a:=rx
 exact UF hu I3 g ry rv λs4 I4=>⟨σ,H4,I4,q3⟩)
end
theorem XM {P:Program} {w:World} {H:Hp} (h:Heap) (hb:sysModules < h.objs.size):qJ P w H (h.push {cls:=.type "dict",data:=.dict #[]}) h.objs.size (.dK []):=
 ⟨Nat.zero_le _,beq_eq_false_iff_ne.mpr (Ne.symm (Nat.ne_of_lt hb)),[],.nil,Heap.DictOf.new h⟩
theorem ku {P:Program} {w:World} {H:Hp} (h:Heap) (hb:sysModules < h.objs.size):qJ P w H (h.push {cls:=.type "dict",data:=.dict #[]}) h.objs.size (.dT []):=
 ⟨Nat.zero_le _,beq_eq_false_iff_ne.mpr (Ne.symm (Nat.ne_of_lt hb)),[],.nil,_,#[],0,Heap.get?_push_size _ rfl,⟨rfl,rfl,rfl⟩,rfl,rfl,List.nodup_nil⟩
def UY:TE:=λ_ H Q=>∀p,H p=none->Q (.ref p) (upd H p (.dK []))
def UX:TE:=λ_ H Q=>∀p,H p=none->Q (.ref p) (upd H p (.dT []))
section
variable {X:Cx} {pos:Pos}
theorem vB:PE X (.Dict [] [] pos) UY:=λpins s σ H Q I h=>
 wpAny_Dict_empty ⟨.ref s.heap.objs.size,_,I.laid (a:=s.heap.objs.size) (o:=.dK []) (t':=s.toks) (λ_ _ q=>Heap.get?_push_of_some _ q) (Nat.le_refl _) (XM s.heap I.big),rfl,h _ (I.hok.fresh (Nat.le_refl _))⟩
theorem Qw:JE X (.Dict [] [] pos) UY:=.of (vB)
theorem vA:PE X (.Dict [] [] pos) UX:=λpins s σ H Q I h=>
 wpAny_Dict_empty ⟨.ref s.heap.objs.size,_,I.laid (a:=s.heap.objs.size) (o:=.dT []) (t':=s.toks) (λ_ _ q=>Heap.get?_push_of_some _ q) (Nat.le_refl _) (ku s.heap I.big),rfl,h _ (I.hok.fresh (Nat.le_refl _))⟩
theorem vZ:JE X (.Dict [] [] pos) UX:=.of (vA)
end
def X7:List (TE×TE)->St->Hp->(List (V×V)->Hp->Prop)->Prop
 | [],_,H,Q=>Q [] H
 | (tk,tv)::r,σ,H,Q=>tk σ H λx H1=>tv σ H1 λy H2=>X7 r σ H2 λps H3=>Q ((x,y)::ps) H3
abbrev VV:List (V×V)->List (Value×Value)->Prop:=Paired λp q=>qQ p.1 q.1/\qQ p.2 q.2
def Kl (X:Cx) (pos:Pos) (keys:List (Option Expr)) (values:List Expr) (trs:List (TE×TE)):Prop:=
 ∀(pins:List (Addr×Obj)) (s:Shared) (σ:St) (H:Hp) (Q:List (V×V)->Hp->Prop),qx X pins σ H s->X7 trs σ H Q->
   wpAny (model X.prog X.w) X.A (evalPairs (pairTrees keys values X.env pos)) (λvs s'=>∃ps H',qx X pins σ H' s'/\VV ps vs/\Q ps H') X.xe s
@[irreducible] def kO (X:Cx) (pos:Pos) (keys:List (Option Expr)) (values:List Expr) (trs:List (TE×TE)):Prop:=Kl X pos keys values trs
theorem kO.of {X:Cx} {pos:Pos} {keys:List (Option Expr)} {values:List Expr} {trs:List (TE×TE)} (h:Kl X pos keys values trs):kO X pos keys values trs:=by unfold kO;exact h
theorem kO.to {X:Cx} {pos:Pos} {keys:List (Option Expr)} {values:List Expr} {trs:List (TE×TE)} (h:kO X pos keys values trs):Kl X pos keys values trs:=by unfold kO at h;exact h
theorem yD {X:Cx} {pos:Pos}:kO X pos [] [] []:=.of (by
 exact λpins s σ H Q I h=>pairTrees_nil_walk ⟨[],H,I,.nil,h⟩)
theorem vx {X:Cx} {pos:Pos} {k v:Expr} {ks:List (Option Expr)} {vs:List Expr} {tk tv:TE} {trs:List (TE×TE)} (hk:PE X k tk) (hv:PE X v tv) (hr:Kl X pos ks vs trs):
   Kl X pos (some k::ks) (v::vs) ((tk,tv)::trs):=λpins s σ H Q I h=>
 pairTrees_cons_walk (ja (hk pins s σ H _ I h) λu s1 ⟨x,H1,I1,rx,q1⟩=>ja (hv pins s1 σ H1 _ I1 q1) λw2 s2 ⟨y,H2,I2,ry,q2⟩=>
   ja (hr pins s2 σ H2 _ I2 q2) λws s3 ⟨ps,H3,I3,rel,q3⟩=>⟨(x,y)::ps,H3,I3,.cons ⟨rx,ry⟩ rel,q3⟩)
theorem zK {X:Cx} {pos:Pos} {k v:Expr} {ks:List (Option Expr)} {vs:List Expr} {tk tv:TE} {trs:List (TE×TE)} (hk:JE X k tk) (hv:JE X v tv) (hr:kO X pos ks vs trs):kO X pos (some k::ks) (v::vs) ((tk,tv)::trs):=.of (vx hk.to hv.to hr.to)
def Zc (kvs more:List (qW×V)):List (qW×V):=more.foldl (λacc kv=>jJ acc kv.1 kv.2) kvs
theorem KV.merge:∀{more:List (qW×V)} {rs:List (qW×Value)} {kvs:List (qW×V)} {vs:List (qW×Value)},KV more rs->KV kvs vs->KV (Zc kvs more) (merged vs rs):=by
 intro more rs kvs vs r
 unfold KV at r
 induction r generalizing kvs vs with
 | nil=>intro q;exact q
 | @cons p q ps qs h t ih=>
   intro r0
   have e:KV (jJ kvs p.1 p.2) (stored vs q.1 q.2):=by
     have:=r0.put p.1 h.2
     rw[<-h.1];exact this
   exact ih e
theorem J0:∀(more kvs:List (qW×V)),(Zc kvs more).length<=kvs.length+more.length
 | [],kvs=>by show kvs.length<=kvs.length+0;omega
 | p::r,kvs=>by
   have h1:=J0 r (jJ kvs p.1 p.2)
   have h2:=Jq kvs p.1 p.2
   show (Zc (jJ kvs p.1 p.2) r).length<=_
   rw[List.length_cons];omega
theorem zT {P:Program} {w:World}:∀{kvs:List (qW×V)} {ws:List (Value×Value)},VV (kvs.map λkv=>(kV kv.1,kv.2)) ws->∃rs,Carries (ju P w) ws rs/\KV kvs rs
 | [],_,r=>by rw[List.map_nil]at r;cases r;exact⟨[],True.intro,.nil⟩
 | p::kvs,_,r=>by
   rw[List.map_cons]at r
   cases r with
   | @cons a b as bs h t=>
     obtain⟨rs,c,q⟩:=zT (P:=P) (w:=w) t
     obtain⟨b1,b2⟩:=b
     exact⟨(p.1,b2)::rs,⟨XG h.1,rfl,c⟩,.cons ⟨rfl,h.2⟩ q⟩
def wZ (trs:List (TE×TE)):TE:=λσ H Q=>∀p,H p=none->X7 trs σ (upd H p (.dK [])) λps H2=>H2 p=some (.dK [])/\∃kvs:List (qW×V),ps=kvs.map (λkv=>(kV kv.1,kv.2))/\kvs.length<=15/\Q (.ref p) (upd H2 p (.dK (Zc [] kvs)))
theorem yE {X:Cx} {pos:Pos} {keys:List (Option Expr)} {values:List Expr} {trs:List (TE×TE)} (h:kO X pos keys values trs) (hall:keys.all (·.isSome)=true) (hl:keys.length=values.length) (h0:keys≠[]) (h15:keys.length<=15):JE X (.Dict keys values pos) (wZ trs):=.of (by
 have h:=h.to
 intro pins s σ H Q I q
 have hn:=I.hok.fresh (Nat.le_refl s.heap.objs.size)
 have I1:=I.laid (a:=s.heap.objs.size) (o:=.dK []) (h':=s.heap.push {cls:=.type "dict",data:=.dict #[]}) (t':=s.toks) (λ_ _ q=>Heap.get?_push_of_some _ q) (Nat.le_refl _) (XM s.heap I.big)
 refine wpAny_Dict_walk (knd:=ju X.prog X.w) hall hl h0 h15 (ja (h pins _ σ _ _ I1 (q _ hn)) λws s2 ⟨ps,H2,I2,rel,e,kvs,ep,lk,q2⟩=>?_)
 subst ep
 obtain⟨rs,c,rk⟩:=zT (P:=X.prog) (w:=X.w) rel
 obtain⟨z,hd,vs0,r0,dd⟩:=xw I2.hok e
 cases r0
 refine⟨rs,c,dd,λh' dd' hs=>⟨.ref s.heap.objs.size,_,?_,rfl,q2⟩⟩
 have hz:(Zc [] kvs).length<=sizeLine:=by
   have h1:=J0 kvs []
   rw[List.length_nil]at h1
   rw[sizeLine_eq];omega
 have he:∃q,h'.get? s.heap.objs.size=some q:=let ⟨q,_,_,hq,_⟩:=dd';⟨q,hq⟩
 exact YY I2 (by rw[e];exact True.intro) hs he (ky hz hd (rk.merge .nil) dd'))
structure M1 (X:Cx) (o:Expr) (m:Str) (apos:Pos) (e:Expr) (cpos:Pos):Prop where
 base:attributeBase o m X.env (eval o X.env)=eval o X.env
 few:((backTo cpos (starEach [e] X.env)).all (λx=> !x.1)&&(backToKw cpos (keywordEach [] X.env)).all (λx=>x.1.isSome)
   &&decide (([e]:List Expr).length+([]:List Keyword).length+(if ([]:List Keyword).isEmpty then 0 else 1) < 30))=true
 line:(apos.endLine==cpos.line)=true
 trees:backTo cpos (starEach [e] X.env)=[(false,eval e X.env)]
structure M2 (X:Cx) (o:Expr) (m:Str) (apos:Pos) (e f:Expr) (cpos:Pos):Prop where
 base:attributeBase o m X.env (eval o X.env)=eval o X.env
 few:((backTo cpos (starEach [e,f] X.env)).all (λx=> !x.1)&&(backToKw cpos (keywordEach [] X.env)).all (λx=>x.1.isSome)
   &&decide (([e,f]:List Expr).length+([]:List Keyword).length+(if ([]:List Keyword).isEmpty then 0 else 1) < 30))=true
 line:(apos.endLine==cpos.line)=true
 trees:backTo cpos (starEach [e,f] X.env)=[(false,eval e X.env),(false,eval f X.env)]
section
variable {X:Cx} {pins:List (Addr×Obj)} {σ:St} {H:Hp} {s:Shared} {a:Addr} {y d:V} {u r:Value} {o:Option V} {A:Around} {E:Value->Shared->Prop}
end
section
variable {X:Cx} {o e f:Expr} {apos cpos:Pos} {td ty tx:TE}
end
section
variable {X:Cx} {pins:List (Addr×Obj)} {σ:St} {H:Hp} {s:Shared} {a:Addr} {kvs:List (qW×V)} {A:Around} {E:Value->Shared->Prop}
end
section
variable {X:Cx} {pins:List (Addr×Obj)} {σ:St} {H:Hp} {s:Shared} {a:Addr} {y:V} {u:Value} {A:Around} {E:Value->Shared->Prop}
end
end L2
namespace Att
open PySem PySem.W PySem.Calls PyProof.Rows
theorem Z5 {P:Params} {h:Heap}:∀(ns:List Int) (vs:List Value),WellAll P h vs (ns.map WData.int)->IntsAre vs ns:=by
 intro ns
 induction ns with
 | nil=>
   intro vs w
   rw[List.map_nil]at w
   cases w
   exact .nil
 | cons n ns ih=>
   intro vs w
   rw[List.map_cons]at w
   cases w with
   | cons a b=>
     cases a
     exact .cons _ _ (ih _ b)
theorem VY {l:OpenLaw} {n:Nat} (hn:l.most=some n) {P:Params} {h:Heap} {args:List WData} {vals:List Value}
   (hpre:l.row.toRowW.claim.pre args=true) (hwl:WellAll P h vals args):
   ∃a vs ns,vals=[Value.ref a]/\args=[WData.list (ns.map WData.int)]/\h.get? a=some {cls:=.type "list",data:=.seq vs.toArray}/\IntsAre vs ns/\ns.length<=n:=by
 have hsh:WShape.hasAll [] args [.list .int]=true:=(pre_splitW hpre).1
 have hc:l.pre.holds [] {args:=args}=true:=(pre_splitW hpre).2
 obtain⟨d,r,rfl,h1,h2⟩:=hasAllW_cons hsh
 obtain rfl:=hasAllW_nil h2
 obtain⟨xs,rfl,h3⟩:=hasW_list h1
 obtain⟨ns,rfl⟩:=items_int h3
 have hlen:ns.length<=n:=by
   unfold OpenLaw.pre at hc
   have h4:(WTm.not (.lt (.lit (.int (n:Int))) (.len (.arg 0)))).holds [] {args:=[.list (ns.map .int)]}=true:=by
     have h4:=(holds_andW hc).1
     rw[hn]at h4
     exact h4
   have h5:=condW_of h4 (w_not (w_lt w_lit (w_len_list (w_arg rfl))))
   rw[List.length_map]at h5
   refine Nat.le_of_not_lt λq=>?_
   have q':(n:Int) < ((ns.length:Nat):Int):=by omega
   first
     | (rw[decide_eq_true q']at h5;exact absurd h5 (by decide))
     | (simp at h5;omega)
 cases hwl with
 | cons w1 w2=>
   cases w2
   cases w1 with
   | list ho hall=>exact⟨_,_,ns,rfl,rfl,ho,Z5 ns _ hall,hlen⟩
theorem V9 (l:OpenLaw) (args:List WData):l.row.toRowW.claim.post args (.bool true) args=true:=
 postW_of (r:=l.row.toRowW) (X:=(true==true))
   (show WShape.has [] (.bool true) .bool=true by first | rfl | decide | simp [WShape.has,WShape.arms,WShape.armsAll])
   (show (WTm.eq .res (.lit (.bool true))).value [] {args:=args,res:=some (.bool true),after:=args}=some (.bool (true==true)) from w_eq_bool (w_res rfl) w_lit) rfl
theorem attach_call {l:OpenLaw} {n:Nat} {q:Program} {loose:List Str} {XP:(Str->Option Value)->Heap->Prop} {YP:World->Heap->Prop} {d:DefRec}
   (hn:l.most=some n) (hdf:d.params.defaults=[])
   (call:∀(w:World) (s₀ s₁:Shared) (mg mb:Str->Option Value) (fa:Addr) (o:Obj) (pm cd doc:Value) (a:Addr) (vs:List Value) (ns:List Int),
     Ground q loose [] XP w s₀ mg mb s₁.heap->YP w s₁.heap->
     s₁.heap.get? fa=some o->o.data=.func (docDef d.name d.params d.body d.scope pm cd doc)->s₁.heap.CodeRec cd d.name->mg d.name=some (.ref fa)->
     s₁.heap.get? a=some {cls:=.type "list",data:=.seq vs.toArray}->IntsAre vs ns->ns.length<=n->s₁.gens=#[]->
     codeAny (model l.prog w) callerA (.call (.ref fa) ⟨[.ref a],[]⟩) (λr s'=>r=.ok (.ret (.bool true))/\OldK s₁.heap s'.heap/\s'.os=s₁.os/\AllBare s'.gens) s₁):
   WalkO q loose XP YP l.row.toRowW d [] (λf vs=>PySem.call f vs):=by
 intro w s₀ s₁ mg mb G Y fa o pm cd doc dV kV ho hd hcd hD hmg hg args vals as hpre hlay hrd hwl hlo
 obtain rfl:dV=.none:=Dflts.none hD hdf
 obtain rfl:kV=.none:=Dflts.noKw hD
 obtain⟨a,vs,ns,rfl,rfl,hobj,hints,hlen⟩:=VY hn hpre hwl
 refine enter_call (codeAny_mono (call w s₀ s₁ mg mb fa o pm cd doc a vs ns G Y ho (fd_plain hd) hcd hmg hobj hints hlen hg) λr s' hq=>?_)
 obtain⟨rfl,h2,h3,h4⟩:=hq
 exact⟨.inl ⟨.bool true,.bool true,[],rfl,λ_=>rfl,.bool true,V9 l _,λ_=>⟨List.Pairwise.nil,λ_ hm=>(nomatch hm)⟩⟩,h2,h3,h4⟩
section
variable {prog:Program} {w:World} {A:Around} {E:Value->Shared->Prop} {s:Shared} {K:Frag}
end
end Att
namespace L2
open PySem PySem.Spec PyProof.Rows
theorem Yb:∀{vs:List Value} {ns:List Int},IntsAre vs ns->qI (ns.map V.int) vs
 | _,_,.nil=>.nil
 | _,_,.cons n t h=>.cons ⟨t,rfl⟩ (Yb h)
def wI (H:Hp):Prop:=∀b,H b=none\/∃o xs,H b=some (.frz o (.lst xs))
theorem vR {P:Program} {w:World} {K:PySem.W.Frag} {mg mb:Str->Option Value} {CX:z9} {k:Nat} {fa a:Addr} {fd:FuncData} {x:Str} {sp:Sp} {s₁:Shared} {vs:List Value} {ns:List Int}
   (KX:K.In s₁.heap) (hns:s₁.heap.Ns mainGlobals mg) (hb:s₁.heap.Ns builtinsNs mb) (hbb:∀x:Str,x≠"__name__"->mb x=bootBuiltins x) (hlim:s₁.heap.NoLimit) (hg:s₁.gens=#[])
   (ha:s₁.heap.get? a=some {cls:=.type "list",data:=.seq vs.toArray}) (hi:IntsAre vs ns) (hl:ns.length<=sizeLine) (hr:q5 k callerA)
   (F:∀base:Heap,K.In base->base.Ns mainGlobals mg->qz P w K mg base CX k fa fd [x] sp) (hbind:∀(s:Shared) (u:Value),BindsTo s fd ⟨[u],[]⟩ [(x,u)])
   (hsp:∀H:Hp,wI H->SqL K H a (ns.map V.int)->sp [.ref a] H (λv _=>v=.bl true) λ_ _ _=>False)
   (hCX:∀H e s',CX [] H s₁ (λ_ _ _=>False) e s'->False):
   codeAny (model P w) callerA (.call (.ref fa) ⟨[.ref a],[]⟩) (λr s'=>r=.ok (.ret (.bool true))/\OldK s₁.heap s'.heap/\s'.os=s₁.os/\AllBare s'.gens) s₁:=by
 have rv:=Yb hi
 have lenV:=hi.length
 have core:∀H:Hp,wI H->SqL K H a (ns.map V.int)->Jh P w H s₁.heap->(∀b,H b≠none->b=a)->(H a≠none->K.lookup a=none)->
     codeAny (model P w) callerA (.call (.ref fa) ⟨[.ref a],[]⟩) (λr s'=>r=.ok (.ret (.bool true))/\OldK s₁.heap s'.heap/\s'.os=s₁.os/\AllBare s'.gens) s₁:=by
   intro H hO hS hok hA hK
   have base_of:∀{b:Addr} {o:Obj},s₁.heap.get? b=some o->H b=none->(YT s₁.heap H).get? b=some o:=λe n=>kl e n
   have noA:∀{b:Addr} {o:Obj} {es:Array DictEntry} {ep:Nat},s₁.heap.get? b=some o->o.data=.dict es ep->H b=none:=λ{b o es ep} e d=>by
     cases q:H b with
     | none=>rfl
     | some u=>
       have e':b=a:=hA b (by rw[q];simp)
       subst e'
       rw[ha]at e;cases e
       have d':Data.seq vs.toArray _=Data.dict es ep:=d
       cases d'
   have nsK:∀{b:Addr} {m:Str->Option Value},s₁.heap.Ns b m->(YT s₁.heap H).Ns b m:=λ{b m} ⟨o,es,ep,e,d,r⟩=>⟨o,es,ep,base_of e (noA e d),d,r⟩
   have hKb:K.In (YT s₁.heap H):=λb o e=>base_of (KX b o e) (by
     cases q:H b with
     | none=>rfl
     | some u=>
       have e':b=a:=hA b (by rw[q];simp)
       subst e'
       rw[hK (by rw[q];simp)]at e;cases e)
   have hM:Mod K mg (YT s₁.heap H):=⟨hKb,nsK hns,⟨mb,nsK hb,hbb⟩,let ⟨mc,h1,h2⟩:=hlim;⟨mc,nsK h1,h2⟩⟩
   have e0:XX P w K mg (YT s₁.heap H) callerA [] s₁ H:=⟨rfl,hM,λb o e=>yv e,Nat.le_of_eq (Uy _ _),trivial,λb hb=>absurd (show b∈([]:List Addr) from hb) (by simp),hok,.of_eq hg⟩
   refine codeAny_mono ((F _ hKb (nsK hns)).run callerA [] s₁ H ⟨[.ref a],[]⟩ [.ref a] [.ref a] _ _ hr e0 (hbind s₁ (.ref a)) (.cons rfl .nil) (hsp H hO hS)) λr s' h=>?_
   cases r with
   | error e=>exact(hCX H e s' h).elim
   | ok fl=>
     cases fl with
     | next=>exact False.elim h
     | brk=>exact False.elim h
     | cont=>exact False.elim h
     | ret u=>
       obtain⟨v,H',os,bare,un,hok',r',q⟩:=h
       have q':v=.bl true:=q
       subst q'
       obtain rfl:u=Value.bool true:=r'
       refine⟨rfl,OldK.of_keep λb o e=>?_,os,bare⟩
       cases q:H b with
       | none=>exact un.keep b o e q (by intro z;exact absurd (show b∈([]:List Addr) from z) (by simp)) (by simp)
       | some u=>
         rcases hO b with z | ⟨ob,xs,z⟩
         . rw[q]at z;cases z
         . have z2:=un.frzs b ob _ z
           obtain⟨e1,_⟩:=hok b _ z
           obtain⟨e2,_⟩:=hok' b _ z2
           rw[e]at e1;cases e1
           exact e2
 cases hk:K.lookup a with
 | some o=>
   have e:=KX a o hk
   rw[ha]at e
   cases e
   refine core (λ_=>none) (λ_=>.inl rfl) (.inr ⟨_,vs.toArray,_,hk,rfl,rfl,rfl,by rw[List.size_toArray,lenV];exact hl,by simpa using rv⟩) (λb u z=>by have z':(none:Option HO)=some u:=z;cases z') (λb z=>absurd rfl z) λz=>absurd rfl z
 | none=>
   refine core (λb=>if b=a then some (.frz {cls:=.type "list",data:=.seq vs.toArray} (.lst (ns.map V.int))) else none) (λb=>?_) (.inl (.inr ⟨{cls:=.type "list",data:=.seq vs.toArray},if_pos rfl⟩)) (λb u z=>?_) (λb z=>?_) λ_=>hk
   . by_cases hb:b=a
     . exact .inr ⟨_,_,if_pos hb⟩
     . exact .inl (if_neg hb)
   . by_cases hb:b=a
     . have z':=(if_pos hb).symm.trans z
       cases z'
       subst hb
       exact⟨ha,by rw[List.length_map];exact hl,vs,_,rv,ha⟩
     . have z':=(if_neg hb).symm.trans z
       cases z'
   . by_cases hb:b=a
     . exact hb
     . exact absurd (if_neg hb) z
end L2
namespace L2
open PySem PySem.Spec PyProof.Rows
theorem walk_of {l:PySem.W.OpenLaw} {n k:Nat} {q:Program} {loose:List Str} {XP:(Str->Option Value)->Heap->Prop} {YP:World->Heap->Prop} {d:DefRec} {K:Params->PySem.W.Frag} {CX:World->z9} {sp:World->Sp} {x:Str}
   (hn:l.most=some n) (hn2:n<=sizeLine) (hdf:d.params.defaults=[]) (hr:q5 k callerA)
   (hY:∀(w:World) (h:Heap),YP w h->(K w.params).In h)
   (F:∀(w:World) (mg:Str->Option Value) (fa:Addr) (h:Heap),(K w.params).In h->h.Ns mainGlobals mg->mg d.name=some (.ref fa)->
     ∃fd:FuncData,(∀(s:Shared) (u:Value),BindsTo s fd ⟨[u],[]⟩ [(x,u)])/\
      ∀base:Heap,(K w.params).In base->base.Ns mainGlobals mg->qz l.prog w (K w.params) mg base (CX w) k fa fd [x] (sp w))
   (hsp:∀(w:World) (H:Hp) (a:Addr) (ns:List Int),ns.length<=n->wI H->SqL (K w.params) H a (ns.map V.int)->sp w [.ref a] H (λv _=>v=.bl true) λ_ _ _=>False)
   (hCX:∀(w:World) (H:Hp) (s:Shared) (e:Value) (s':Shared),CX w [] H s (λ_ _ _=>False) e s'->False):
   PySem.W.WalkO q loose XP YP l.row.toRowW d [] (λf vs=>PySem.call f vs):=by
 refine Att.attach_call hn hdf λw s₀ s₁ mg mb fa o pm cd doc a vs ns G Y ho hd hcd hmg hobj hints hlen hg=>?_
 have KX:=hY w _ Y
 obtain⟨fd,hb,hF⟩:=F w mg fa _ KX G.T.g hmg
 exact vR KX G.T.g G.T.b G.T.builtins G.T.nolimit hg hobj hints (Nat.le_trans hlen hn2) hr hF hb (λH hO hS=>hsp w H a ns hlen hO hS) λH e s'=>hCX w H s₁ e s'
end L2
namespace L2
open PySem PySem.Spec PyProof.Rows
def JL (s:Stmt) (j:Nat):Stmt:=match s with
 | .ClassDef _ _ _ body _ _ _ _ _ _ _=>body.getD j (.Pass ⟨0,0,0,0⟩)
 | _=>.Pass ⟨0,0,0,0⟩
def QF (s:Stmt):Arguments:=match s with
 | .FunctionDef _ a _ _ _ _ _ _ _ _=>a
 | _=>{posonlyargs:=[],args:=[],vararg:=none,kwonlyargs:=[],kw_defaults:=[],kwarg:=none,defaults:=[]}
def j4 (s:Stmt):List Stmt:=match s with
 | .FunctionDef _ _ b _ _ _ _ _ _ _=>b
 | _=>[]
def qv (s:Stmt):Scope:=match s with
 | .FunctionDef _ _ _ _ _ _ sc _ _ _=>sc
 | _=>{kind:=.function,names:=[],isGenerator:=false,isCoroutine:=false}
abbrev jc:z9:=λ_ _ _ _ _ _=>False
abbrev E0:XK:=λ_ _ _=>False
theorem Zm {X:Cx}:Qz jc X E0:=λ_ _ _ _ _ _ _ h=>h.elim
structure Ql (K:PySem.W.Frag) (x qual:Str) (st:Stmt) (f:Addr) (fd:FuncData):Prop where
 ex:∃(oc:Value) (od:Option Addr) (kV doc pm:Value) (an:Option Addr) (cdv ct:Value) (osl:Array (Option Value)),
   fd=PySem.W.fnOf x qual (QF st) (j4 st) (qv st) .none kV doc pm an cdv ct/\K.lookup f=some ⟨oc,od,.func fd,osl⟩/\PySem.W.codeIn K cdv qual=true
 kp:PySem.W.keepIn K (.ref f)=true
section
variable {P:Program} {w:World} {K:PySem.W.Frag} {mg:Str->Option Value} {base:Heap}
theorem Ql.ok {x qual:Str} {st:Stmt} {f:Addr} {fd:FuncData} {N ps:List Str} {k:Nat} {sp:Sp} (F:Ql K x qual st f fd) (S:qK N ps (qv st)) (len:∀vs H Q E,sp vs H Q E->vs.length=ps.length)
   (hbody:∀(cdv:Value) (A:Around) (outer:List Env) (s:Shared) (H:Hp) (vs:List V) (Q:VK) (E:XK),q5 k (A.deeper (envOfC qual (qv st) s.heap.objs.size f cdv))->sp vs H Q E->
     ∃t,kN (j5 jc P w K mg base N qual (qv st) f cdv A outer s H E).nox (j4 st) t/\t {nx:=λ_ H'=>Q .non H',rt:=Q} (JY N vs) H):qz P w K mg base jc (k+1) f fd ps sp:=by
 obtain⟨oc,od,kV,doc,pm,an,cdv,ct,osl,rfl,lk,hcd⟩:=F.ex
 refine xv lk hcd S len λA outer s H vs Q E hr hsp=>?_
 obtain⟨t,h,q⟩:=hbody cdv A outer s H vs Q E hr hsp
 exact⟨t,h.nox,q⟩
theorem Ql.okJ {x qual:Str} {st:Stmt} {f:Addr} {fd:FuncData} {N ps:List Str} {k:Nat} {sp:Sp} (F:Ql K x qual st f fd) (S:qK N ps (qv st)) (len:∀vs H Q E,sp vs H Q E->vs.length=ps.length)
   (hbody:∀(cdv:Value) (A:Around) (outer:List Env) (s:Shared) (H:Hp) (vs:List V) (Q:VK) (E:XK),q5 k (A.deeper (envOfC qual (qv st) s.heap.objs.size f cdv))->sp vs H Q E->
     ∃t,YB (j5 jc P w K mg base N qual (qv st) f cdv A outer s H E).nox (j4 st) t/\t {nx:=λ_ H'=>Q .non H',rt:=Q} (JY N vs) H):qz P w K mg base jc (k+1) f fd ps sp:=
 F.ok S len λcdv A outer s H vs Q E hr h=>let ⟨t,a,b⟩:=hbody cdv A outer s H vs Q E hr h;⟨t,a.to,b⟩
theorem Ql.binds {x qual:Str} {st:Stmt} {f:Addr} {fd:FuncData} {ps:List Str} (F:Ql K x qual st f fd)
   (h:∀(kV doc pm:Value) (an:Option Addr) (cdv ct:Value) (us:List Value),us.length=ps.length->bindArgs (PySem.W.fnOf x qual (QF st) (j4 st) (qv st) .none kV doc pm an cdv ct) ⟨us,[]⟩=pure (ps.zip us)):Qi K fd ps []:=by
 obtain⟨oc,od,kV,doc,pm,an,cdv,ct,osl,rfl,lk,hcd⟩:=F.ex
 exact .all (h kV doc pm an cdv ct)
theorem Wz {x qual:Str} {st:Stmt} {f:Addr} {oc:Value} {od an:Option Addr} {osl:Array (Option Value)} {kV doc pm cdv ct:Value} (l:K.lookup f=some ⟨oc,od,.func (PySem.W.fnOf x qual (QF st) (j4 st) (qv st) .none kV doc pm an cdv ct),osl⟩)
   (c:PySem.W.codeIn K cdv qual=true) (k:PySem.W.keepIn K (.ref f)=true):Ql K x qual st f (PySem.W.fnOf x qual (QF st) (j4 st) (qv st) .none kV doc pm an cdv ct):=⟨⟨oc,od,kV,doc,pm,an,cdv,ct,osl,rfl,l,c⟩,k⟩
end
theorem zO {A:Around} {k:Nat} (hr:q5 k A):A.units+1 < cLine:=Nat.lt_of_le_of_lt (Nat.add_le_add_left (by decide:1<=64) _) hr.units
theorem qp {n:Nat} (h:n<=1000):n < sizeLine:=Nat.lt_of_le_of_lt h (by decide)
section
variable {X:Cx}
theorem pv (i:Nat) {x:Str} {pos:Pos} (hN:X.N[i]?=some x:=by rfl) (hv:wP X.env.scope x:=by first | exact Or.inl rfl | exact Or.inr (Or.inl rfl) | exact Or.inr (Or.inr rfl)) (hd:(x==("__debug__":Str))=false:=by decide)
   (hcd:(x==("__classdict__":Str))=false:=by decide):PE X (.Name x pos) (qZ i):=xV hN hv hd hcd
theorem jv (i:Nat) {x:Str} {pos:Pos} (hN:X.N[i]?=some x:=by rfl) (hv:wP X.env.scope x:=by first | exact Or.inl rfl | exact Or.inr (Or.inl rfl) | exact Or.inr (Or.inr rfl)) (hd:(x==("__debug__":Str))=false:=by decide) (hcd:(x==("__classdict__":Str))=false:=by decide):JE X (.Name x pos) (qZ i):=.of (pv i hN hv hd hcd)
end
theorem jL {A B:Prop} (h:B):if false=true then A else B:=by
 rw[if_neg Bool.false_ne_true]
 exact h
theorem Jb {A B:Prop} (h:A):if true=true then A else B:=by
 rw[if_pos rfl]
 exact h
theorem QL {c A B:Prop} [Decidable c] (h1:c->A) (h2:¬c->B):if c then A else B:=by
 by_cases h:c
 . rw[if_pos h]
   exact h1 h
 . rw[if_neg h]
   exact h2 h
def Same (H H':Hp):Prop:=∀b o,H b=some o->H' b=some o
theorem Same.refl (H:Hp):Same H H:=λ_ _ h=>h
theorem Same.trans {H H1 H2:Hp} (a:Same H H1) (b:Same H1 H2):Same H H2:=λc o h=>b c o (a c o h)
section
variable {X:Cx}
end
section
variable {κ:Type} [DecidableEq κ]
theorem kQ {kvs:List (κ×V)} {k:κ} {v:V} (h:jz kvs k=some v):k∈kvs.map (·.1):=by
 have q:(kvs.any λkv=>decide (kv.1=k))=true:=by
   rw[Qp,h]
   all_goals rfl
 obtain⟨p,hp,e⟩:=List.any_eq_true.mp q
 exact List.mem_map.mpr ⟨p,hp,of_decide_eq_true e⟩
end
end L2
set_option Elab.async false
set_option linter.all false
set_option maxRecDepth 100000
set_option maxHeartbeats 4000000
namespace L2
open PySem PySem.Spec PyProof.Rows
theorem Vt:(NameKind.free==NameKind.free)=true:=rfl
def qV (env:Env):List (Str×NameKind)->List (Str×Addr)->List (Str×Addr)
 | [],cs=>cs
 | (n,k)::r,cs=>qV env r (if k==.free then (n,(env.cells.lookup n).getD 0)::cs else cs)
theorem QM {scope:Scope} {env:Env} (h:∀x∈scope.names,x.2=.free->∃c,env.cells.lookup x.1=some c):closureFor scope env=pure (qV env scope.names []):=by
 simp only[closureFor]
 have key:∀(l:List (Str×NameKind)) (cs:List (Str×Addr)),(∀x∈l,x.2=.free->∃c,env.cells.lookup x.1=some c)->
     (forIn l cs λx (r:List (Str×Addr))=>if (x.snd==NameKind.free)=true then (do let a <-cellOf env x.fst;pure (ForInStep.yield ((x.fst,a)::r)):Sem (ForInStep (List (Str×Addr)))) else pure (ForInStep.yield r))=(pure (qV env l cs):Sem (List (Str×Addr))):=by
   intro l
   induction l with
   | nil=>intro cs _;rfl
   | cons x l ih=>
     intro cs hl
     obtain⟨n,k⟩:=x
     have ihl:=λcs'=>ih cs' λy hy=>hl y (List.mem_cons_of_mem _ hy)
     rw[List.forIn_cons]
     by_cases hk:k=.free
     . subst hk
       obtain⟨c,hc⟩:=hl (n,.free) List.mem_cons_self rfl
       have e1:cellOf env n=pure c:=by
         unfold cellOf
         have hc':env.cells.lookup n=some c:=hc
         rw[hc']
       have e2:qV env ((n,NameKind.free)::l) cs=qV env l ((n,c)::cs):=by
         have hc':env.cells.lookup n=some c:=hc
         show qV env l (if (NameKind.free==NameKind.free)=true then (n,(env.cells.lookup n).getD 0)::cs else cs)=_
         rw[if_pos Vt,hc']
         rfl
       rw[e2,<-ihl]
       dsimp only
       rw[if_pos Vt,e1]
       rfl
     . have hb:(k==NameKind.free)=false:=by simpa using hk
       have e2:qV env ((n,k)::l) cs=qV env l cs:=by
         show qV env l (if (k==NameKind.free)=true then (n,(env.cells.lookup n).getD 0)::cs else cs)=_
         rw[if_neg (by rw[hb];decide)]
       rw[e2,<-ihl]
       dsimp only
       rw[if_neg (by rw[hb];decide)]
       rfl
 rw[key scope.names [] h]
 rfl
theorem Jw {env:Env} {x:Str} {c:Addr}:∀{l:List (Str×NameKind)} {cs:List (Str×Addr)},(qV env l cs).lookup x=some c->cs.lookup x=some c\/((x,NameKind.free)∈l/\c=(env.cells.lookup x).getD 0)
 | [],cs,h=>.inl h
 | (n,k)::r,cs,h=>by
   rcases Jw (l:=r) h with h | ⟨h1,h2⟩
   . by_cases hk:k=.free
     . subst hk
       rw[if_pos Vt,List.lookup_cons]at h
       by_cases hx:x=n
       . subst hx
         simp only[beq_self_eq_true]at h
         exact .inr ⟨List.mem_cons_self,(Option.some.inj h).symm⟩
       . have hb:(x==n)=false:=beq_eq_false_iff_ne.mpr hx
         simp only[hb]at h
         exact .inl h
     . have hb:(k==NameKind.free)=false:=by simpa using hk
       rw[if_neg (by rw[hb];decide)]at h
       exact .inl h
   . exact .inr ⟨List.mem_cons_of_mem _ h1,h2⟩
theorem Qx {env:Env} {x:Str}:∀{l:List (Str×NameKind)} {cs:List (Str×Addr)},((x,NameKind.free)∈l\/∃c,cs.lookup x=some c)->∃c,(qV env l cs).lookup x=some c
 | [],cs,h=>by
   rcases h with h | h
   . cases h
   . exact h
 | (n,k)::r,cs,h=>by
   show ∃c,(qV env r (if (k==NameKind.free)=true then (n,(env.cells.lookup n).getD 0)::cs else cs)).lookup x=some c
   refine Qx (l:=r) ?_
   rcases h with h | ⟨c,h⟩
   . rcases List.mem_cons.mp h with h | h
     . cases h
       refine .inr ⟨(env.cells.lookup x).getD 0,?_⟩
       rw[if_pos Vt,List.lookup_cons]
       simp only[beq_self_eq_true]
     . exact .inl h
   . refine .inr ?_
     by_cases hk:(k==NameKind.free)=true
     . rw[if_pos hk,List.lookup_cons]
       cases hx:x==n with
       | true=>exact⟨_,rfl⟩
       | false=>exact⟨c,h⟩
     . rw[if_neg hk]
       exact⟨c,h⟩
theorem Q1 {scope:Scope} {env:Env} {x:Str} {k:NameKind}:∀{names:List (Str×NameKind)},names.lookup x=some k->
   ∃k',(names.map λ(n,k)=>if (k==NameKind.free&&env.scope.kind==.function&&env.kindOf n==some .cell) then (n,NameKind.cell) else (n,k)).lookup x=some k'/\(k'=k\/(k=.free/\k'=.cell))
 | [],h=>by simp at h
 | (n,j)::r,h=>by
   rw[List.map_cons]
   by_cases hx:x=n
   . subst hx
     rw[List.lookup_cons]at h
     simp only[beq_self_eq_true]at h
     cases h
     dsimp only
     by_cases hc:(k==NameKind.free&&env.scope.kind==.function&&env.kindOf x==some .cell)=true
     . rw[if_pos hc,List.lookup_cons]
       simp only[beq_self_eq_true]
       refine⟨_,rfl,.inr ⟨?_,rfl⟩⟩
       simp only[Bool.and_eq_true,beq_iff_eq]at hc
       exact hc.1.1
     . rw[if_neg hc,List.lookup_cons]
       simp only[beq_self_eq_true]
       exact⟨_,rfl,.inl rfl⟩
   . have hb:(x==n)=false:=beq_eq_false_iff_ne.mpr hx
     rw[List.lookup_cons]at h
     simp only[hb]at h
     obtain⟨k',h1,h2⟩:=Q1 (env:=env) (scope:=scope) h
     refine⟨k',?_,h2⟩
     dsimp only
     by_cases hc:(j==NameKind.free&&env.scope.kind==.function&&env.kindOf n==some .cell)=true
     . rw[if_pos hc,List.lookup_cons]
       simp only[hb]
       exact h1
     . rw[if_neg hc,List.lookup_cons]
       simp only[hb]
       exact h1
theorem mem_of_lookup {x:Str} {k:NameKind}:∀{l:List (Str×NameKind)},l.lookup x=some k->(x,k)∈l
 | [],h=>by simp at h
 | (n,j)::r,h=>by
   rw[List.lookup_cons]at h
   by_cases hx:x=n
   . subst hx
     simp only[beq_self_eq_true]at h
     cases h
     exact List.mem_cons_self
   . have hb:(x==n)=false:=beq_eq_false_iff_ne.mpr hx
     simp only[hb]at h
     exact List.mem_cons_of_mem _ (mem_of_lookup h)
theorem QI {f:Str×NameKind->Str×NameKind} (hf:∀p,(f p).1=p.1) {x:Str} {k:NameKind}:∀{l:List (Str×NameKind)},(l.map f).lookup x=some k->∃j,l.lookup x=some j/\(f (x,j)).2=k
 | [],h=>by simp at h
 | (n,j)::r,h=>by
   rw[List.map_cons]at h
   have e:f (n,j)=(n,(f (n,j)).2):=by
     have:=hf (n,j)
     exact Prod.ext this rfl
   rw[e,List.lookup_cons]at h
   rw[List.lookup_cons]
   by_cases hx:x=n
   . subst hx
     simp only[beq_self_eq_true]at h ⊢
     exact⟨j,rfl,Option.some.inj h⟩
   . have hb:(x==n)=false:=beq_eq_false_iff_ne.mpr hx
     simp only[hb]at h ⊢
     exact QI hf h
def ZY (X:Cx) (N:List Str) (scope:Scope) (C:Addr) (s₂:Shared) (H₂:Hp) (fp:List Addr) (pins:List (Addr×Obj)):Cx where
 prog:=X.prog
 w:=X.w
 K:=X.K
 mg:=X.mg
 base:=X.base
 A:=X.A
 N:=N
 s₀:=s₂
 H₀:=H₂
 env:=compEnvC scope (qV X.env scope.names []) C X.env
 outer:=X.stack
 stack:=X.stack
 ex:=fp
 fn:=λ_=>false
 calm:=X.calm
 pn:=X.pn++pins
 xe:=λ_ _=>False
def VS (ix:List (Option Nat)) (σ:St):St:=ix.map λo=>o.bind λj=>(σ[j]?).join
def Uq (N' N:List Str) (sc esc:Scope) (ix:List (Option Nat)):Bool:=
 ix.length==N'.length&&(ix.zip N').all λp=>match p.1 with
   | none=>true
   | some j=>N[j]?==some p.2&&sc.names.lookup p.2==some .free&&(esc.names.lookup p.2==some .cell || esc.names.lookup p.2==some .free)
structure jT (X:Cx) (N':List Str) (ix:List (Option Nat)) (scope:Scope):Prop where
 kind:scope.kind=.function
 nocell:(scope.names.all λx=>x.2 != .cell)=true
 locs:(scope.names.all λx=>x.2 != .local || scope.names.lookup x.1==some .local)=true
 frees:(scope.names.all λx=>x.2 != .free || (X.env.scope.names.lookup x.1==some .cell || X.env.scope.names.lookup x.1==some .free))=true
 ixs:Uq N' X.N scope X.env.scope ix=true
section
variable {X:Cx} {N':List Str} {ix:List (Option Nat)} {scope:Scope} {pins:List (Addr×Obj)} {σ:St} {H:Hp} {s:Shared}
theorem jT.cellH (S:jT X N' ix scope):∀y∈scope.names,y.2≠.cell:=λy hy e=>by
 have:=List.all_eq_true.mp S.nocell y hy
 rw[e]at this
 exact absurd this (by decide)
theorem jT.locH (S:jT X N' ix scope):∀y∈scope.names,y.2=.local->scope.names.lookup y.1=some .local:=λy hy e=>by
 have:=List.all_eq_true.mp S.locs y hy
 simp only[e,Bool.or_eq_true,bne_self_eq_false,Bool.false_eq_true,false_or,beq_iff_eq]at this
 exact this
theorem jT.freeH (S:jT X N' ix scope) (ok:X.Ok):∀x∈scope.names,x.2=.free->∃c,X.env.cells.lookup x.1=some c:=λx hx e=>by
 have:=List.all_eq_true.mp S.frees x hx
 simp only[e,Bool.or_eq_true,bne_self_eq_false,Bool.false_eq_true,false_or,beq_iff_eq]at this
 exact ok.has x.1 this
theorem jT.clook (S:jT X N' ix scope) (ok:X.Ok) {x:Str} {c:Addr} (h:(qV X.env scope.names []).lookup x=some c):X.env.cells.lookup x=some c/\(x,NameKind.free)∈scope.names:=by
 rcases Jw h with h | ⟨h1,h2⟩
 . simp at h
 . obtain⟨c',hc'⟩:=S.freeH ok _ h1 rfl
   have hc2:X.env.cells.lookup x=some c':=hc'
   rw[hc2]at h2
   subst h2
   exact⟨hc2,h1⟩
theorem Kh {C:Addr} {fp:List Addr} (S:jT X N' ix scope) (I:qx X pins σ H s) (hC:s.heap.objs.size<=C) (hf:∀b∈fp,QW X pins H b) (hfo:∀b∈fp,b < s.heap.objs.size):(ZY X N' scope C s H fp pins).Ok where
 mod:=I.ok.mod
 kind:=S.kind
 glob:=I.ok.glob
 blt:=I.ok.blt
 above:=hC
 inj:=λx y c h1 h2=>I.ok.inj x y c (S.clook I.ok h1).1 (S.clook I.ok h2).1
 has:=λx hx=>by
   have hx':(relabel scope X.env).names.lookup x=some .cell\/(relabel scope X.env).names.lookup x=some .free:=hx
   refine Qx (.inl ?_)
   have go:∀k,(k=NameKind.cell\/k=.free)->(relabel scope X.env).names.lookup x=some k->(x,NameKind.free)∈scope.names:=λk hk h=>by
     obtain⟨j,h1,h2⟩:=QI (f:=λ(n,k)=>if (k==NameKind.free&&X.env.scope.kind==.function&&X.env.kindOf n==some .cell) then (n,NameKind.cell) else (n,k)) (λp=>by dsimp only;split<;>rfl) h
     have hm:=mem_of_lookup h1
     by_cases hj:j=.free
     . subst hj;exact hm
     . exfalso
       have hb:(j==NameKind.free)=false:=by simpa using hj
       dsimp only at h2
       rw[hb,Bool.false_and,Bool.false_and,if_neg (by decide)]at h2
       have h2':j=k:=h2
       rcases hk with e | e
       . exact S.cellH _ hm (h2'.trans e)
       . exact hj (h2'.trans e)
   rcases hx' with h | h
   . exact go _ (.inl rfl) h
   . exact go _ (.inr rfl) h
 cab:=λx c h _=>by cases h
 hd:=I.ok.hd
 frames:=I.ok.frames
 stk:=.inl rfl
 exf:=λb hb=>⟨Nat.ne_of_lt (Nat.lt_of_lt_of_le (hfo b hb) hC),λx c h=>(hf b hb).2.2.2.2.1 x c (S.clook I.ok h).1⟩
 bs:=I.bs
 bsz:=Nat.le_trans I.ok.bsz I.sz
 noex:=λb o e hb=>by
   rcases(hf b hb).2.2.2.1 with h | h
   . exact I.ok.noex b o e h
   . exact absurd (Nat.lt_of_lt_of_le (Heap.lt_size e) (Nat.le_trans I.ok.bsz h)) (Nat.lt_irrefl _)
 exfs:=λb hb hm=>by
   rcases List.mem_cons.mp (I.stkSub b hm) with e | e
   . exact(hf b hb).2.1 e
   . exact(hf b hb).2.2.1 e
 funs:=I.stack
 frf:=I.stkFree
theorem Uu {C D:Addr} {fp:List Addr} {h₁:Heap} {m:Str->Option Value} {t':Nat} {n₀:Nat} (S:jT X N' ix scope) (I:qx X pins σ H s) (hf:∀b∈fp,QW X pins H b) (hfo:∀b∈fp,b < s.heap.objs.size)
   (hD:s.heap.objs.size<=D) (hC:s.heap.objs.size<=C) (hDC:D≠C) (kp:∀b o,s.heap.get? b=some o->h₁.get? b=some o) (hn:h₁.Ns C m) (hl:h₁.get? D=some {cls:=.type "list",data:=.seq #[] n₀}):
   qx (ZY X N' scope C s H fp pins) [] (VS ix σ) (upd H D (.lst [])) {s with heap:=h₁,toks:=t'} where
 ok:=Kh S I hC hf hfo
 os:=rfl
 bare:=I.bare
 base:=Un.laid kp hD (I.hok.fresh hD)
 loc:=by
   refine⟨m,hn,λi x v e1 e2 e3=>?_⟩
   have hix:=S.ixs
   unfold Uq at hix
   rw[Bool.and_eq_true]at hix
   obtain⟨hlen,hall⟩:=hix
   have hlen':ix.length=N'.length:=by simpa using hlen
   have e1':N'[i]?=some x:=e1
   unfold VS at e2
   rw[List.getElem?_map]at e2
   cases ho:ix[i]? with
   | none=>rw[ho]at e2;cases e2
   | some o=>
     rw[ho]at e2
     cases o with
     | none=>cases e2
     | some j=>
       have e2':(σ[j]?).join=some v:=Option.some.inj e2
       have hz:(ix.zip N')[i]?=some (some j,x):=by
         rw[List.getElem?_zip_eq_some]
         exact⟨ho,e1'⟩
       have hm:=List.all_eq_true.mp hall _ (List.mem_of_getElem? hz)
       dsimp only at hm
       simp only[Bool.and_eq_true,beq_iff_eq,Bool.or_eq_true]at hm
       obtain⟨⟨hN,hfr⟩,hk⟩:=hm
       have e2'':σ[j]?=some (some v):=by
         cases q:σ[j]? with
         | none=>rw[q]at e2';cases e2'
         | some z=>
           rw[q]at e2'
           have:z=some v:=e2'
           rw[this]
       obtain⟨mX,hnX,hlX⟩:=I.loc
       have hvis:wP X.env.scope x:=by
         rcases hk with h | h
         . exact .inr (.inl h)
         . exact .inr (.inr h)
       obtain⟨u,ru,lu⟩:=hlX j x v hN e2'' hvis
       refine⟨u,ru,?_⟩
       rcases lu with ⟨hk',_⟩ | ⟨_,c,hc,hcell⟩
       . exfalso
         have hk'':X.env.scope.names.lookup x=some .local:=hk'
         rcases hk with h | h<;>rw[h]at hk''<;>cases hk''
       . right
         obtain⟨k',r1,r2⟩:=Q1 (scope:=scope) (env:=X.env) hfr
         refine⟨?_,?_⟩
         . rcases r2 with z | ⟨_,z⟩
           . right;rw[z]at r1;exact r1
           . left;rw[z]at r1;exact r1
         . obtain⟨c',hc'⟩:=Qx (env:=X.env) (cs:=[]) (.inl (mem_of_lookup hfr))
           have:=(S.clook I.ok hc').1
           rw[hc]at this
           cases this
           obtain⟨o,ho',hd⟩:=hcell
           exact⟨c,hc',o,kp _ _ ho',hd⟩
 cell:=λx c h=>by
   obtain⟨v,o,ho,hd⟩:=I.cell x c (S.clook I.ok h).1
   exact⟨v,o,kp _ _ ho,hd⟩
 free:=by
   show (upd H D _) C=none
   rw[qi (Ne.symm hDC)]
   exact I.hok.fresh hC
 freeC:=λx c h=>by
   have h1:=(S.clook I.ok h).1
   obtain⟨v,o,ho,hd⟩:=I.cell x c h1
   rw[qi (Nat.ne_of_lt (Nat.lt_of_lt_of_le (Heap.lt_size ho) hD))]
   exact I.freeC x c h1
 pin:=λp hp=>by
   have hp':p∈X.pn++pins:=by
     have:p∈(X.pn++pins)++[]:=hp
     simpa using this
   obtain⟨e,n,ne,nf,d⟩:=I.pin p hp'
   have hlt:=Heap.lt_size e
   refine⟨kp _ _ e,?_,Nat.ne_of_lt (Nat.lt_of_lt_of_le hlt hC),λhm=>?_,d⟩
   . rw[qi (Nat.ne_of_lt (Nat.lt_of_lt_of_le hlt hD))];exact n
   . rcases List.mem_cons.mp (I.stkSub p.1 hm) with z | z
     . exact ne z
     . exact nf z
 hok:=I.hok.laid kp hD ⟨Nat.zero_le _,[],n₀,.nil,hl⟩
 len:=by
   have hix:=S.ixs
   unfold Uq at hix
   rw[Bool.and_eq_true]at hix
   have:ix.length=N'.length:=by simpa using hix.1
   show (VS ix σ).length=N'.length
   unfold VS
   rw[List.length_map,this]
theorem ke {C:Addr} {fp:List Addr} {σ':St} {H':Hp} {s':Shared} {pl:List (Addr×Obj)} (I:qx X pins σ H s) (hf:∀b∈fp,QW X pins H b) (J:qx (ZY X N' scope C s H fp pins) pl σ' H' s'):qx X pins σ H' s':=
 I.call' (ch:=fp) J.os J.base J.hok J.bare λb hb=>⟨(hf b hb).2.2.2.1,(hf b hb).2.1,(hf b hb).2.2.2.2.1,(hf b hb).2.2.2.2.2⟩
theorem kc {C:Addr} {H':Hp} {s₀ s':Shared} {h':Heap} (I₀:qx X pins σ H s₀) (I:qx X pins σ H' s') (hC:s₀.heap.objs.size<=C) (hn:H' C=none) (sb:Heap.SameBut C s'.heap h'):qx X pins σ H' {s' with heap:=h'}:=by
 refine I.turned (it:=C) (t':=s'.toks) (λb o hb e=>(sb.2 b hb).trans e) hn (Nat.ne_of_gt (Nat.lt_of_lt_of_le I₀.lt hC)) (.inr (Nat.le_trans I₀.sz hC)) (λx c e z=>?_) λp hp z=>?_
 . obtain⟨v,q⟩:=I₀.cell x c e
   exact absurd (Nat.lt_of_lt_of_le q.lt (by rw[z];exact hC)) (Nat.lt_irrefl _)
 . exact absurd (Nat.lt_of_lt_of_le (Heap.lt_size (I₀.pin p hp).1) (by rw[z];exact hC)) (Nat.lt_irrefl _)
end
def xx (X:Cx) (ifs:List Expr) (t:TT):Prop:=
 ∀(pins:List (Addr×Obj)) (s:Shared) (σ:St) (H:Hp) (Q:Bool->Hp->Prop),qx X pins σ H s->t σ H Q->
   wpAny (model X.prog X.w) X.A (forIn ifs true λc r=>if r=true then do let ok <-isTrue c X.env (eval c X.env);pure (ForInStep.yield ok) else pure (ForInStep.yield r)) (TP X pins σ Q) X.xe s
@[irreducible] def kI (X:Cx) (ifs:List Expr) (t:TT):Prop:=xx X ifs t
theorem kI.of {X:Cx} {ifs:List Expr} {t:TT} (h:xx X ifs t):kI X ifs t:=by unfold kI;exact h
theorem kI.to {X:Cx} {ifs:List Expr} {t:TT} (h:kI X ifs t):xx X ifs t:=by unfold kI at h;exact h
def KJ:TT:=λ_ H Q=>Q true H
theorem jr {X:Cx}:kI X [] KJ:=.of (by
 exact λ_ _ _ H _ I h=>wpAny_tests_nil ⟨H,I,h⟩)
theorem Zn {X:Cx} {c:Expr} {t:TT} (h:JT X c t):kI X [c] t:=.of (by
 have h:=h.to
 exact λpins s σ H Q I hw=>wpAny_tests_one (h pins s σ H Q I hw))
section
variable {prog:Program} {w:World} {A:Around} {R:Result->Shared->Prop} {s:Shared}
theorem Zs {elt target iter:Expr} {ifs:List Expr} {scope:Scope} {pos:Pos} {it acc:Value} {env:Env} (I:Nat->Shared->Prop)
   (turn:∀n s,I n s->wpAny (model prog w) A (pyNext it) (λr s₁=>match r with
     | none=>R (.ok .next) s₁
     | some v=>wpAny (model prog w) A (letOwnedTupleGo target it v) (λ_ s₁'=>wpAny (model prog w) A (assign target env v) (λ_ s₂=>
         wpAny (model prog w) A (forIn ifs true λc r=>if r=true then do let ok <-isTrue c env (eval c env);pure (ForInStep.yield ok) else pure (ForInStep.yield r)) (λok s₃=>
           if ok=true then wpAny (model prog w) A (eval elt env) (λx s₄=>
             wpAny (model prog w) A (call (.builtin "list.append") [acc,x]) (λ_ s₅=>∃m,m < n/\I m s₅) (λ_ _=>False) s₄) (λ_ _=>False) s₃
           else ∃m,m < n/\I m s₃) (λ_ _=>False) s₂) (λ_ _=>False) s₁') (λ_ _=>False) s₁) (λ_ _=>False) s)
   (n:Nat) (h:I n s):
   codeAny (model prog w) A (.compLoop (.ListComp elt [⟨target,iter,ifs,0⟩] scope pos) 0 it acc env) R s:=by
 refine codeAny_loop rfl I (λn s hI=>?_) n h
 show wpAny _ A ((compTurn (.ListComp elt [⟨target,iter,ifs,0⟩] scope pos) 0 it acc env).onRaise (λx=>do noteFrame x env;theTreesLotGoes x)) _ _ s
 refine wpAny_noted ?_
 rw[compTurn_list]
 refine wpAny_bind (wpAny_standAt (wpAny_bind (wpAny_mono (turn n s hI) (λr s₁ h₁=>?_) λ_ _ h'=>h'.elim)))
 cases r with
 | none=>exact wpAny_pure h₁
 | some v=>
   refine wpAny_bind (wpAny_mono h₁ (λ_ s₁' h₁'=>?_) λ_ _ h'=>h'.elim)
   refine wpAny_bind (wpAny_mono h₁' (λ_ s₂ h₂=>wpAny_bind (wpAny_mono h₂ (λok s₃ h₃=>?_) λ_ _ h'=>h'.elim)) λ_ _ h'=>h'.elim)
   cases ok with
   | false=>exact wpAny_pure ⟨rfl,h₃⟩
   | true=>
     exact wpAny_bind (wpAny_bind (wpAny_mono h₃ (λx s₄ h₄=>wpAny_bind (wpAny_mono h₄ (λ_ s₅ h₅=>wpAny_pure (wpAny_pure ⟨rfl,h₅⟩)) λ_ _ h'=>h'.elim)) λ_ _ h'=>h'.elim))
end
def Xm (J:It) (g:TG) (tt:TT) (te:TE) (D:Addr) (σ:St) (H:Hp) (Q:Hp->Prop):Prop:=
 ∃W:Nat->Nat->St->Hp->Prop,(∃m,W 0 m σ (upd H D (.lst [])))/\∀i m σ' H',W i m σ' H'->
   (J.stop i H'/\Q H')\/(J.go i H'/\∃N:St->Hp->Prop,(∀σ2 H2,N σ2 H2->∃m',m' < m/\W (i+1) m' σ2 H2)/\∀x H2,J.yld i H' x H2->g x σ' H2 λσ2 H3=>tt σ2 H3 λb H4=>
     if b=true then te σ2 H4 λv H5=>∃ys,H5 D=some (.lst ys)/\ys.length < sizeLine/\N σ2 (upd H5 D (.lst (ys++[v]))) else N σ2 H4)
def xC (wi:TI) (ix:List (Option Nat)) (g:TG) (tt:TT) (te:TE):TE:=λσ H Q=>wi σ H λJ H1=>∀D,H1 D=none->Xm J g tt te D (VS ix σ) H1 λH2=>Q (.ref D) H2
section
variable {X:Cx} {N':List Str} {ix:List (Option Nat)} {scope:Scope}
theorem Yv {elt iter target:Expr} {ifs:List Expr} {pos:Pos} {g:TG} {tt:TT} {te:TE} {pins:List (Addr×Obj)} {σ:St} {H:Hp} {s:Shared} {it:Addr} {fp:List Addr} {tn:Nat->Heap->Prop} {J:It} {E:Value->Shared->Prop}
   {RR:Value->Addr->Result->Shared->Prop} {Q:Addr->Hp->Prop}
   (hc:X.calm=true) (S:jT X N' ix scope) (I:qx X pins σ H s) (T:XU X.prog X.w X.K target J fp it tn) (st:tn 0 s.heap) (hf:∀b∈fp,QW X pins H b)
   (hb:∀C s₂ H₂ fp pins,PG (ZY X N' scope C s₂ H₂ fp pins) target g/\xx (ZY X N' scope C s₂ H₂ fp pins) ifs tt/\PE (ZY X N' scope C s₂ H₂ fp pins) elt te)
   (h:∀D,H D=none->Xm J g tt te D (VS ix σ) H (Q D))
   (fin:∀(D C:Addr) (H':Hp) (s':Shared) (m:Str->Option Value),s.heap.objs.size<=C->H' C=none->s'.heap.Ns C m->qx X pins σ H' s'->Q D H'->RR (.ref D) C (.ok .next) s'):
   wpAny (model X.prog X.w) X.A (newList []) (λacc s₃=>wpAny (model X.prog X.w) X.A (newFunctionEnv scope X.env.globals (qV X.env scope.names []) [] X.env.qual none .none (some X.env)) (λcenv s₄=>
     codeAny (model X.prog X.w) X.A (.compStart (.ListComp elt [⟨target,iter,ifs,0⟩] scope pos) 0 (.ref it) acc {cenv with scope:=relabel scope X.env}) (RR acc cenv.locals) s₄) E s₃) E s:=by
 have hfo:∀b∈fp,b < s.heap.objs.size:=λb hb=>by
   obtain⟨o,e,_⟩:=T.obj _ _ st b hb
   exact Heap.lt_size e
 refine wpAny_newObj_type (wpAny_newFunctionEnv S.cellH (by intro y hy;simp at hy) (λh₁ hns₁ hsb₁=>?_) S.kind)
 dsimp only at hns₁ hsb₁ ⊢
 generalize hH2:s.heap.push {cls:=.type "list",dict:=none,data:=.seq ([]:List Value).toArray}=H2 at hns₁ hsb₁ ⊢
 have hC:H2.objs.size=s.heap.objs.size+1:=by rw[<-hH2,Heap.size_push]
 have hDC:s.heap.objs.size≠H2.objs.size:=by rw[hC];exact Nat.ne_of_lt (Nat.lt_succ_self _)
 have hCle:s.heap.objs.size<=H2.objs.size:=by rw[hC];exact Nat.le_succ _
 have below:∀b,b < s.heap.objs.size->b≠H2.objs.size:=λb hb=>by rw[hC];exact Nat.ne_of_lt (Nat.lt_succ_of_lt hb)
 have old:∀b o,s.heap.get? b=some o->h₁.get? b=some o:=λb o e=>hsb₁.extBut b o (below b (Heap.lt_size e)) (Heap.get?_push_of_some _ (hH2▸Heap.get?_push_of_some _ e))
 have hacc:h₁.get? s.heap.objs.size=some {cls:=.type "list",data:=.seq #[] 0}:=hsb₁.extBut _ _ hDC (Heap.get?_push_of_some _ (hH2▸Heap.get?_push_size _ rfl))
 obtain⟨W,⟨m0,w0⟩,turn⟩:=h s.heap.objs.size (I.hok.fresh (Nat.le_refl _))
 have I1:qx (ZY X N' scope H2.objs.size s H fp pins) [] (VS ix σ) (upd H s.heap.objs.size (.lst [])) {s with heap:=h₁,toks:=s.toks+([]:List (Str×Value)).length}:=
   Uu S I hf hfo (Nat.le_refl _) hCle hDC old hns₁ hacc
 have st₁:tn 0 h₁:=T.keep _ _ _ st λb hb o e=>old b o e
 have fpn:∀b∈fp,(upd H s.heap.objs.size (.lst [])) b=none:=λb hb=>by
   rw[qi (Nat.ne_of_lt (hfo b hb))]
   exact(hf b hb).1
 obtain⟨hg,htt,hte⟩:=hb H2.objs.size s H fp pins
 have okY:=I1.ok
 have stat:∀{H':Hp},(∀b∈fp,H' b=none)->∀b∈fp,QW (ZY X N' scope H2.objs.size s H fp pins) [] H' b:=λ{H'} hn b hb=>
   ⟨hn b hb,(okY.exf b hb).1,okY.exfs b hb,.inl hb,(okY.exf b hb).2,λp hp=>by
     have hp':p∈X.pn++pins:=by
       have:p∈(X.pn++pins)++[]:=hp
       simpa using this
     exact(hf b hb).2.2.2.2.2 p hp'⟩
 have loop:codeAny (model X.prog X.w) X.A (.compLoop (.ListComp elt [⟨target,iter,ifs,0⟩] scope pos) 0 (.ref it) (.ref s.heap.objs.size) (compEnvC scope (qV X.env scope.names []) H2.objs.size X.env))
     (RR (.ref s.heap.objs.size) H2.objs.size) {s with heap:=h₁,toks:=s.toks+([]:List (Str×Value)).length}:=by
   refine Zs (λn s'=>∃i σ' H',qx (ZY X N' scope H2.objs.size s H fp pins) [] σ' H' s'/\tn i s'.heap/\(∀b∈fp,H' b=none)/\W i n σ' H') ?_ m0 ⟨0,_,_,I1,st₁,fpn,w0⟩
   rintro n s3 ⟨i,σ3,H3,I3,st3,fr3,w3⟩
   rcases turn i n σ3 H3 w3 with ⟨stop,qn⟩ | ⟨go,NN,hNN,step⟩
   . refine ja (T.done (ZY X N' scope H2.objs.size s H fp pins) rfl rfl rfl hc i [] s3 σ3 H3 _ I3 (stat fr3) st3 stop) λr s4 ⟨hr,I4⟩=>?_
     subst hr
     obtain⟨mm,hnm,_⟩:=I4.loc
     exact fin _ _ H3 s4 mm hCle I4.free hnm (ke I hf I4) qn
   . refine ja (T.item (ZY X N' scope H2.objs.size s H fp pins) rfl rfl rfl hc i [] s3 σ3 H3 _ I3 (stat fr3) st3 go) λr s4 ⟨u,hr,h4⟩=>?_
     subst hr
     refine ja h4 λ_ s5 ⟨x,H5,I5,r5,y5,st5,fr5⟩=>?_
     have I5':=I5.pinned (stat fr5) (T.obj _ _ st5)
     refine ja (hg _ s5 σ3 H5 x u _ I5' r5 (step x H5 y5)) λ_ s6 ⟨σ6,H6,I6,q6⟩=>?_
     refine ja (htt _ s6 σ6 H6 _ I6 q6) λok s7 ⟨H7,I7,q7⟩=>?_
     have again:∀{σ8:St} {H8:Hp} {s8:Shared},qx (ZY X N' scope H2.objs.size s H fp pins) ([]++ZE fp s5.heap) σ8 H8 s8->NN σ8 H8->
         ∃m,m < n/\∃i σ' H',qx (ZY X N' scope H2.objs.size s H fp pins) [] σ' H' s8/\tn i s8.heap/\(∀b∈fp,H' b=none)/\W i m σ' H':=λ{σ8 H8 s8} I8 n8=>by
       obtain⟨m',hm,w8⟩:=hNN σ8 H8 n8
       refine⟨m',hm,i+1,σ8,H8,I8.unpinned,T.keep _ _ _ st5 λb hb o e=>(I8.pin (b,o) (List.mem_append_right _ (List.mem_append_right _ (j9 hb e)))).1,λb hb=>?_,w8⟩
       obtain⟨o,e,d⟩:=T.obj _ _ st5 b hb
       exact(I8.pin (b,o) (List.mem_append_right _ (List.mem_append_right _ (j9 hb e)))).2.1
     cases ok with
     | false=>
       rw[if_neg Bool.false_ne_true]at q7 ⊢
       exact again I7 q7
     | true=>
       rw[if_pos rfl]at q7 ⊢
       refine ja (hte _ s7 σ6 H7 _ I7 q7) λv s8 ⟨y,H8,I8,r8,q8⟩=>?_
       obtain⟨ys,hy,hz,q8⟩:=q8
       refine ja (JD (X:=ZY X N' scope H2.objs.size s H fp pins) _ s8 σ6 H8 (.ref s.heap.objs.size) [y] (.ref s.heap.objs.size) [v] (λ_ H9=>NN σ6 H9) I8 rfl (.cons r8 .nil) ⟨_,ys,y,rfl,rfl,hy,hz,q8⟩) λ_ s9 ⟨_,H9,I9,_,q9⟩=>?_
       exact again I9 q9
 exact codeAny_compStart_list loop (T.self X.A 0 _ _ _ st₁ loop)
theorem uB {elt iter target:Expr} {ifs:List Expr} {pos:Pos} {wi:TI} {g:TG} {tt:TT} {te:TE} (hc:X.calm=true) (S:jT X N' ix scope) (hi:PI X target iter wi)
   (hb:∀C s₂ H₂ fp pins,PG (ZY X N' scope C s₂ H₂ fp pins) target g/\xx (ZY X N' scope C s₂ H₂ fp pins) ifs tt/\PE (ZY X N' scope C s₂ H₂ fp pins) elt te)
   (hs:∀x,foldedSetIterable iter X.env x=pure x:=by intro _;rfl):PE X (.ListComp elt [⟨target,iter,ifs,0⟩] scope pos) (xC wi ix g tt te):=by
 intro pins s σ H Q I h
 rw[eval_ListComp]
 refine wpAny_comprehension_free (use:=none) rfl hs (QM (S.freeH I.ok)) S.kind S.locH ?_
 refine ja (hi pins s σ H _ I h) λxv s1 h1=>ja h1 λitv s2 h2=>?_
 obtain⟨it,fp,tn,J,H2,e,I2,T,st2,f2,q2⟩:=h2
 subst e
 refine Yv (RR:=λacc C=>compPost (model X.prog X.w) X.A X.xe none (EP X pins σ Q) acc C) (Q:=λD H'=>Q (.ref D) H') hc S I2 T st2 f2 hb q2 ?_
 intro D C H' s' m hC hn hm I' q
 exact⟨m,hm,λh' sb=>⟨.ref D,H',kc I2 I' hC hn sb,rfl,q⟩⟩
theorem QS {elt iter target:Expr} {ifs:List Expr} {pos:Pos} {wi:TI} {g:TG} {tt:TT} {te:TE} (hc:X.calm=true) (S:jT X N' ix scope) (hi:JI X target iter wi) (hb:∀C s₂ H₂ fp pins,JG (ZY X N' scope C s₂ H₂ fp pins) target g/\kI (ZY X N' scope C s₂ H₂ fp pins) ifs tt/\JE (ZY X N' scope C s₂ H₂ fp pins) elt te) (hs:∀x,foldedSetIterable iter X.env x=pure x:=by intro _;rfl):JE X (.ListComp elt [⟨target,iter,ifs,0⟩] scope pos) (xC wi ix g tt te):=.of (uB hc S hi.to (λC s₂ H₂ fp pins=>⟨(hb C s₂ H₂ fp pins).1.to,(hb C s₂ H₂ fp pins).2.1.to,(hb C s₂ H₂ fp pins).2.2.to⟩) hs)
theorem vw {i:Nat} {x:Str} {elt iter target:Expr} {ifs:List Expr} {pos spos px:Pos} {wi:TI} {g:TG} {tt:TT} {te:TE} (hN:X.N.Nodup) (hxi:X.N[i]?=some x) (hx:xy X.env.scope x) (hc:X.calm=true) (S:jT X N' ix scope) (hi:PI X target iter wi)
   (hb:∀C s₂ H₂ fp pins,PG (ZY X N' scope C s₂ H₂ fp pins) target g/\xx (ZY X N' scope C s₂ H₂ fp pins) ifs tt/\PE (ZY X N' scope C s₂ H₂ fp pins) elt te)
   (hsw:swapsWith (.ListComp elt [⟨target,iter,ifs,0⟩] scope pos) (some (.Name x px)) spos.line X.env=pure true:=by rfl)
   (hs:∀x,foldedSetIterable iter X.env x=pure x:=by intro _;rfl) (hf:X.fn x=true\/X.env.scope.names.lookup x=some .local:=by first | exact .inl rfl | exact .inr rfl | assumption):
   PS X (.Assign [.Name x px] (.ListComp elt [⟨target,iter,ifs,0⟩] scope pos) spos) (Xn (xC wi ix g tt te) (jH i)):=by
 intro pins s σ H D I h
 rw[exec_Assign_Name_used _ _ _ _ hsw]
 refine wpAny_bind (wpAny_standAt (wpAny_bind ?_))
 show wpAny _ X.A (do let _ <-comprehension (.ListComp elt [⟨target,iter,ifs,0⟩] scope pos) scope X.env _ (newList []) false (eval iter X.env) (some (assign (.Name x px) X.env))) _ _ s
 refine wpAny_bind (ja (wpAny_comprehension_free (use:=some (assign (.Name x px) X.env)) (Q:=λ_ s'=>SP X pins D .next s') rfl hs (QM (S.freeH I.ok)) S.kind S.locH ?_) λ_ s' hq=>wpAny_pure (wpAny_pure hq))
 refine ja (hi pins s σ H _ I h) λxv s1 h1=>ja h1 λitv s2 h2=>?_
 obtain⟨it,fp,tn,J,H2,e,I2,T,st2,f2,q2⟩:=h2
 subst e
 refine Yv (RR:=λacc C=>compPost (model X.prog X.w) X.A X.xe (some (assign (.Name x px) X.env)) (λ_ s'=>SP X pins D .next s') acc C) (Q:=λD' H'=>jH i (.ref D') σ H' D.nx) hc S I2 T st2 f2 hb q2 ?_
 intro D' C H' s' m hC hn hm I' q
 show wpAny _ X.A (assign (.Name x px) X.env (.ref D')) _ _ _
 refine wpAny_assign_Name (Zy I' hN hxi hx (v:=.ref D') rfl (λs'' I'' hch=>?_) hf)
 obtain⟨a,sb,ha⟩:=hch
 have hCa:C≠a:=by
   rcases ha with z | z
   . rw[z];exact Nat.ne_of_gt (Nat.lt_of_lt_of_le I2.lt hC)
   . intro e
     obtain⟨v,qc⟩:=I2.cell x a z
     exact absurd (Nat.lt_of_lt_of_le qc.lt (by rw[<-e];exact hC)) (Nat.lt_irrefl _)
 refine⟨m,hm.sameBut sb hCa,λh' sb'=>?_⟩
 refine⟨_,H',?_,q⟩
 refine I''.turned (it:=C) (t':=s''.toks) (λb o hb e=>(sb'.2 b hb).trans e) hn (Nat.ne_of_gt (Nat.lt_of_lt_of_le I2.lt hC)) (.inr (Nat.le_trans I2.sz hC)) (λy c e z=>?_) λp hp z=>?_
 . obtain⟨v,qc⟩:=I2.cell y c e
   exact absurd (Nat.lt_of_lt_of_le qc.lt (by rw[z];exact hC)) (Nat.lt_irrefl _)
 . exact absurd (Nat.lt_of_lt_of_le (Heap.lt_size (I2.pin p hp).1) (by rw[z];exact hC)) (Nat.lt_irrefl _)
theorem Qt {i:Nat} {x:Str} {elt iter target:Expr} {ifs:List Expr} {pos spos px:Pos} {wi:TI} {g:TG} {tt:TT} {te:TE} (hN:X.N.Nodup) (hxi:X.N[i]?=some x) (hx:xy X.env.scope x) (hc:X.calm=true) (S:jT X N' ix scope) (hi:JI X target iter wi) (hb:∀C s₂ H₂ fp pins,JG (ZY X N' scope C s₂ H₂ fp pins) target g/\kI (ZY X N' scope C s₂ H₂ fp pins) ifs tt/\JE (ZY X N' scope C s₂ H₂ fp pins) elt te) (hsw:swapsWith (.ListComp elt [⟨target,iter,ifs,0⟩] scope pos) (some (.Name x px)) spos.line X.env=pure true:=by rfl) (hs:∀x,foldedSetIterable iter X.env x=pure x:=by intro _;rfl) (hf:X.fn x=true\/X.env.scope.names.lookup x=some .local:=by first | exact .inl rfl | exact .inr rfl | assumption):JS X (.Assign [.Name x px] (.ListComp elt [⟨target,iter,ifs,0⟩] scope pos) spos) (Xn (xC wi ix g tt te) (jH i)):=.of (vw hN hxi hx hc S hi.to (λC s₂ H₂ fp pins=>⟨(hb C s₂ H₂ fp pins).1.to,(hb C s₂ H₂ fp pins).2.1.to,(hb C s₂ H₂ fp pins).2.2.to⟩) hsw hs hf)
end
end L2
set_option Elab.async false
set_option linter.all false
set_option maxRecDepth 100000
set_option maxHeartbeats 4000000
namespace L2
open PySem PySem.Spec PyProof.Rows
def Gw (x:Str):It:=⟨λi _=>i < x.cps.size,λi H v H'=>H'=H/\∃c,x.cps[i]?=some c/\v=.str ⟨#[c]⟩,λi _=>i=x.cps.size⟩
theorem Xj {P:Program} {w:World} {K:PySem.W.Frag} {tg:Expr} (it:Addr) (x:Str) (t:Tok) (ty:String)
   (hn:["enumerate","zip","dict_itemiterator","dict_reverseitemiterator","odict_iterator","itertools.zip_longest","itertools.pairwise"].contains ty=false)
   (hW:∀A:Around,A.handled=none->Walks P w A it [it] [it] x.cps.size (SignAt x) (λi h=>h.IsStrIter it ty x t i))
   (hself:∀(A:Around) (i:Nat) (s:Shared) (Q:Value->Shared->Prop) (E:Value->Shared->Prop),s.heap.IsStrIter it ty x t i->Q (.ref it) s->wpAny (model P w) A (pyIter (.ref it)) Q E s):
   XU P w K tg (Gw x) [it] it (λi h=>h.IsStrIter it ty x t i) where
 mem:=by simp
 obj:=λi h st b hb=>by
   have e:b=it:=by simpa using hb
   subst e
   obtain⟨o,e,c,d⟩:=st
   exact⟨o,e,λv z=>by rw[d]at z;cases z⟩
 keep:=λi h h' st k=>let ⟨o,e,r⟩:=st;⟨o,k it (by simp) o e,r⟩
 item:=by
   intro X hP hw hK hc i pins s σ H E I hf st hg
   subst hP hw hK
   obtain⟨f0,f1,f2,f3,f4,f5⟩:=hf it (by simp)
   refine(hW X.A (I.ok.hd hc)).item i s _ _ hg st λv h' tk hv st' kk=>?_
   obtain⟨c,u,hcu,rfl⟩:=hv
   have I1:qx X pins σ H {s with heap:=h',toks:=tk}:=I.turned (λb o hb e=>kk b o (by simpa using hb) e) f0 f1 f3 f4 f5
   obtain⟨o,e,c1,d1⟩:=id st'
   exact⟨_,rfl,Vr (s:={s with heap:=h',toks:=tk}) e c1 d1 hn ⟨.str ⟨#[c]⟩,H,I1,⟨u,rfl⟩,⟨rfl,c,hcu,rfl⟩,st',λb hb=>(hf b hb).1⟩⟩
 done:=by
   intro X hP hw hK hc i pins s σ H E I hf st hg
   subst hP hw hK
   obtain⟨f0,f1,f2,f3,f4,f5⟩:=hf it (by simp)
   have hi:i=x.cps.size:=hg
   subst hi
   exact(hW X.A (I.ok.hd hc)).done s _ _ st λh' tk kk=>⟨rfl,I.turned (λb o hb e=>kk b o (by simpa using hb) e) f0 f1 f3 f4 f5⟩
 self:=hself
def Gn (tl:TE):TI:=λσ H R=>tl σ H λx H1=>∃y,x=.str y/\R (Gw y) H1
theorem vV {X:Cx} {tg l:Expr} {tl:TE} (hl:JE X l tl):JI X tg l (Gn tl):=.of (by
 have hl:=hl.to
 intro pins s σ H R I h
 refine ja (hl pins s σ H _ I h) λv s1 ⟨x,H1,I1,r1,q1⟩=>?_
 obtain⟨y,e,q⟩:=q1
 subst e
 obtain⟨t,rfl⟩:=r1
 have fp:∀b∈[s1.heap.objs.size],QW X pins H1 b:=λb hb=>by
   have e:b=s1.heap.objs.size:=by simpa using hb
   subst e
   exact I1.fpOk (Nat.le_refl _) (I1.hok.fresh (Nat.le_refl _))
 cases ha:y.cps.all (· < 128)
 . refine wpAny_pyIter_wide ha ?_
   exact⟨s1.heap.objs.size,[s1.heap.objs.size],_,_,H1,rfl,I1.kept (t':=s1.toks) λb o e=>Heap.get?_push_of_some _ e,
     Xj _ y t "str_iterator" (by decide) (λA hA=>Walks.strWide hA _ y t) (λA i s Q E st q=>wpAny_pyIter_striter_wide st q),⟨_,Heap.get?_push_size _ rfl,rfl,rfl⟩,fp,q⟩
 . refine wpAny_pyIter_ascii ha ?_
   exact⟨s1.heap.objs.size,[s1.heap.objs.size],_,_,H1,rfl,I1.kept (t':=s1.toks) λb o e=>Heap.get?_push_of_some _ e,
     Xj _ y t "str_ascii_iterator" (by decide) (λA hA=>Walks.strAscii hA _ y t) (λA i s Q E st q=>wpAny_pyIter_striter_ascii st q),⟨_,Heap.get?_push_size _ rfl,rfl,rfl⟩,fp,q⟩)
section
variable {K:PySem.W.Frag} {g:TG} {tt:TT} {te:TE} {D a:Addr} {σ:St} {H:Hp} {Q:Hp->Prop}
def XR (tt:TT) (te:TE) (D:Addr) (N:St->Hp->Prop):St->Hp->Prop:=λσ2 H3=>tt σ2 H3 λb H4=>
 if b=true then te σ2 H4 λv H5=>∃ys,H5 D=some (.lst ys)/\ys.length < sizeLine/\N σ2 (upd H5 D (.lst (ys++[v]))) else N σ2 H4
theorem Y7 {J:It} {n:Nat} (Pv:Nat->St->Hp->Prop) (h0:Pv 0 σ (upd H D (.lst [])))
   (go:∀i σ' H',i < n->Pv i σ' H'->J.go i H'/\∀x H2,J.yld i H' x H2->g x σ' H2 (XR tt te D (Pv (i+1)))) (stop:∀σ' H',Pv n σ' H'->J.stop n H'/\Q H'):Xm J g tt te D σ H Q:=by
 refine⟨λi m σ' H'=>m=n - i/\i<=n/\Pv i σ' H',⟨n,by simp,Nat.zero_le _,h0⟩,?_⟩
 rintro i m σ' H' ⟨rfl,hi,p⟩
 by_cases hlt:i < n
 . obtain⟨h1,h2⟩:=go i σ' H' hlt p
   exact .inr ⟨h1,Pv (i+1),λσ2 H2 p2=>⟨n - (i+1),by omega,rfl,hlt,p2⟩,h2⟩
 . have e:i=n:=by omega
   subst e
   exact .inl (stop σ' H' p)
theorem QV {lo:Int} {n:Nat} (Pv:Nat->St->Hp->Prop) (h0:Pv 0 σ (upd H D (.lst [])))
   (hs:∀i σ' H',i < n->Pv i σ' H'->g (.int (lo+i)) σ' H' (XR tt te D (Pv (i+1)))) (hd:∀σ' H',Pv n σ' H'->Q H'):Xm (wK lo n) g tt te D σ H Q:=
 Y7 (n:=n) Pv h0 (λi σ' H' hi p=>⟨hi,λx H2 y=>by
   obtain⟨e,y⟩:=y
   subst e y
   exact hs i σ' H2 hi p⟩) λσ' H' p=>⟨Nat.le_refl _,hd σ' H' p⟩
theorem jD {xs:List V} (Pv:Nat->St->Hp->Prop) (h0:Pv 0 σ (upd H D (.lst []))) (hl:∀i σ' H',i<=xs.length->Pv i σ' H'->SqL K H' a xs)
   (hs:∀i x σ' H',xs[i]?=some x->Pv i σ' H'->g x σ' H' (XR tt te D (Pv (i+1)))) (hd:∀σ' H',Pv xs.length σ' H'->Q H'):Xm (wT K a) g tt te D σ H Q:=
 Y7 (n:=xs.length) Pv h0 (λi σ' H' hi p=>⟨⟨xs,xs[i],hl i σ' H' (Nat.le_of_lt hi) p,by simp [hi]⟩,λx H2 y=>by
   obtain⟨e,y⟩:=y
   subst e
   exact hs i x σ' _ (y xs (hl i σ' _ (Nat.le_of_lt hi) p)) p⟩) λσ' H' p=>⟨⟨xs,hl _ σ' H' (Nat.le_refl _) p,Nat.le_refl _⟩,hd σ' H' p⟩
theorem Y0 {xs:List V} (Pv:Nat->St->Hp->Prop) (h0:Pv 0 σ (upd H D (.lst []))) (hl:∀i σ' H',i<=xs.length->Pv i σ' H'->SqT K H' a xs)
   (hs:∀i x σ' H',xs[i]?=some x->Pv i σ' H'->g x σ' H' (XR tt te D (Pv (i+1)))) (hd:∀σ' H',Pv xs.length σ' H'->Q H'):Xm (wS K a) g tt te D σ H Q:=
 Y7 (n:=xs.length) Pv h0 (λi σ' H' hi p=>⟨⟨xs,xs[i],hl i σ' H' (Nat.le_of_lt hi) p,by simp [hi]⟩,λx H2 y=>by
   obtain⟨e,y⟩:=y
   subst e
   exact hs i x σ' _ (y xs (hl i σ' _ (Nat.le_of_lt hi) p)) p⟩) λσ' H' p=>⟨⟨xs,hl _ σ' H' (Nat.le_refl _) p,Nat.le_refl _⟩,hd σ' H' p⟩
theorem VE {x:Str} (Pv:Nat->St->Hp->Prop) (h0:Pv 0 σ (upd H D (.lst [])))
   (hs:∀i c σ' H',x.cps[i]?=some c->Pv i σ' H'->g (.str ⟨#[c]⟩) σ' H' (XR tt te D (Pv (i+1)))) (hd:∀σ' H',Pv x.cps.size σ' H'->Q H'):Xm (Gw x) g tt te D σ H Q:=
 Y7 (n:=x.cps.size) Pv h0 (λi σ' H' hi p=>⟨hi,λv H2 y=>by
   obtain⟨e,c,hc,rfl⟩:=y
   subst e
   exact hs i c σ' _ hc p⟩) λσ' H' p=>⟨rfl,hd σ' H' p⟩
end
section
variable {X:Cx}
theorem zV:∀(bs:List Bool),(List.range bs.length).all (λi=>bs.getD i false)=bs.all id:=by
 intro bs
 induction bs with
 | nil=>rfl
 | cons b bs ih=>
   rw[List.length_cons,List.range_succ_eq_map,List.all_cons,List.all_map,List.all_cons]
   have:((λi=>(b::bs).getD i false) ∘ Nat.succ)=λi=>bs.getD i false:=by
     funext i
     simp [Function.comp]
   rw[this,ih]
   simp
theorem JP (hc:X.calm=true):jW X (.builtin "all") (λxs H Q=>∃(p:Addr) (bs:List Bool),xs=[.ref p]/\SqL X.K H p (bs.map V.bl)/\Q (.bl (bs.all id)) H):=by
 intro pins s σ H xs us Q I r h
 obtain⟨p,bs,rfl,hq,q⟩:=h
 obtain⟨u,rfl,rx⟩:=Qo r
 cases rx
 obtain⟨its,rv,pl,hz⟩:=I.list hq
 have hlt:p < s.heap.objs.size:=by
   obtain⟨o,n,e,_⟩:=pl
   exact Heap.lt_size e
 have hn:its.toArray.size=bs.length:=by
   have:=rv.length
   rw[List.length_map]at this
   simp only[List.size_toArray]
   omega
 have hh:X.A.in1.handled=none:=I.ok.hd hc
 refine call_all_walk (wpAny_pyIter_list pl.isList ?_)
 refine⟨s.heap.objs.size,[s.heap.objs.size,p],[s.heap.objs.size],its.toArray.size,λi v=>its.toArray[i]?=some v,_,λi=>bs.getD i false,rfl,Walks.list hh s.heap.objs.size p (Nat.ne_of_lt hlt) its.toArray,
   ⟨⟨_,Heap.get?_push_size _ rfl,rfl,rfl⟩,pl.isList.at λo e=>Heap.get?_push_of_some _ e⟩,?_,λh' tk hk=>?_⟩
 . intro i v s' Q' E' hP hQ
   have hi:its[i]?=some v:=by simpa using hP
   have hb:∃b,bs[i]?=some b/\v=Value.bool b:=by
     cases e:bs[i]? with
     | none=>
       exfalso
       have h1:(bs.map V.bl)[i]?=none:=by rw[List.getElem?_map,e];rfl
       rw[qI.none_of rv h1]at hi
       cases hi
     | some b=>
       have h1:(bs.map V.bl)[i]?=some (V.bl b):=by rw[List.getElem?_map,e];rfl
       obtain⟨u,hu,ru⟩:=rv.get h1
       rw[hi]at hu
       cases hu
       exact⟨b,rfl,ru⟩
   obtain⟨b,e,rfl⟩:=hb
   refine wpAny_truthy_bool ?_
   have e2:bs.getD i false=b:=by rw[List.getD_eq_getElem?_getD,e];rfl
   have hQ':Q' (bs.getD i false) s':=hQ
   rw[e2]at hQ'
   exact hQ'
 . rw[hn,zV]
   refine⟨.bl (bs.all id),H,?_,rfl,q⟩
   exact I.kept (h':=h') (t':=tk) λb o e=>hk b o (by
     intro z
     have z':b=s.heap.objs.size:=by simpa using z
     exact absurd (Heap.lt_size e) (by rw[z'];exact Nat.lt_irrefl _)) (Heap.get?_push_of_some _ e)
theorem Wb {ys:List Str}:∀{us:List Value},qI (ys.map V.str) us->StrsAre us ys:=by
 induction ys with
 | nil=>
   intro us r
   rw[List.map_nil]at r
   cases r
   exact .nil
 | cons y ys ih=>
   intro us r
   rw[List.map_cons]at r
   cases r with
   | cons a b=>
     obtain⟨t,rfl⟩:=a
     exact .cons _ _ (ih b)
def uv (K:PySem.W.Frag):V->List V->Hp->VK->Prop:=λx xs H Q=>∃(sep:Str) (p:Addr) (ys:List Str),x=.str sep/\xs=[.ref p]/\SqL K H p (ys.map V.str)/\(ys.map (·.length)).sum+ys.length*sep.length<=16777216/\Q (.str (Txt.join sep ys)) H
theorem yz:KG X "str.join" (uv X.K):=by
 intro pins s σ H x xs v us Q I rx rv h
 obtain⟨sep,p,ys,rfl,rfl,hq,hz,q⟩:=h
 obtain⟨t,rfl⟩:=rx
 obtain⟨u,rfl,ru⟩:=Qo rv
 cases ru
 obtain⟨its,r',pl,_⟩:=I.list hq
 exact join_list pl.isList (by simpa using Wb r') hz λt' k=>⟨.str _,H,I.tok k,⟨t',rfl⟩,q⟩
def yL:V->Value
 | .ty n=>.type n
 | .ref a=>.ref a
 | _=>.none
def xr:V->Bool
 | .ty _=>true
 | .ref _=>true
 | _=>false
def ux (K:PySem.W.Frag):List V->Hp->VK->Prop:=λxs H Q=>∃x c t b,xs=[x,c]/\xr c=true/\Zw K H x t/\PySem.W.kitOne K t (yL c)=some b/\Q (.bl b) H
theorem jt:jW X (.builtin "isinstance") (ux X.K):=by
 intro pins s σ H xs us Q I r h
 obtain⟨x,c,t,b,rfl,hc,ty,e,q⟩:=h
 obtain⟨u,w',rfl,ru,rw'⟩:=Xg r
 have ew:w'=yL c:=by
   cases c with
   | ty n=>exact rw'
   | ref a=>exact rw'
   | _=>cases hc
 subst ew
 exact Ur I ru ty e λtk=>⟨.bl b,H,I.tok tk,rfl,q⟩
end
end L2
namespace L2
open PySem PySem.Spec PyProof.Rows
end L2
set_option Elab.async false
set_option linter.all false
set_option maxRecDepth 100000
set_option maxHeartbeats 4000000
namespace L2
open PySem PySem.Spec PyProof.Rows
abbrev wV (rest:List Value):Obj:={cls:=.type "tuple",data:=.seq rest.toArray}
abbrev wA (C t:Addr):Obj:={cls:=.ref C,data:=.fields #[.ref t,.none,.none,.none,.bool false,.none]}
section
variable {prog:Program} {w:World} {A:Around} {E:Value->Shared->Prop} {h:Heap} {g:Array GenState} {d:Drawn} {t:Nat} {os:OsState}
variable {nm q:Str} {C N fI:Addr} {bs bm bmB bmN:List Value} {hdct:Bool} {sn:List Str} {sub:List Value} {ab:Bool} {col:Option Bool} {dd:Option Addr} {k0 k1 k2 k3 k5:Option Value} {B Bn newId nid initId inN:String} {rest:List Value} {oI:Obj}
theorem X6 {Q:Fin->Shared->Prop} (Fn:ExcBaseFacts Bn newId inN bmN) (hBn:bmB.contains (.type Bn)=true)
   (F:ExcBaseFacts B nid initId bmB) (T:OwnTail h bmB bm)
   (hC:h.get? C=some (excClassObj nm q C N bs bm hdct sn sub ab col dd k0 k1 k2 k3 k5 newId))
   (hi:PySem.W.Looks (model prog w) h (typeLookup (.ref C) "__init__") (some (.ref fI))) (hfI:h.get? fI=some oI) (hfc:oI.cls=.type "function")
   (hq:∀h' e,h.objs.size<=e->Heap.MadeExcOf h h' e (.ref C) rest->
     wpAny (model prog w) A (call (.ref fI) (.ref e::rest)) (λr s'=>r=.none/\Q (.done (.ret (.ref e))) s') E ⟨h',g,d,t,os⟩)
   (hz:rest.length<=sizeLine):
   wpAny (model prog w) A (Builtin.«type.__call__» ⟨.ref C::rest,[]⟩) Q E ⟨h,g,d,t,os⟩:=by
 repeat (first
   | with_reducible refine wpAny_loadPart_at hC ?_
   | with_reducible refine wpAny_madeBy_exc hC ?_
   | wp_step)
 refine codeAny_call_builtin_code (Code.quiet_builtin _ Fn.quiet) (wpAny_check_new_subU Fn hBn T hC
   (codeAny_exc_new_subU Fn hBn F T hC ?_ hz))
 show wpAny _ _ _ _ _ _
 have k:∀b o,h.get? b=some o->((h.push (wV rest)).push (wA C h.objs.size)).get? b=some o:=λb o e=>
   Heap.get?_push_of_some _ (Heap.get?_push_of_some _ e)
 have c1:=k _ _ hC
 have f1:=k _ _ hfI
 have i1:=hi.keeps k
 have e1:((h.push (wV rest)).push (wA C h.objs.size)).get? (h.objs.size+1)=some (wA C h.objs.size):=by heap_get
 have hcC:(Value.ref C::bm).contains (.ref C)=true:=by simp
 unfold isInstance
 repeat (first
   | with_reducible refine wpAny_loadPart_at e1 ?_
   | (with_reducible refine wpAny_isSubtype_exc c1 ?_;rw[hcC])
   | wp_step)
 show wpAny _ _ (typeLookup (.ref C) _) _ _ _
 refine i1.at ?_
 refine wpAny_holding (wpAny_bind ?_)
 unfold bindSpecial
 refine wpAny_bind (wpAny_typeOf (T:="function") ⟨_,f1,hfc⟩ ?_)
 rw[if_pos (by decide)]
 refine wpAny_pure (wpAny_bind (ja (hq _ (h.objs.size+1) (Nat.le_succ _) ⟨k,Heap.get?_none_of_le (Nat.le_succ _),h.objs.size,e1,Heap.get?_none_of_le (Nat.le_refl _),?_⟩) λr s' hr=>?_))
 . exact Heap.get?_push_of_some _ (Heap.get?_push_at rfl rfl)
 . obtain⟨rfl,hQ⟩:=hr
   wp_walk
   exact hQ
theorem UK {Q:Value->Shared->Prop} (Fn:ExcBaseFacts Bn newId inN bmN) (hBn:bmB.contains (.type Bn)=true)
   (F:ExcBaseFacts B nid initId bmB) (T:OwnTail h bmB bm)
   (hC:h.get? C=some (excClassObj nm q C N bs bm hdct sn sub ab col dd k0 k1 k2 k3 k5 newId))
   (hi:PySem.W.Looks (model prog w) h (typeLookup (.ref C) "__init__") (some (.ref fI))) (hfI:h.get? fI=some oI) (hfc:oI.cls=.type "function")
   (hq:∀h' e,h.objs.size<=e->Heap.MadeExcOf h h' e (.ref C) rest->
     wpAny (model prog w) (A.under (.builtin "type.__call__" ⟨.ref C::rest,[]⟩)) (call (.ref fI) (.ref e::rest)) (λr s'=>r=.none/\Q (.ref e) s') E ⟨h',g,d,t,os⟩)
   (hz:rest.length<=sizeLine):
   wpAny (model prog w) A (call (.ref C) rest) Q E ⟨h,g,d,t,os⟩:=by
 have a1:=tc_lookup
 have a2:=tc_bind (.ref C)
 have a3:(⟨h,g,d,t,os⟩:Shared).TypeIs (.ref C) "type":=⟨_,hC,rfl⟩
 refine wpAny_call (codeAny_of_tree ?_)
 show wpAny _ _ (callAny (.ref C) _) _ _ _
 repeat (any_goals (first
   | assumption
   | with_reducible refine wpAny_loadPart_at hC ?_
   | wp_step))
 refine⟨rfl,codeAny_call_builtin_at (Code.quiet_builtin _ (by decide+kernel)) entry_typeCall
   (wpAny_check_type_call_sub hC (X6 Fn hBn F T hC hi hfI hfc (λh' e he hm=>?_) hz))⟩
 exact hq h' e he hm
end
end L2
namespace L2
open PySem PySem.W PyProof.Rows Builtin Builtin.ObjectAttr
structure ZO (K:Frag) (C:Addr) (bm:List Value):Prop where
 ga:findIn K (.ref C) "__getattribute__"=some (some (.builtin "BaseException.__getattribute__"))
 gt:findIn K (.ref C) "__getattr__"=some none
 sa:findIn K (.ref C) "__setattr__"=some (some (.builtin "object.__setattr__"))
 hd:hasDictIn K C=true
 mr:∃cd,clsIn K C=some cd/\cd.mro=.ref C::bm
 mb:mroIn K C (.type "BaseException")=some true
 mo:mroIn K C (.type "object")=some true
 cl:findIn K (.ref C) "__class__"=some (some (.builtin "object.__class__"))
def Wj:List Value->Prop
 | .ref _::r=>Wj r
 | l=>l=[.type "ValueError",.type "Exception",.type "BaseException",.type "object"]
theorem W9 (self:Value):∀{l:List Value},Wj l->refuseLoop self "__setattr__" l=pure ()
 | .ref c::r,e=>by rw[refuseLoop_ref];exact W9 self (l:=r) e
 | [],e=>nomatch (show ([]:List Value)=[.type "ValueError",.type "Exception",.type "BaseException",.type "object"] from e)
 | .type n::r,e=>by
   have e':(Value.type n::r)=[.type "ValueError",.type "Exception",.type "BaseException",.type "object"]:=e
   rw[e'];kernel_rfl
 | .none::r,e=>by have e':(Value.none::r)=[.type "ValueError",.type "Exception",.type "BaseException",.type "object"]:=e;cases e'
 | .bool _::r,e=>by have e':_=[Value.type "ValueError",.type "Exception",.type "BaseException",.type "object"]:=e;cases e'
 | .int _ _::r,e=>by have e':_=[Value.type "ValueError",.type "Exception",.type "BaseException",.type "object"]:=e;cases e'
 | .float _ _::r,e=>by have e':_=[Value.type "ValueError",.type "Exception",.type "BaseException",.type "object"]:=e;cases e'
 | .str _ _::r,e=>by have e':_=[Value.type "ValueError",.type "Exception",.type "BaseException",.type "object"]:=e;cases e'
 | .bytes _ _::r,e=>by have e':_=[Value.type "ValueError",.type "Exception",.type "BaseException",.type "object"]:=e;cases e'
 | .builtin _::r,e=>by have e':_=[Value.type "ValueError",.type "Exception",.type "BaseException",.type "object"]:=e;cases e'
section
variable {prog:Program} {w:World} {A:Around} {E:Value->Shared->Prop} {s:Shared} {K:Frag} {x C:Addr} {ox:Obj} {od:Option Obj} {bm:List Value} {name:Str} {v:Value}
theorem yg {tk:Tok} {R:Result->Shared->Prop} (X:K.In s.heap) (I:InstAt s.heap x ox C od) (c:ZO K C bm) (hb:Wj bm) (ht:findIn K (.ref C) name=some none)
   (h:∀b,wpAny (model prog w) A.in1 (storeInOwnDict (.ref x) (.ref C) (.str name tk) name v b)
     (λfin s'=>match fin with | .done f=>R (.ok f) s' | .again c'=>c'.quiet=true/\codeAny (model prog w) A c' R s') (λe s'=>R (.error e) s') s):
   codeAny (model prog w) A (.call (.builtin "object.__setattr__") ⟨[.ref x,.str name tk,v],[]⟩) R s:=by
 have SF:=PySem.F.store_object
 obtain⟨cd,hc,hm⟩:=c.mr
 have sub:Looks (model prog w) s.heap (isInstance (.ref x) (.type "object")) true:=I.type.andThen (looks_mroIn X c.mo)
 refine codeAny_call_builtin SF.slot.plain SF.entry
   (@check_slot (model prog w) _ _ s "object.__setattr__" "object" "__setattr__" (.ref x) [.str name tk,v] [] _ SF.kind SF.split sub (SF.args (.ref x) (.str name tk) v) ?_)
 have lm:Looks (model prog w) s.heap (mroOf (.ref C)) cd.mro:=(looks_clsIn X hc).andThen .now
 rw[osa_eq,refuse_eq]
 refine wpAny_bind (wpAny_bind (I.type.here (wpAny_bind (lm.here ?_))))
 rw[hm,refuseLoop_ref,W9 _ hb]
 refine wpAny_pure (wpAny_bind (I.type.here (wpAny_bind ((looks_findIn X ht).here ?_))))
 exact wpAny_bind (wpAny_pure (h _))
theorem vb {Q:Unit->Shared->Prop} (X:K.In s.heap) (hx:s.heap.get? x=some ox) (hc:ox.cls=.ref C) (hdc:ox.dict=none) (hda:∃fl,ox.data=.fields fl) (c:ZO K C bm) (hb:Wj bm) (ht:findIn K (.ref C) name=some none)
   (h:∀h' tk,h'.get? x=some {ox with dict:=some s.heap.objs.size}->h'.Ns1 s.heap.objs.size (λy=>if y=name then some v else none)->
     (∀b o,b≠x->s.heap.get? b=some o->h'.get? b=some o)->Q () {s with heap:=h',toks:=tk}):
   wpAny (model prog w) A (setAttr (.ref x) name v) Q E s:=by
 obtain⟨fl,hfl⟩:=hda
 obtain⟨oc,odi,oda,osl⟩:=ox
 dsimp only at hc hdc hfl
 subst hc hdc hfl
 have I:InstAt s.heap x ⟨.ref C,none,.fields fl,osl⟩ C none:=⟨hx,rfl,rfl,trivial⟩
 refine set_plain X I c.sa (yg (s:={s with toks:=s.toks+1}) X I c hb ht λb=>?_)
 obtain⟨cd,hcd,hdd⟩:=any_some c.hd
 refine wpAny_bind (wpAny_pure (wpAny_bind (wpAny_bind (wpAny_loadPart hx (wpAny_bind (Looks.here (s:={s with toks:=s.toks+1}) (looks_clsIn X hcd) ?_))))))
 rw[hdd]
 have hne:x≠s.heap.objs.size:=Nat.ne_of_lt (Heap.lt_size hx)
 have h1:=Heap.get?_push_of_some PySem.W.emptyDict hx
 refine wpAny_bind (wpAny_alloc (wpAny_bind (wpAny_update h1 ?_)))
 generalize hh2:(s.heap.push emptyDict).update x (λo=>{o with dict:=some s.heap.objs.size})=h2
 have e2:h2.get? x=some ⟨.ref C,some s.heap.objs.size,.fields fl,osl⟩:=by rw[<-hh2];exact Heap.get?_update_self _ h1 rfl
 have k2:∀b o,b≠x->(s.heap.push emptyDict).get? b=some o->h2.get? b=some o:=λb o hb e=>by rw[<-hh2,Heap.get?_update_other _ _ (Ne.symm hb)];exact e
 have n0:(s.heap.push emptyDict).Ns s.heap.objs.size (λ_=>none):=⟨emptyDict,#[],_,Heap.get?_push_size s.heap rfl,rfl,(λe he=>absurd he (by simp)),λ_=>rfl⟩
 have n2:h2.Ns1 s.heap.objs.size (λ_=>none):=(Heap.Ns1.of_empty n0).at λo q=>k2 _ o (Ne.symm hne) q
 refine wpAny_pure (a:=some s.heap.objs.size) (wpAny_bind (wpAny_pure (wpAny_bind ?_)))
 refine wpAny_nsSet1 (s:={s with heap:=h2,toks:=s.toks+1}) n2 λh' hn2 hs2=>?_
 obtain⟨oD,esD,epD,hoD,hdD,hcD⟩:=hn2.count (PySem.Within.cons name v PySem.Within.nil)
 refine wpAny_bind (wpAny_lookBehind hoD (by rw[hdD];exact pastItsLine_dict (Nat.le_trans hcD (by show 1<=sizeLine+1;decide))) ?_)
 refine wpAny_pure (h h' (s.toks+1+1) ((hs2.2 x hne).trans e2) hn2 λb o hb e=>?_)
 exact(hs2.2 b (Nat.ne_of_lt (Heap.lt_size e))).trans (k2 b o hb (Heap.get?_push_of_some _ e))
theorem Vs {fill expr:Bool} {tk:Tok} {Q:Value->Shared->Prop} (X:K.In s.heap) (I:InstAt s.heap x ox C od) (c:ZO K C bm)
   (h:wpAny (model prog w) A.in1 (Builtin.«object.__getattribute__» ⟨[.ref x,.str name tk],[]⟩) (λfin s'=>match fin with | .done (.ret u)=>handedIn u=true/\Q u s' | _=>False) (λ_ _=>False) s):
   wpAny (model prog w) A (getAttrBy (.ref x) (.str name tk) fill expr) Q E s:=by
 have ga:=PySem.F.attr_ValueError.ga
 have L1:=looks_findIn (M:=model prog w) X c.ga
 have L2:=looks_findIn (M:=model prog w) X c.gt
 have hk:builtinKind "BaseException.__getattribute__"=some .slot:=by decide+kernel
 have hs:splitId "BaseException.__getattribute__"=some ("BaseException","__getattribute__"):=by decide+kernel
 have sub:Looks (model prog w) s.heap (isInstance (.ref x) (.type "BaseException")) true:=I.type.andThen (looks_mroIn X c.mb)
 unfold getAttrBy
 refine wpAny_holding (wpAny_bind (I.type.here (wpAny_bind (L1.here ?_))))
 dsimp only
 have eb:(Value.builtin "BaseException.__getattribute__"==Value.builtin "object.__getattribute__")=false:=by decide+kernel
 rw[if_neg (by rw[eb,Bool.and_false];decide)]
 unfold getAttrByItsOwn
 refine wpAny_bind (show wpAny _ _ (hookBefore (.ref C)) _ _ _ from L2.here ?_)
 refine wpAny_bind (wpAny_attempt (wpAny_holding ?_))
 unfold callGetattribute
 have e0:(expr&&onTheHeap (Value.builtin "BaseException.__getattribute__"))=false:=by cases expr<;>rfl
 rw[if_neg (by rw[e0];decide)]
 unfold boundAndCalled
 rw[ga.bind]
 refine wpAny_bind (wpAny_pure ?_)
 refine wpAny_call (codeAny_call_builtin ga.plain PySem.F.entry_bexc_ga
   (@check_slot (model prog w) _ _ s "BaseException.__getattribute__" "BaseException" "__getattribute__" (.ref x) [.str name tk] [] _ hk hs sub (PySem.F.args_bexc_ga _ _) ?_))
 refine wpAny_mono h (λfin s' z=>?_) λ_ _ z=>z.elim
 cases fin with
 | again c'=>exact z.elim
 | done f=>
   cases f with
   | next=>exact z.elim
   | brk=>exact z.elim
   | cont=>exact z.elim
   | ret u=>
     obtain⟨hh,q⟩:=z
     show wpAny _ _ (handedOut u) _ _ _
     rw[handedOut_of hh]
     exact wpAny_pure q
theorem yH {expr:Bool} {Q:Value->Shared->Prop} {odd:Obj} (X:K.In s.heap) (I:InstAt s.heap x ox C (some odd)) (c:ZO K C bm) (ha:findIn K (.ref C) name=some none) (hl:lookIn name odd=some (some v)) (hv:handedIn v=true)
   (h:Q v {s with toks:=s.toks+1}):wpAny (model prog w) A (getAttr (.ref x) name expr) Q E s:=by
 have hf:findObj K C (some odd) name=some (.value v):=findObj_own c.hd ha rfl hl
 have LF:=looks_find (M:=model prog w) X I hf
 unfold getAttr
 refine wpAny_bind (wpAny_mkText (Vs (s:={s with toks:=s.toks+1}) X I c ?_))
 unfold Builtin.«object.__getattribute__»
 refine wpAny_bind (wpAny_pure (wpAny_bind (wpAny_pure (wpAny_bind (Looks.here (s:={s with toks:=s.toks+1}) I.type (wpAny_bind (Looks.here (s:={s with toks:=s.toks+1}) LF ?_)))))))
 exact wpAny_pure ⟨hv,h⟩
end
end L2
namespace L2
open PySem PySem.W PyProof.Rows Builtin Builtin.ObjectAttr
section
variable {K:Frag} {x C:Addr} {ox odd:Obj} {bm:List Value}
theorem XF (c:ZO K C bm) (hn:specialIn K (.builtin "object.__class__") "__get__"=some (some (.builtin "getset_descriptor.__get__"))) (htk:takesIn K (.builtin "object.__class__")=some true):
   KitX K (.ref x) (.ref C) (λh=>InstAt h x ox C (some odd)) where
 ty:=λ_ _ _ I=>I.type
 it:=λ_ _ X _=>by
   obtain⟨cd,hcd,_⟩:=any_some c.hd
   unfold clsIn at hcd
   split at hcd
   . rename_i _ _ _ _ ho
     intro A' Q' E' s' k q
     unfold isType loadHead
     exact wpAny_bind (wpAny_loadPart (k _ _ (X _ _ ho)) (wpAny_pure q))
   . cases hcd
 ne:=λh tp dd its n sl X htp=>by
   obtain⟨cd,hcd,_⟩:=any_some c.hd
   refine Bool.eq_false_iff.mpr λq=>?_
   have e:C=tp:=Value.ref.inj (beq_iff_eq.mp q)
   subst e
   unfold clsIn at hcd
   split at hcd
   . rename_i _ _ _ _ ho
     have z:=(X _ _ ho).symm.trans htp
     cases z
   . cases hcd
 ca:=λ{prog w A E Q s} X I k=>by
   have hf:findObj K C (some odd) "__class__"=some (.bind (.builtin "getset_descriptor.__get__") (.builtin "object.__class__")):=
     findObj_data (by obtain⟨cd,hc,_⟩:=any_some c.hd;rw[hc];rfl) c.cl hn htk
   have LF:=looks_find (M:=model prog w) X I hf
   unfold getAttr? getAttrBy?
   refine wpAny_bind (wpAny_mkText (wpAny_bind (wpAny_attempt (Vs (s:={s with toks:=s.toks+1}) X I c ?_))))
   unfold Builtin.«object.__getattribute__»
   refine wpAny_bind (wpAny_pure (wpAny_bind (wpAny_pure (wpAny_bind (Looks.here (s:={s with toks:=s.toks+1}) I.type (wpAny_bind (Looks.here (s:={s with toks:=s.toks+1}) LF ?_)))))))
   dsimp only
   unfold bindTo
   dsimp only
   refine wpAny_bind (wpAny_holding (wpAny_call (class_get (s:={s with toks:=s.toks+1}) X I c.mo ?_)))
   exact wpAny_pure ⟨rfl,wpAny_pure k⟩
end
end L2
set_option Elab.async false
set_option linter.all false
set_option maxRecDepth 100000
set_option maxHeartbeats 4000000
namespace L2
open PySem PySem.Spec PyProof.Rows
def JR (e C:Addr):HO:=.ext λh=>∃fl,h.get? e=some {cls:=.ref C,data:=.fields fl}/\fl[1]?=some Value.none
def jB (e C dx:Addr) (hd:Value):HO:=.ext λh=>∃fl,h.get? e=some {cls:=.ref C,dict:=some dx,data:=.fields fl}/\fl[1]?=some hd
abbrev QB (e C dx:Addr):HO:=jB e C dx .none
def qT:List Value:=[.type "ValueError",.type "Exception",.type "BaseException",.type "object"]
structure Kq (K:PySem.W.Frag) (C f:Addr) (bm:List Value):Prop where
 obj:∃nm q N bs hdct sn sub ab col dd k0 k1 k2 k3 k5,K.lookup C=some (excClassObj nm q C N bs bm hdct sn sub ab col dd k0 k1 k2 k3 k5 "ValueError.__new__")
 tail:∀h:Heap,K.In h->OwnTail h qT bm
 init:PySem.W.findIn K (.ref C) "__init__"=some (some (.ref f))
 fn:PySem.W.isFn K (.ref f)=true
 kp:PySem.W.keepIn K (.ref C)=true
section
variable {P:Program} {w:World} {H:Hp} {h h':Heap} {e C dx:Addr}
theorem yJ (he:∃fl,h.get? e=some {cls:=.ref C,data:=.fields fl}/\fl[1]?=some Value.none):qJ P w H h e (JR e C):=by
 obtain⟨fl,q,z⟩:=he
 exact⟨⟨fl,q,z⟩,⟨_,q⟩,λh1 h2 ⟨fl',q',z'⟩ k=>⟨fl',k _ q',z'⟩⟩
theorem JN {hd:Value} (he:∃fl,h.get? e=some {cls:=.ref C,dict:=some dx,data:=.fields fl}/\fl[1]?=some hd):qJ P w H h e (jB e C dx hd):=by
 obtain⟨fl,q,z⟩:=he
 exact⟨⟨fl,q,z⟩,⟨_,q⟩,λh1 h2 ⟨fl',q',z'⟩ k=>⟨fl',k _ q',z'⟩⟩
end
section
variable {X:Cx} {pins:List (Addr×Obj)} {σ:St} {H:Hp} {s:Shared} {e C dx:Addr} {f:Str} {bm:List Value} {y v:V} {u:Value} {A:Around} {E:Value->Shared->Prop}
theorem qx.excSet {h':Heap} {t':Nat} {fs:List (Str×V)} (I:qx X pins σ H s) (hH:H e=some (JR e C)) (hd:s.heap.objs.size<=dx)
   (h1:∃fl,h'.get? e=some {cls:=.ref C,dict:=some dx,data:=.fields fl}/\fl[1]?=some Value.none) (h2:∃mA,h'.Ns1 dx mA/\∀f,Jg (fs.lookup f) (mA f))
   (k:∀b o,b≠e->s.heap.get? b=some o->h'.get? b=some o):qx X pins σ (upd (upd H e (QB e C dx)) dx (.xd fs)) {s with heap:=h',toks:=t'}:=by
 have mu:wQ (H e):=by rw[hH];exact trivial
 have heo:∃u,h'.get? e=some u:=let ⟨_,q,_⟩:=h1;⟨_,q⟩
 have hn:H dx=none:=I.hok.fresh hd
 have ne:dx≠e:=λz=>by rw[z,hH]at hn;cases hn
 have U:Un X.fs [] H (upd H e (QB e C dx)) s.heap h':=Un.write mu (.inl rfl) k heo
 have W:Jh X.prog X.w (upd H e (QB e C dx)) h':=I.hok.write mu (.inl rfl) k heo (JN h1)
 have hn2:(upd H e (QB e C dx)) dx=none:=by rw[qi ne];exact hn
 have nb:∀b o,s.heap.get? b=some o->b≠dx:=λb o q=>Nat.ne_of_lt (Nat.lt_of_lt_of_le (Heap.lt_size q) hd)
 refine I.un ⟨U.keep,U.slot,λb o q n hx=>?_,U.there,λb xs q=>?_,λb o z q=>?_,λb ps q=>?_⟩ λb o q=>?_
 . rw[qi (nb b o q)];exact U.free b o q n hx
 . have:=U.tups b xs q
   rw[qi (qt this hn2)];exact this
 . have:=U.frzs b o z q
   rw[qi (qt this hn2)];exact this
 . obtain⟨m,q'⟩:=U.tbls b ps q
   exact⟨m,by rw[qi (qt q' hn2)];exact q'⟩
 . by_cases hb:b=dx
   . subst hb
     rw[qd]at q
     cases q
     exact h2
   . rw[qi hb]at q
     exact(W b o q).stay (λ_ _ _ z=>z) (λc z=>by rw[qi (qt z hn2)];exact z) λc xs z=>by rw[qi (qt z hn2)];exact z
theorem VW {Q:Unit->Shared->Prop} (I:qx X pins σ H s) (hH:H e=some (JR e C)) (c:ZO X.K C bm) (hb:Wj bm) (n:Qa X.K C f) (ry:qQ y u)
   (h:∀dx s',H dx=none->qx X pins σ (upd (upd H e (QB e C dx)) dx (.xd [(f,y)])) s'->Q () s'):wpAny (model X.prog X.w) A (setAttr (.ref e) f u) Q E s:=by
 obtain⟨⟨fl,he,hz⟩,_,_⟩:=(show qJ X.prog X.w H s.heap e (JR e C) from I.hok e _ hH)
 refine vb I.kIn he rfl rfl ⟨fl,rfl⟩ c hb n λh' tk e1 e2 e3=>?_
 refine h s.heap.objs.size _ (I.hok.fresh (Nat.le_refl _)) (I.excSet hH (Nat.le_refl _) ⟨fl,e1,hz⟩ ⟨_,e2,λg=>?_⟩ e3)
 by_cases hg:g=f
 . subst hg
   rw[List.lookup_cons]
   simp only[beq_self_eq_true,if_true]
   exact ry
 . have hb':(g==f)=false:=beq_eq_false_iff_ne.mpr hg
   rw[List.lookup_cons]
   simp only[hb',hg,if_false]
   exact trivial
theorem UA {b:Bool} {Q:Value->Shared->Prop} {fs:List (Str×V)} {hd:Value} (I:qx X pins σ H s) (hH:H e=some (jB e C dx hd)) (hx:H dx=some (.xd fs)) (c:ZO X.K C bm) (n:Qa X.K C f) (l:fs.lookup f=some v)
   (h:∀u s',qx X pins σ H s'->qQ v u->Q u s'):wpAny (model X.prog X.w) A (getAttr (.ref e) f b) Q E s:=by
 obtain⟨⟨fl,he,_⟩,_,_⟩:=(show qJ X.prog X.w H s.heap e (jB e C dx hd) from I.hok e _ hH)
 obtain⟨mA,hn,hr⟩:=(show qJ X.prog X.w H s.heap dx (.xd fs) from I.hok dx _ hx)
 obtain⟨od,ho,hl⟩:=JF hn
 have r:=hr f
 rw[l]at r
 obtain⟨u,eu,ru⟩:=Jg.some_of r
 exact yH I.kIn ⟨he,rfl,rfl,ho⟩ c n (by rw[hl,eu]) (Yo ru) (h u _ (I.tok _) ru)
theorem kb {cV:Value} {b:Bool} {Q:Value->Shared->Prop} {fs:List (Str×V)} {hd:Value} (I:qx X pins σ H s) (hH:H e=some (jB e C dx hd)) (hx:H dx=some (.xd fs)) (c:ZO X.K C bm)
   (hn:PySem.W.specialIn X.K (.builtin "object.__class__") "__get__"=some (some (.builtin "getset_descriptor.__get__"))) (htk:PySem.W.takesIn X.K (.builtin "object.__class__")=some true)
   (ek:PySem.W.kitOne X.K (.ref C) cV=some b) (h:∀tk,Q (.bool b) {s with toks:=tk}):wpAny (model X.prog X.w) A (call (.builtin "isinstance") [.ref e,cV]) Q E s:=by
 obtain⟨⟨fl,he,_⟩,_,_⟩:=(show qJ X.prog X.w H s.heap e (jB e C dx hd) from I.hok e _ hH)
 obtain⟨mA,hns,hr⟩:=(show qJ X.prog X.w H s.heap dx (.xd fs) from I.hok dx _ hx)
 obtain⟨od,ho,hl⟩:=JF hns
 exact PySem.W.kia_one (XF (ox:={cls:=.ref C,dict:=some dx,data:=.fields fl}) (odd:=od) c hn htk) I.kIn ⟨he,rfl,rfl,ho⟩ ek (λz=>nomatch z) h
end
end L2
namespace L2
open PySem PySem.Spec PyProof.Rows
def KZ (K:PySem.W.Frag) (bm:List Value) (ta tv:TE) (f:Str):TS:=λD σ H=>tv σ H λy H1=>ta σ H1 λx H2=>∃a C,x=.ref a/\H2 a=some (JR a C)/\ZO K C bm/\Wj bm/\Qa K C f/\
 ∀dx,H2 dx=none->D.nx σ (upd (upd H2 a (QB a C dx)) dx (.xd [(f,y)]))
section
variable {X:Cx} {CX:z9} {k:Nat} {C fI:Addr} {fd:FuncData} {ps:List Str} {sp:Sp} {E:XK} {x f:Str} {o e value:Expr} {es:List Expr} {p pos pos':Pos} {ta tv:TE} {t:TA} {bm:List Value}
theorem YO (ha:JE X o ta) (hv:JE X value tv) (hs:swapsWith value (some (.Attribute o f pos')) pos.line X.env=pure false):JS X (.Assign [.Attribute o f pos'] value pos) (KZ X.K bm ta tv f):=.of (by
 have ha:=ha.to
 have hv:=hv.to
 intro pins s σ H D I h
 refine plainObj_wpAny_Assign_Attribute (ja (hv pins s σ H _ I h) λu s1 ⟨y,H1,I1,ry,q⟩=>
   ja (ha pins s1 σ H1 _ I1 q) λov s2 ⟨x,H2,I2,rx,a,C,ex,ea,c,hb,n,q2⟩=>?_) hs
 subst ex
 obtain rfl:ov=Value.ref a:=rx
 exact VW I2 ea c hb n ry λdx s3 hdx I3=>⟨σ,_,I3,q2 dx hdx⟩)
theorem V3 {pins:List (Addr×Obj)} {σ:St} {H:Hp} {s:Shared} {Q:VK} {us:List Value} {vs:List V} (M:Kq X.K C fI bm) (F:qz X.prog X.w X.K X.mg X.base CX k fI fd ps sp) (hr:q5 (k+1) X.A) (hb:Qi X.K fd ps [])
   (hx:Qz CX X E) (I:qx X pins σ H s) (r:qI vs us) (hz:us.length<=sizeLine)
   (h:∀x,H x=none->sp (.ref x::vs) (upd H x (JR x C)) (λv H2=>v=.non/\Q (.ref x) H2) E):
   wpAny (model X.prog X.w) X.A (call (.ref C) us) (EP X pins σ Q) X.xe s:=by
 obtain⟨nm,q,N,bs,hdct,sn,sub,ab,col,dd,k0,k1,k2,k3,k5,hC⟩:=M.obj
 have hfn:PySem.W.typeIn X.K (.ref fI)=some (.type "function"):=beq_iff_eq.mp M.fn
 obtain⟨oI,ho,hoc⟩:=Option.map_eq_some_iff.mp hfn
 have KX:=I.kIn
 obtain⟨hp,g,d,tk,os⟩:=s
 refine UK PySem.F.excBase_ValueError (by decide+kernel) PySem.F.excBase_ValueError (M.tail _ KX) (KX _ _ hC) (PySem.W.looks_findIn KX M.init) (KX _ _ ho) hoc (λh' ex hle hm=>?_) hz
 obtain⟨t0,ht,_,_⟩:=hm.there
 have I2:qx X pins σ (upd H ex (JR ex C)) ⟨h',g,d,tk,os⟩:=I.laid (t':=tk) hm.keeps hle (yJ ⟨_,ht,rfl⟩)
 have hq:=h ex (I.hok.fresh hle)
 have r2:qI (V.ref ex::vs) (Value.ref ex::us):=.cons rfl r
 have hl:(Value.ref ex::us++[]).length=ps.length:=by
   have e:=r2.length
   rw[F.len _ _ _ _ hq]at e
   rw[List.append_nil]
   exact e.symm
 have bb:=hb ⟨h',g,d,tk,os⟩ (Value.ref ex::us) I2.kIn hl
 rw[List.append_nil]at bb
 refine wpAny_call (codeAny_mono (F.run _ X.stack _ _ ⟨Value.ref ex::us,[]⟩ (Value.ref ex::us) _ _ E (hr.make C us []) (I2.env0.make C us []) bb r2 hq) λr s' hq'=>?_)
 cases r with
 | error z=>exact hx pins σ _ _ z s' I2 hq'
 | ok fl=>
   cases fl with
   | ret u=>
     obtain⟨v,H',I3,rv,ev,q3⟩:=I2.after hq'
     subst ev
     exact⟨rv,⟨V.ref ex,H',I3,rfl,q3⟩⟩
   | next=>exact False.elim hq'
   | brk=>exact False.elim hq'
   | cont=>exact False.elim hq'
theorem Qv (M:Kq X.K C fI bm) (F:qz X.prog X.w X.K X.mg X.base CX k fI fd ps sp) (hr:q5 (k+1) X.A) (hg:Gl X x) (hm:X.mg x=some (.ref C)) (hb:Qi X.K fd ps []) (hx:Qz CX X E) (ha:JA X (e::es) t) (hz:(e::es).length<=1000:=by decide) (hv:∀vs us,qI vs us->vs.length<=sizeLine->us.length<=sizeLine:=by intro vs us r h;rw[<-r.length];exact h) (hdb:(x==("__debug__":Str))=false:=by decide) (he:starEach (e::es) X.env=(false,eval e X.env)::starEach es X.env:=by rfl) (hpl:(backTo pos (starEach es X.env)).any (·.1)=false:=by rfl):JE X (.Call (.Name x p) (e::es) [] pos) (λσ H Q=>t σ H λvs H1=>vs.length<=sizeLine/\∀x,H1 x=none->sp (.ref x::vs) (upd H1 x (JR x C)) (λv H2=>v=.non/\Q (.ref x) H2) E):=.of (by
 have ha:=ha.to
 intro pins s σ H Q I h
 refine wpAny_Call_Name_kw (ze I hg hm ?_ hdb)
 refine PySem.W.callWith_K (h₀:=X.base) I.ok.mod.kin M.kp (ja (ha pos pins s σ H _ I h) λus s1 ⟨vs,H1,I1,r,q⟩=>⟨I1.kIn,?_⟩) he hpl
 exact V3 M F hr hb hx I1 r (hv vs us r q.1) q.2)
end
end L2
set_option Elab.async false
set_option linter.all false
set_option maxRecDepth 100000
set_option maxHeartbeats 4000000
namespace L2
open PySem PySem.Spec PyProof.Rows
def neL (xs ys:List V):Bool:=if xs.length=ys.length then !((List.range xs.length).all λj=>yK (xs.getD j .non) (ys.getD j .non)) else true
mutual
inductive DV (K:PySem.W.Frag) (H:Hp):V->PyData->Prop
 | non:DV K H .non .none
 | bl (b:Bool):DV K H (.bl b) (.bool b)
 | int (i:Int):DV K H (.int i) (.int i)
 | str (x:Str):DV K H (.str x) (.str x)
 | lst {a:Addr} {xs:List V} {ds:List PyData}:SqL K H a xs->DVs K H xs ds->DV K H (.ref a) (.list ds)
 | tup {a:Addr} {xs:List V} {ds:List PyData}:SqT K H a xs->DVs K H xs ds->DV K H (.ref a) (.tuple ds)
inductive DVs (K:PySem.W.Frag) (H:Hp):List V->List PyData->Prop
 | nil:DVs K H [] []
 | cons {x:V} {xs:List V} {d:PyData} {ds:List PyData}:DV K H x d->DVs K H xs ds->DVs K H (x::xs) (d::ds)
end
section
variable {X:Cx} {pins:List (Addr×Obj)} {σ:St} {H:Hp} {s:Shared}
mutual
theorem DV.reads (I:qx X pins σ H s):∀{x:V} {d:PyData},DV X.K H x d->∀{u:Value},qQ x u->∃as,Reads s.heap u d as
 | _,_,.non,u,r=>by cases (show u=Value.none from r);exact⟨_,.none⟩
 | _,_,.bl b,u,r=>by cases (show u=Value.bool b from r);exact⟨_,.bool b⟩
 | _,_,.int i,u,r=>by obtain⟨t,q⟩:=(show ∃t,u=Value.int i t from r);subst q;exact⟨_,.int i t⟩
 | _,_,.str x,u,r=>by obtain⟨t,q⟩:=(show ∃t,u=Value.str x t from r);subst q;exact⟨_,.str x t⟩
 | _,_,.lst (a:=a) hq hs,u,r=>by
   cases (show u=Value.ref a from r)
   obtain⟨its,rv,⟨o,n,e,hc,hd,hda⟩,hz⟩:=I.list hq
   obtain⟨as,ra⟩:=DVs.reads I hs rv
   exact⟨_,.list e hc hda (by simpa using ra)⟩
 | _,_,.tup (a:=a) hq hs,u,r=>by
   cases (show u=Value.ref a from r)
   obtain⟨its,rv,⟨o,e,hc,n,hda⟩,hz⟩:=I.tuple hq
   obtain⟨as,ra⟩:=DVs.reads I hs rv
   exact⟨_,.tuple e hc hda (by simpa using ra)⟩
theorem DVs.reads (I:qx X pins σ H s):∀{xs:List V} {ds:List PyData},DVs X.K H xs ds->∀{us:List Value},qI xs us->∃as,ReadsAll s.heap us ds as
 | _,_,.nil,_,.nil=>⟨_,.nil⟩
 | _,_,.cons h hs,_,.cons r rs=>by
   obtain⟨as,a⟩:=DV.reads I h r
   obtain⟨bs,b⟩:=DVs.reads I hs rs
   exact⟨_,.cons a b⟩
end
end
def xf (K:PySem.W.Frag):List V->Hp->VK->Prop:=λxs H Q=>∃a d,xs=[.ref a]/\DV K H (.ref a) d/\d.showable=true/\d.hasDict=false/\d.depth<=60/\d.shown.length<=sizeLine/\Q (.str d.shown) H
theorem UI {X:Cx} (hg:X.A.guards=some []) (hu:X.A.units+64 < cLine):jW X (.builtin "repr") (xf X.K):=by
 intro pins s σ H xs us Q I r h
 obtain⟨a,d,rfl,hd,h1,h2,h3,h4,q⟩:=h
 obtain⟨u,rfl,ru⟩:=Qo r
 cases ru
 obtain⟨as,ra⟩:=hd.reads I (u:=.ref a) rfl
 exact repr_of_reads' ra h1 (λz=>by rw[h2]at z;cases z) hg (by omega) (λ_ _ e=>e) (λh' t tk k=>⟨.str d.shown,H,I.kept (t':=tk) k,⟨t,rfl⟩,q⟩) h4
end L2
namespace L2
open PySem PySem.Spec PyProof.Rows
theorem XC {x:Str} {n:Int} (hx:x.length<=1000) (h0:0<=n) (h1:n<=1000):MulOk x n:=by
 refine⟨?_,λh _=>?_,λh _=>?_⟩
 . rw[decide_eq_false (by omega),decide_eq_false (by omega)];rfl
 . intro z
   have q:(1000:Int)<=(2^63 - 1) / n:=by
     rw[Int.le_ediv_iff_mul_le (by omega)]
     omega
   omega
 . unfold Builtin.Str.tooLong
   refine decide_eq_false ?_
   have q:x.length*n.toNat<=1000*1000:=Nat.mul_le_mul hx (by omega)
   have e:(1000000:Nat) < sizeLine:=by decide
   omega
def ut:R2:=λx y H Q=>∃z n,x=.str z/\y=.int n/\z.length<=1000/\0<=n/\n<=1000/\Q (.str (Txt.mul z n)) H
theorem yh {X:Cx}:Z1 X (binaryOp .Mult) ut:=by
 intro pins s σ H x y v u Q I rx ry h
 obtain⟨z,n,rfl,rfl,hz,h0,h1,q⟩:=h
 obtain⟨t,rfl⟩:=rx
 obtain⟨t',rfl⟩:=ry
 exact SB.mul (XC hz h0 h1) λt k=>⟨.str _,H,I.tok k,⟨t,rfl⟩,q⟩
end L2
set_option Elab.async false
set_option linter.all false
set_option maxRecDepth 100000
set_option maxHeartbeats 4000000
namespace L2
open PySem PySem.Spec PyProof.Rows
section
variable {X:Cx}
def Kr (i j:Int):Prop:=0 < j/\j.natAbs < 2^200
theorem vE:Z1 X (binaryOp .FloorDiv) (rI Kr λi j=>.int (i / j)):=uE λi j _ _ _ _ _ hc q=>by
 have h1:(0:Int) < j:=hc.1
 have h3:j.natAbs.log2 < 200:=(Nat.log2_lt (by omega)).mpr hc.2
 exact floordiv_int (by omega) (by rw[Int.fdiv_eq_ediv_of_nonneg i (by omega)];exact q) (.inl (PyProof.noPylong_of_log2 (Nat.lt_trans h3 (by decide))))
end
section
variable {X:Cx} {tg:Expr}
end
section
variable {X:Cx} {st:Stmt} {rest:List Stmt} {t u:TS}
def KM (t u:TS):TS:=λD σ H=>∃W:St->Hp->Prop,t {D with nx:=W} σ H/\∀σ' H',W σ' H'->u D σ' H'
theorem yC (h1:JS X st t) (h2:YB X rest u):YB X (st::rest) (KM t u):=.of (by
 have h1:=h1.to
 have h2:=h2.to
 intro pins s σ H D I ⟨W,h,k⟩
 refine wpAny_execs_cons (ja (h1 pins s σ H {D with nx:=W} I h) λf s1 q=>?_)
 cases f with
 | next=>
   obtain⟨σ',H',I',q⟩:=q
   exact h2 pins s1 σ' H' D I' (k σ' H' q)
 | ret v=>exact q
 | brk=>exact q
 | cont=>exact q)
end
end L2
set_option Elab.async false
set_option linter.all false
set_option maxRecDepth 100000
set_option maxHeartbeats 4000000
namespace PySem
section
variable {prog:Program} {w:World} {A:Around} {E:Value->Shared->Prop} {s:Shared}
def zz (x n c:Int):Obj:={cls:=.type "range_iterator",data:=.fields #[rawInt x,rawInt n,rawInt c]}
theorem W8 (n:Nat):Builtin.Range.rangeSize 0 n 1=n:=by
 unfold Builtin.Range.rangeSize
 rw[if_pos (by decide)]
 split<;>omega
theorem zU {r:Addr} {a b c:Int} {t u v:Tok} {Q:Value->Shared->Prop} (hr:IsRange s.heap r a b c t u v)
   (hs:(Builtin.Range.rangeFitsLong a&&Builtin.Range.rangeFitsLong b&&Builtin.Range.rangeFitsLong c&&Builtin.Range.rangeFitsLong (-c)&&Builtin.Range.rangeFitsLong (a - c)&&Builtin.Range.rangeFitsLong (Builtin.Range.rangeSize a b c))=true)
   (h:Q (.ref s.heap.objs.size) {s with heap:=s.heap.push (zz (a+(Builtin.Range.rangeSize a b c - 1)*c) (Builtin.Range.rangeSize a b c) (-c))}):wpAny (model prog w) A (call (.builtin "range.__reversed__") [.ref r]) Q E s:=by
 have ty:s.TypeIs (.ref r) "range":=⟨_,hr,rfl⟩
 refine wpAny_call_entry F.slot_range_reversed ty F.entry_range_reversed ?_ (F.args_range_reversed_1 _)
 unfold Builtin.«range.__reversed__»
 refine wpAny_bind (wpAny_of_eq (a:=Value.ref r) rfl ?_)
 refine wpAny_bind ?_
 unfold Builtin.Range.rangeFields
 refine wpAny_bind (wpAny_field hr rfl (x:=.int a t) rfl ?_)
 refine wpAny_bind (m:=asInt? (.int a t)) (wpAny_pure ?_)
 refine wpAny_bind (wpAny_field hr rfl (x:=.int b u) rfl ?_)
 refine wpAny_bind (m:=asInt? (.int b u)) (wpAny_pure ?_)
 refine wpAny_bind (wpAny_field hr rfl (x:=.int c v) rfl ?_)
 refine wpAny_bind (m:=asInt? (.int c v)) (wpAny_pure ?_)
 refine wpAny_pure ?_
 dsimp only
 rw[hs]
 simp only[Bool.not_true,Bool.false_eq_true,if_false,if_true]
 first
 | refine wpAny_bind (wpAny_newObj_type (wpAny_pure ⟨_,rfl,h⟩))
 | refine wpAny_bind (wpAny_pure (wpAny_bind (wpAny_newObj_type (wpAny_pure ⟨_,rfl,h⟩))))
theorem JV {r:Addr} {n:Nat} {t u v:Tok} {Q:Value->Shared->Prop} (hr:IsRange s.heap r 0 n 1 t u v) (hn:n < 1048576)
   (h:Q (.ref s.heap.objs.size) {s with heap:=s.heap.push (zz ((n:Int) - 1) n (-1))}):wpAny (model prog w) A (call (.builtin "range.__reversed__") [.ref r]) Q E s:=by
 have f:∀x:Int,-2000000<=x->x<=2000000->Builtin.Range.rangeFitsLong x=true:=λx p q=>by
   unfold Builtin.Range.rangeFitsLong
   simp
   omega
 have e:=W8 n
 have hs:(Builtin.Range.rangeFitsLong 0&&Builtin.Range.rangeFitsLong (n:Int)&&Builtin.Range.rangeFitsLong 1&&Builtin.Range.rangeFitsLong (-1)&&Builtin.Range.rangeFitsLong (0 - 1)&&Builtin.Range.rangeFitsLong (Builtin.Range.rangeSize 0 n 1))=true:=by
   rw[e,f 0 (by omega) (by omega),f n (by omega) (by omega),f 1 (by omega) (by omega),f (-1) (by omega) (by omega),f (0 - 1) (by omega) (by omega)]
   rfl
 refine zU hr hs ?_
 have e2:(0:Int)+(Builtin.Range.rangeSize 0 n 1 - 1)*1=(n:Int) - 1:=by rw[e];omega
 rw[e2,e]
 exact h
end
end PySem
namespace PySem
section
variable {prog:Program} {w:World} {A:Around} {E:Value->Shared->Prop} {s:Shared}
theorem Ze {r:Addr} {n:Nat} {t u v:Tok} {Q₁:Value->Shared->Prop} (hr:IsRange s.heap r 0 n 1 t u v) (hn:n < 1048576)
   (h:Q₁ (.ref s.heap.objs.size) {s with heap:=s.heap.push (zz ((n:Int) - 1) n (-1))}):
   codeAny (model prog w) A (.call (.builtin "reversed.__new__") ⟨[.type "reversed",.ref r],[]⟩) (wants Q₁ E) s:=by
 have ty:s.TypeIs (.ref r) "range":=⟨_,hr,rfl⟩
 have nn:¬((Value.builtin "range.__reversed__"==Value.none)=true):=Bool.false_ne_true
 refine codeAny_of_tree (show wpAny _ A.in1 (checkBuiltinCall "reversed.__new__" ⟨[.type "reversed",.ref r],[]⟩ >>= λ_=>again (.builtin "reversed.__new__" ⟨[.type "reversed",.ref r],[]⟩)) _ _ s from
   wpAny_bind (wpAny_of_eq (F.newCall_reversed_1 (.ref r)) (wpAny_pure ⟨plainId_quiet F.plain_reversed_new _,codeAny_builtin F.entry_reversed_new ?_⟩)))
 rw[Around.under_plainId F.plain_reversed_new _];unfold Builtin.«reversed.__new__»
 refine wpAny_bind (wpAny_of_eq (newClass_reversed (.ref r)) ?_);dsimp only
 refine wpAny_bind (wpAny_of_eq (a:=()) (by kernel_rfl) (wpAny_bind (wpAny_of_eq (a:=()) (by kernel_rfl) ?_)));try dsimp only
 refine wpAny_bind (wpAny_specialOf ty F.slot_range_reversed.lookup ?_);dsimp only
 refine wpAny_bind (wpAny_of_eq (F.slot_range_reversed.bind _) ?_);dsimp only
 rw[if_neg nn]
 refine wpAny_bind (wpAny_rule (wpAny_bind (m:=runValue (.call (.builtin "range.__reversed__") ⟨[.ref r],[]⟩)) (show wpAny _ _ (call (.builtin "range.__reversed__") [.ref r]) _ _ _ from JV hr hn ?_)))
 first | exact wpAny_pure h | exact wpAny_bind (wpAny_pure (wpAny_pure h))
theorem Z3:isSubtype (.type "range_iterator") (.type "reversed")=pure false:=by rw[isSubtype_type];kernel_rfl
theorem JU {r:Addr} {n:Nat} {t u v:Tok} {Q:Value->Shared->Prop} (hr:IsRange s.heap r 0 n 1 t u v) (hn:n < 1048576)
   (h:Q (.ref s.heap.objs.size) {s with heap:=s.heap.push (zz ((n:Int) - 1) n (-1))}):wpAny (model prog w) A (call (.type "reversed") [.ref r]) Q E s:=by
 refine callType_other (U:="range_iterator") (Q₁:=λobj s₁=>obj=.ref s.heap.objs.size/\s₁={s with heap:=s.heap.push (zz ((n:Int) - 1) n (-1))}) (by decide+kernel) F.create_reversed ⟨_,_,F.mro_reversed⟩ F.made_reversed Z3 (F.typeCall_reversed_1 _) (Ze hr hn ⟨rfl,rfl⟩) ?_
 rintro obj s₁ ⟨rfl,rfl⟩
 exact⟨⟨_,Heap.get?_push_size _ rfl,rfl⟩,h⟩
theorem YZ {I:Addr} {x left c:Int} {Q:Value->Shared->Prop} (hit:IsRangeIter s.heap I x left c) (h:Q (.int left s.toks) {s with toks:=s.toks+1}):
   wpAny (model prog w) A (call (.builtin "range_iterator.__length_hint__") [.ref I]) Q E s:=by
 have hT:s.TypeIs (.ref I) "range_iterator":=⟨_,hit,rfl⟩
 refine wpAny_call_entry F.slot_range_iterator_length_hint hT F.entry_range_iterator_length_hint ?_ (F.args_range_iterator_length_hint_1 _)
 unfold Builtin.«range_iterator.__length_hint__»
 refine wpAny_bind (wpAny_of_eq (a:=Value.ref I) rfl ?_)
 refine wpAny_bind (wpAny_field hit rfl (x:=rawInt left) rfl ?_)
 show wpAny _ _ (do ret (<-mkInt left)) _ _ _
 exact wpAny_ret_mkInt h
structure WK (P:Program) (w:World) (T:String) (I:Addr) (fp:List Addr) (n:Nat) (V:Nat->Value->Prop) (St:Nat->Heap->Prop):Prop where
 ty:∀z:Shared,St 0 z.heap->z.TypeIs (.ref I) T
 nl:(Value.type T==Value.type "list")=false
 nt:(Value.type T==Value.type "tuple")=false
 walk:∀B:Around,B.handled=none->Walks P w B I fp [I] n V St
 hint:∀(B:Around) (F:Value->Shared->Prop) (z:Shared) (R:Bool->Shared->Prop),St 0 z.heap->(∀k,R false {z with toks:=k})->wpAny (model P w) B (Builtin.List.listLengthHint (.ref I)) R F z
theorem WK.list {P:Program} {T:String} {I:Addr} {fp:List Addr} {n:Nat} {V:Nat->Value->Prop} {St:Nat->Heap->Prop} (J:WK P w T I fp n V St) {B:Around} {F':Value->Shared->Prop} {z:Shared} {R:Value->Shared->Prop}
   (hB:B.handled=none) (st:St 0 z.heap) (mem:I∈fp) (old:∀b∈fp,b < z.heap.objs.size) (hn:n<=1048576)
   (k:∀g tk xs c,(∀b o,b≠I->z.heap.get? b=some o->g.get? b=some o)->g.get? z.heap.objs.size=some (⟨.type "list",none,.seq xs c,#[]⟩:Obj)->ItemsOf V xs n->R (.ref z.heap.objs.size) {z with heap:=g,toks:=tk}):
   wpAny (model P w) B (call (.type "list") [.ref I]) R F' z:=by
 have nI:∀b∈fp,z.heap.objs.size≠b:=λb hb=>Nat.ne_of_gt (old b hb)
 have sI:Builtin.List.listSameRef (.ref z.heap.objs.size) (.ref I)=false:=by unfold Builtin.List.listSameRef;simp [nI I mem]
 refine callType_codes (Q₁:=λob z1=>z1={z with heap:=z.heap.push {cls:=.type "list",data:=.seq #[]}}/\ob=.ref z.heap.objs.size) F.called_list (F.typeCall_list_1 _) F.entry_list_init (code_list_new _ ⟨rfl,rfl⟩) ?_
 rintro ob z1 ⟨rfl,rfl⟩
 have a0:=Heap.get?_push_size z.heap (o:=({cls:=.type "list",data:=.seq #[]}:Obj)) rfl
 refine⟨⟨_,a0,rfl⟩,F.args_list_init_2 _ _,?_⟩
 show wpAny _ _ (Builtin.List.listItems (.ref _) >>= λys=>Builtin.List.listUpdate (.ref _) (λ_=>#[]) >>= λ_=>letGo ys.toList.reverse >>= λ_=>Builtin.List.listExtendWith (.ref _) (.ref I) .none) _ _ _
 refine wpAny_bind (show wpAny _ _ (Builtin.List.listItems (.ref _)) _ _ _ from ?_)
 unfold Builtin.List.listItems
 refine wpAny_bind (wpAny_seqItems a0 rfl (wpAny_pure (wpAny_bind ?_)))
 refine wpAny_updateSeq a0 rfl (wpAny_bind (wpAny_letGo ?_))
 have a1:=Heap.get?_update_self (Obj.mapSeq (λ_=>(#[]:Array Value))) a0 rfl
 have keep1:∀b o,z.heap.get? b=some o->((z.heap.push {cls:=.type "list",data:=.seq #[]}).update z.heap.objs.size (Obj.mapSeq (λ_=>(#[]:Array Value)))).get? b=some o:=λb o e=>
   (Heap.get?_update_other _ _ (Nat.ne_of_gt (Heap.lt_size e))).trans (Heap.get?_push_of_some _ e)
 generalize hg1:(z.heap.push {cls:=.type "list",data:=.seq #[]}).update z.heap.objs.size (Obj.mapSeq (λ_=>(#[]:Array Value)))=g1 at a1 keep1
 have st1:St 0 g1:=(J.walk B hB).frame 0 _ _ st λb _ o e=>keep1 b o e
 unfold Builtin.List.listExtendWith
 refine wpAny_bind (wpAny_typeOf (J.ty {z with heap:=g1} st1) ?_)
 simp only[sI,J.nl,J.nt,Bool.or_false,Bool.false_eq_true,if_false]
 refine wpAny_bind ((J.walk B.in1.in1 hB).self 0 {z with heap:=g1} _ _ st1 ?_)
 refine wpAny_bind (wpAny_holding (J.hint B.in1.in1 _ {z with heap:=g1} _ st1 λtk=>?_))
 have run:∀(g:Heap) (c tk:Nat),St 0 g->(∀b o,z.heap.get? b=some o->g.get? b=some o)->g.get? z.heap.objs.size=some {cls:=.type "list",data:=.seq #[] c}->
     codeAny (model P w) B.in1 (.builtin "list.extend.loop" ⟨[.ref z.heap.objs.size,.ref I,.none],[]⟩) (wants (λr z2=>r=.none/\R (.ref z.heap.objs.size) z2) F') {z with heap:=g,toks:=tk}:=λg c tk sg kg ag=>
   codeAny_extend_loopS (J.walk B.in1.in1 hB).toS (by rw[sizeLine_eq];omega) _ (λq=>nI _ q rfl) .none n 0 _ #[] c rfl (Nat.zero_le _) sg ag (ItemsOf.nil _) λz3 xs c3 mv a3 it=>by
     rw[Moved.eq_with mv]
     refine⟨rfl,k z3.heap z3.toks xs c3 (λb o hb e=>mv.heap b o (λq=>?_) (kg b o e)) a3 it⟩
     rcases List.mem_cons.mp q with q | q
     . exact absurd q (Nat.ne_of_lt (Heap.lt_size e))
     . exact hb (List.mem_singleton.mp q)
 refine wpAny_ite_split (λ_=>?_) (λ_=>wpAny_pure ⟨plainId_quiet F.plain_extend_loop _,run g1 _ tk st1 keep1 a1⟩)
 refine wpAny_bind (wpAny_rule (wpAny_bind (show wpAny _ _ (updateSeq z.heap.objs.size (·.push .none) >>= λ_=>updateSeq z.heap.objs.size (·.pop)) _ _ _ from wpAny_bind (wpAny_updateSeq a1 rfl ?_))))
 have a2:=Heap.get?_update_self (Obj.mapSeq (·.push Value.none)) a1 rfl
 refine wpAny_updateSeq (hz:=by seq_fits) a2 rfl ?_
 have keep3:∀b o,b≠z.heap.objs.size->g1.get? b=some o->((g1.update z.heap.objs.size (Obj.mapSeq (·.push Value.none))).update z.heap.objs.size (Obj.mapSeq (·.pop))).get? b=some o:=λb o hb e=>
   (Heap.get?_update_other _ _ (Ne.symm hb)).trans ((Heap.get?_update_other _ _ (Ne.symm hb)).trans e)
 exact wpAny_pure ⟨plainId_quiet F.plain_extend_loop _,run _ _ tk ((J.walk B hB).frame 0 _ _ st1 λb hb o e=>keep3 b o (λq=>nI b hb q.symm) e) (λb o e=>keep3 b o (Nat.ne_of_lt (Heap.lt_size e)) (keep1 b o e)) (Heap.get?_update_self (Obj.mapSeq (·.pop)) a2 rfl)⟩
theorem VX {P:Program} {I:Addr} {x c:Int} {n:Nat} (hn:n<=1048576):WK P w "range_iterator" I [I] n (λi v=>∃t,v=.int (x+i*c) t) (λi h=>IsRangeIter h I (x+(i:Nat)*c) ((n:Int) - (i:Nat)) c) where
 ty:=λ_ st=>⟨_,st,rfl⟩
 nl:=by decide
 nt:=by decide
 walk:=λ_ hB=>Walks.range hB I x c n
 hint:=λB G z R st k=>by
   have st':IsRangeIter z.heap I x n c:=by
     have e1:x+((0:Nat):Int)*c=x:=by simp
     have e2:(n:Int) - ((0:Nat):Int)=n:=by simp
     rw[<-e1,<-e2]
     exact st
   have ty:z.TypeIs (.ref I) "range_iterator":=⟨_,st',rfl⟩
   have few:Builtin.List.listTooLong ((n:Int).toNat)=false:=by unfold Builtin.List.listTooLong;rw[Int.toNat_natCast];exact decide_eq_false (by rw[sizeLine_eq];omega)
   unfold Builtin.List.listLengthHint
   refine wpAny_bind (wpAny_specialOf ty F.nolen_ra ?_)
   refine(show wpAny _ B (specialOf (.ref I) (Str.ofString "__length_hint__") >>= _) _ _ _ from wpAny_bind (wpAny_specialOf ty F.hint_ra ?_))
   (generalize hq:("range_iterator.__length_hint__":String)=q0;(fail_if_success (clear hq q0));wp_delta;rw[show splitId q0=some ("range_iterator","__length_hint__") from by subst hq;decide+kernel];subst hq)
   refine wpAny_bind (wpAny_isInstance (b:=true) ty (by rw[isSubtype_type];kernel_rfl) ?_)
   refine(show wpAny _ B (call (.builtin "range_iterator.__length_hint__") [.ref I] >>= _) _ _ _ from wpAny_bind (YZ st' (wpAny_bind (m:=asInt? (.int (n:Int) _)) (wpAny_pure ?_))))
   dsimp only
   rw[if_neg (by rw[few];decide)]
   exact wpAny_pure (k _)
end
end PySem
namespace L2
open PySem PySem.Spec PyProof.Rows
def Zr (n:Nat):List Nat:=(List.range n).reverse
theorem VM {n:Nat} {acc:Array Value} (h:ItemsOf (λi v=>∃t,v=.int ((n:Int) - 1+i*(-1)) t) acc n):qI ((Zr n).map λi=>V.int (i:Nat)) acc.toList:=by
 obtain⟨hz,hv⟩:=h
 have key:∀(xs:List V) (us:List Value),xs.length=us.length->(∀(i:Nat) (x:V) (u:Value),xs[i]?=some x->us[i]?=some u->qQ x u)->qI xs us:=by
   intro xs
   induction xs with
   | nil=>intro us hl _;cases us with | nil=>exact .nil | cons _ _=>cases hl
   | cons x xs ih=>
     intro us hl hp
     cases us with
     | nil=>cases hl
     | cons u us=>exact .cons (hp 0 x u rfl rfl) (ih us (by simpa using hl) λi y w h1 h2=>hp (i+1) y w (by simpa using h1) (by simpa using h2))
 refine key _ _ (by simp [Zr,hz]) λi x u h1 h2=>?_
 have h2':acc[i]?=some u:=by simpa using h2
 obtain⟨t,rfl⟩:=hv i u h2'
 have hi:i < n:=by
   have:=(Array.getElem?_eq_some_iff.mp h2').1
   omega
 rw[List.getElem?_map,Zr,List.getElem?_reverse (by simpa using hi),List.length_range,List.getElem?_range (by omega)]at h1
 simp at h1
 subst h1
 refine⟨t,?_⟩
 congr 1
 omega
section
variable {X:Cx} {e:Expr} {te:TE} {p1 p2 p3 pos1 pos2 pos3:Pos}
theorem U1 {M:Model} {A:Around} {E:Value->Shared->Prop} {s:Shared} {env:Env} {e:Expr} {pos:Pos} {R:List Value->Shared->Prop} (hs:starEach [e] env=[(false,eval e env)]) (h:wpAny M A (eval e env) (λv s1=>R [v] s1) E s):
   wpAny M A (spliced (backTo pos (starEach [e] env))) R E s:=by
 rw[hs]
 show wpAny _ _ (spliced ((false,eval e env)::backTo pos [])) _ _ s
 exact Calls.spliced_cons (ja h λu s1 h1=>Calls.spliced_nil h1)
def KN (te:TE):TE:=λσ H Q=>te σ H λx H1=>∃n:Nat,x=.int n/\n<=1000/\∀l,H1 l=none->Q (.ref l) (upd H1 l (.lst ((Zr n).map λi=>V.int (i:Nat))))
theorem wv (hc:X.calm=true) (g1:Gl X "list") (m1:X.mg "list"=none) (g2:Gl X "reversed") (m2:X.mg "reversed"=none) (g3:Gl X "range") (m3:X.mg "range"=none) (ha:JE X e te) (hs:starEach [e] X.env=[(false,eval e X.env)]:=by rfl) (hs2:starEach [.Call (.Name "range" p3) [e] [] pos3] X.env=[(false,eval (.Call (.Name "range" p3) [e] [] pos3) X.env)]:=by rfl) (hs3:starEach [.Call (.Name "reversed" p2) [.Call (.Name "range" p3) [e] [] pos3] [] pos2] X.env=[(false,eval (.Call (.Name "reversed" p2) [.Call (.Name "range" p3) [e] [] pos3] [] pos2) X.env)]:=by rfl):JE X (.Call (.Name "list" p1) [.Call (.Name "reversed" p2) [.Call (.Name "range" p3) [e] [] pos3] [] pos2] [] pos1) (KN te):=.of (by
 have ha:=ha.to
 intro pins s σ H Q I h
 refine Call_ (QJ I g1 m1 boot_list (PyProof.Rows.callWith_type1 (U1 hs3 ?_) (by rw[hs3];rfl) rfl))
 refine Call_ (QJ I g2 m2 boot_reversed (PyProof.Rows.callWith_type1 (U1 hs2 ?_) (by rw[hs2];rfl) rfl))
 refine Call_ (QJ I g3 m3 boot_range (PyProof.Rows.callWith_type1 (U1 hs (ja (ha pins s σ H _ I h) λu s1 ⟨x,H1,I1,r1,q1⟩=>?_)) (by rw[hs];rfl) rfl))
 obtain⟨n,rfl,hn,q⟩:=q1
 obtain⟨t,rfl⟩:=r1
 refine call_range_1 ?_
 refine JU (IsRange.new ..) (by omega) ?_
 refine(VX (x:=(n:Int) - 1) (c:=-1) (n:=n) (by omega)).list (I1.ok.hd hc) (by
   have e1:(n:Int) - 1+((0:Nat):Int)*(-1)=(n:Int) - 1:=by simp
   have e2:(n:Int) - ((0:Nat):Int)=n:=by simp
   rw[e1,e2]
   exact Heap.get?_push_size _ rfl) (by simp) (λb hb=>by rw[List.mem_singleton.mp hb,Heap.size_push (_:Heap) (zz _ _ _)];exact Nat.lt_succ_self _) (by omega) λh' tk acc' c' kp e hi=>?_
 have kk:∀b o,s1.heap.get? b=some o->h'.get? b=some o:=λb o eb=>by
   refine kp b o (Nat.ne_of_lt ?_) (Heap.get?_push_of_some _ (Heap.get?_push_of_some _ eb))
   rw[Heap.size_push]
   exact Nat.lt_succ_of_lt (Heap.lt_size eb)
 have s1z:s1.heap.objs.size<=((s1.heap.push ({cls:=.type "range",data:=.fields #[.int 0 s1.toks,.int n t,.int 1 (s1.toks+1)]}:Obj)).push (zz ((n:Int) - 1) n (-1))).objs.size:=by
   rw[Heap.size_push,Heap.size_push]
   omega
 exact⟨.ref _,_,I1.laid (t':=tk) (o:=.lst ((Zr n).map λi=>V.int (i:Nat))) kk s1z ⟨by simp only[List.length_map,Zr,List.length_reverse,List.length_range];exact Nat.le_of_lt (qp hn),acc'.toList,c',VM hi,by simpa using e⟩,rfl,q _ (I1.hok.fresh s1z)⟩)
end
end L2
set_option Elab.async false
set_option linter.all false
set_option maxRecDepth 100000
set_option maxHeartbeats 4000000
namespace PySem
namespace F
end F
end PySem
namespace L2
open PySem PySem.Spec PyProof.Rows
theorem Ua:∀(xs:List V) (us:List Value),xs.length=us.length->(∀(i:Nat) (x:V) (u:Value),xs[i]?=some x->us[i]?=some u->qQ x u)->qI xs us:=by
 intro xs
 induction xs with
 | nil=>intro us hl _;cases us with | nil=>exact .nil | cons _ _=>cases hl
 | cons x xs ih=>
   intro us hl hp
   cases us with
   | nil=>cases hl
   | cons u us=>exact .cons (hp 0 x u rfl rfl) (ih us (by simpa using hl) λi y w h1 h2=>hp (i+1) y w (by simpa using h1) (by simpa using h2))
section
variable {X:Cx} {e:Expr} {te:TE} {p1 p2 pos1 pos2:Pos}
end
end L2
set_option Elab.async false
set_option linter.all false
set_option maxRecDepth 100000
set_option maxHeartbeats 4000000
namespace L2
open PySem PySem.Spec PyProof.Rows
section
variable {X:Cx} {pins:List (Addr×Obj)} {σ:St} {H:Hp} {s:Shared} {h':Heap}
theorem qx.turnLaid {L:List Addr} {T:Addr} {o:HO} {t':Nat} (I:qx X pins σ H s) (k:∀b u,b∉L->s.heap.get? b=some u->h'.get? b=some u) (hf:∀b∈L,QW X pins H b) (hp:s.heap.objs.size<=T)
   (new:qJ X.prog X.w (upd H T o) h' T o):qx X pins σ (upd H T o) {s with heap:=h',toks:=t'}:=by
 have hn:H T=none:=I.hok.fresh hp
 have up:∀b u,H b=some u->upd H T o b=some u:=λb u e=>by rw[qi (qt e hn)];exact e
 have nL:∀b u,H b=some u->b∉L:=λb u e z=>by rw[(hf b z).1]at e;cases e
 refine I.step (g':=s.gens) (d':=s.drawn) (ch:=L) (λb hb=>?_) (λb o _ _ hc e _=>k b o hc e) (λb o _ _ hc e _=>⟨o.slots,k b o hc e⟩) (λb ob hc e n=>?_)
   (λb o hc e=>⟨o,k b o hc e⟩) (λb xs e=>up b _ e) (λb o u e=>up b _ e) (λb ps e=>⟨#[],by rw[up b _ e];simp⟩) (λm hm=>?_) (λb u e=>?_) I.bare
 . obtain⟨f0,f1,f2,f3,f4,f5⟩:=hf b hb
   exact⟨f3,f1,f4,f5⟩
 . have:b≠T:=Nat.ne_of_lt (Nat.lt_of_lt_of_le (Heap.lt_size e) hp)
   rw[qi this]
   exact n
 . obtain⟨o,es,ep,ho,r⟩:=hm
   exact⟨o,es,ep,k _ o (λz=>(hf _ z).2.1 rfl) ho,r⟩
 . by_cases hb:b=T
   . subst hb
     rw[qd]at e
     cases e
     exact new
   . rw[qi hb]at e
     refine(I.hok b u e).stay (λc v hc q=>k c v ?_ q) (λc q=>up c _ q) λc xs q=>up c _ q
     rcases hc with z | z
     . rw[z];exact nL b u e
     . exact nL c _ z
theorem qx.turnedL {L:List Addr} {t':Nat} (I:qx X pins σ H s) (k:∀b u,b∉L->s.heap.get? b=some u->h'.get? b=some u) (hf:∀b∈L,QW X pins H b):qx X pins σ H {s with heap:=h',toks:=t'}:=by
 have nL:∀b u,H b=some u->b∉L:=λb u e z=>by rw[(hf b z).1]at e;cases e
 refine I.step (g':=s.gens) (d':=s.drawn) (ch:=L) (λb hb=>?_) (λb o _ _ hc e _=>k b o hc e) (λb o _ _ hc e _=>⟨o.slots,k b o hc e⟩) (λ_ _ _ _ n=>n)
   (λb o hc e=>⟨o,k b o hc e⟩) (λ_ _ e=>e) (λ_ _ _ e=>e) (λb ps e=>⟨#[],by rw[e];simp⟩) (λm hm=>?_) (λb u e=>?_) I.bare
 . obtain⟨f0,f1,f2,f3,f4,f5⟩:=hf b hb
   exact⟨f3,f1,f4,f5⟩
 . obtain⟨o,es,ep,ho,r⟩:=hm
   exact⟨o,es,ep,k _ o (λz=>(hf _ z).2.1 rfl) ho,r⟩
 . refine(I.hok b u e).stay (λc v hc q=>k c v ?_ q) (λ_ q=>q) λ_ _ q=>q
   rcases hc with z | z
   . rw[z];exact nL b u e
   . exact nL c _ z
end
section
variable {X:Cx} {elts:List Expr} {x1:Nat} {tpos:Pos}
end
end L2
set_option Elab.async false
set_option linter.all false
set_option maxRecDepth 100000
set_option maxHeartbeats 4000000
namespace L2
open PySem PySem.Spec PyProof.Rows
section
variable {X:Cx}
theorem Ya:∀{cs:List Addr} {us:List Value},qI (cs.map V.ref) us->us=cs.map Value.ref
 | [],_,.nil=>rfl
 | c::cs,u::us,.cons r t=>by
   obtain rfl:u=Value.ref c:=r
   rw[List.map_cons,Ya t]
end
section
variable {X:Cx} {o e:Expr} {es:List Expr} {ta:TE} {t:TA} {m:Str} {C C' f f':Addr} {fd fd':FuncData} {ps ps':List Str} {k k':Nat} {sp sp':Sp} {apos pos:Pos}
end
section
variable {X:Cx} {e:Expr} {es:List Expr} {te:TE} {t:TA}
end
end L2
set_option Elab.async false
set_option linter.all false
set_option maxRecDepth 100000
set_option maxHeartbeats 4000000
namespace L2
open PySem PySem.Spec PySem.W PyProof.Rows
theorem xn:∀(f n r:Nat),r<=1->minRun' f n r<=n+r
 | 0,n,r,_=>Nat.le_refl _
 | f+1,n,r,hr=>by
   rw[minRun'_succ]
   split
   . exact Nat.le_refl _
   . have h1:max r (n % 2)<=1:=Nat.max_le.mpr ⟨hr,by omega⟩
     have:=xn f (n / 2) (max r (n % 2)) h1
     omega
section
variable {P:Program} {w:World} {B:Around} {F:Value->Shared->Prop} {κ:SortKind} {it:Array Keyed} {z:Shared}
theorem Xv {n:Nat} {R:Nat->Shared->Prop} (hc:∀i,1<=i->i < n->∀C:Bool->Shared->Prop,C false z->kas_cmp P w B κ it i (i - 1) C z) (hR:R n z):
   ∀(f a:Nat),1<=a->a+f=n->(kas_asc (List.toArray (List.range n)) f a).kasWp (kas_cmp P w B κ it) R z
 | 0,a,_,e=>by
   have e':a=n:=by omega
   subst e'
   exact hR
 | f+1,a,h1,e=>by
   have g:∀i,i < n->(List.toArray (List.range n)).getD i 0=i:=λi hi=>by simp [Array.getD,hi]
   show kas_cmp P w B κ it ((List.toArray (List.range n)).getD a 0) ((List.toArray (List.range n)).getD (a - 1) 0) _ z
   rw[g a (by omega),g (a - 1) (by omega)]
   refine hc a h1 (by omega) _ ?_
   show KasT.kasWp _ (if false=true then _ else _) R z
   rw[if_neg Bool.false_ne_true]
   exact Xv hc hR f (a+1) (by omega) (by omega)
theorem V6 {n:Nat} {Q:Unit->SortSt->Shared->Prop} (h2:2<=n) (hc:∀i,1<=i->i < n->∀C:Bool->Shared->Prop,C false z->kas_cmp P w B κ it i (i - 1) C z)
   (hQ:∀st,arrOf st=(List.toArray (List.range n)).map (kas_item it)->failedOf st=none->Q () st z):kasC (model P w) B F sortRuns' Q (kas_st κ it (List.toArray (List.range n))) z:=by
 obtain⟨r,rfl⟩:∃r,n=r+2:=⟨n - 2,by omega⟩
 have sz:(List.toArray (List.range (r+2))).size=r+2:=by simp
 have sa:(arrOf (kas_st κ it (List.toArray (List.range (r+2))))).size=r+2:=(Array.size_map ..).trans sz
 have le:=xn (r+2) (r+2) 0 (by decide)
 rw[sortRuns'_eq]
 refine kasC_bind (kasC_get ?_)
 dsimp only
 rw[sa]
 generalize minRun' (r+2) (r+2) 0=M at le
 refine kasC_bind (kasC_range (show kasC _ _ _ (forIn (0::1::List.range' 2 r) _ _) _ _ _ from kasC_cons ?_))
 dsimp only
 rw[if_neg (by omega)]
 simp only[Nat.sub_zero,Nat.zero_add]
 refine kasC_bind (kas_count_ (G:=λq z'=>q=(r+2,List.toArray (List.range (r+2)))/\z'=z) (by omega) (by rw[sz];exact Nat.le_refl _) (λm p' z' _ _ _ hg=>?_) ?_)
 . obtain⟨e,rfl⟩:=hg
   cases e
   dsimp only
   rw[if_neg (by omega)]
   refine kasC_bind (kasC_get ?_)
   rw[show (pendingOf (kas_st κ it (List.toArray (List.range (r+2))))).back?=none from rfl]
   dsimp only
   refine kasC_bind (kasC_modify (kasC_pure (show kasC _ _ _ (forIn (1::List.range' 2 r) _ _) _ _ _ from kasC_cons ?_)))
   dsimp only
   rw[if_pos (Nat.le_refl _)]
   refine kasC_pure ?_
   dsimp only
   refine kasC_bind (kasC_range (show kasC _ _ _ (forIn (0::1::List.range' 2 r) _ _) _ _ _ from kasC_cons (kasC_bind (kasC_get ?_))))
   rw[if_pos (show (pendingOf (setPending (kas_st κ it (List.toArray (List.range (r+2)))) ((pendingOf (kas_st κ it (List.toArray (List.range (r+2))))).push (0,r+2,0)))).size<=1 from Nat.le_refl 1)]
   refine kasC_pure ?_
   dsimp only
   exact kasC_pure (hQ _ rfl rfl)
 . unfold kas_count
   rw[KasT.kasWp_bind]
   refine Xv hc ?_ _ 1 (Nat.le_refl 1) (by omega)
   rw[if_pos (beq_self_eq_true _)]
   exact⟨rfl,rfl⟩
end
def Jd (h:Heap) (v:Value) (k:Int×Int):Prop:=∃p o n t u,v=.ref p/\h.get? p=some o/\o.cls=.type "tuple"/\o.data=.seq #[.int k.1 t,.int k.2 u] n
def zJ (a b:Int×Int):Prop:=a.1 < b.1\/(a.1=b.1/\a.2 < b.2)
section
variable {P:Program} {w:World} {B:Around} {F:Value->Shared->Prop} {z:Shared}
theorem Xx {v u:Value} {a b:Int×Int} (hv:Jd z.heap v b) (hu:Jd z.heap u a) (hlt:zJ a b) {C:Bool->Shared->Prop} (hC:C false z):wpAny (model P w) B (keyLt' (tuples' true) v u) C (λ_ _=>False) z:=by
 obtain⟨p,o,n,t1,t2,rfl,h1,_,d1⟩:=hv
 obtain⟨p',o',n',t1',t2',rfl,h1',_,d1'⟩:=hu
 refine kat_lt h1 d1 h1' d1' ?_
 show KatLex P w B true _ C [(.int b.1 t1,.int a.1 t1'),(.int b.2 t2,.int a.2 t2')] 0 z
 refine kat_cons (SeqAt.EqAt.int_int b.1 t1 a.1 t1' P w _ _ ?_)
 rcases hlt with h | ⟨h,h'⟩
 . have e:(b.1==a.1)=false:=by
     rw[beq_eq_false_iff_ne]
     omega
   rw[e]
   refine kat_no (show wpAny _ _ (oneLt' true _ _) _ _ _ from oneLt_int ?_)
   rw[decide_eq_false (by omega)]
   exact hC
 . have e:(b.1==a.1)=true:=by rw[h];exact beq_self_eq_true _
   rw[e]
   refine kat_yes (kat_cons (SeqAt.EqAt.int_int b.2 t2 a.2 t2' P w _ _ ?_))
   have e2:(b.2==a.2)=false:=by
     rw[beq_eq_false_iff_ne]
     omega
   rw[e2]
   refine kat_no (show wpAny _ _ (oneLt' false _ _) _ _ _ from kat_one _ _ (lt_int ?_))
   show C (decide (b.2 < a.2)) z
   rw[decide_eq_false (by omega)]
   exact hC
theorem Jd.keep {h h':Heap} {v:Value} {k:Int×Int} (x:Jd h v k) (kp:∀b o,h.get? b=some o->o.cls=.type "tuple"->h'.get? b=some o):Jd h' v k:=by
 obtain⟨p,o,n,t,u,e,h1,c,d⟩:=x
 exact⟨p,o,n,t,u,e,kp p o h1 c,c,d⟩
theorem Yi (vs:List Value):(pairsOf vs).map (·.2)=vs.toArray:=by
 apply Array.ext'
 rw[Array.toList_map,pairsOf_toList,List.map_snd_zip (Nat.le_refl _)]
theorem WR {h:Heap}:∀(vs:List Value) (ks:List (Int×Int)),vs.length=ks.length->(∀(i:Nat) (v:Value) (k:Int×Int),vs[i]?=some v->ks[i]?=some k->Jd h v k)->∃fs,KatTups h vs fs/\fs.length=vs.length/\∀v∈fs,∃i t,v=Value.int i t
 | [],_,_,_=>⟨[],.nil,rfl,λv hv=>(nomatch hv)⟩
 | v::vs,[],hl,_=>by cases hl
 | v::vs,k::ks,hl,hv=>by
   obtain⟨fs,tf,lf,hf⟩:=WR vs ks (Nat.succ.inj hl) λi u q e1 e2=>hv (i+1) u q (by simpa using e1) (by simpa using e2)
   obtain⟨p,o,n,t,u,rfl,h1,c,d⟩:=hv 0 v k rfl rfl
   refine⟨.int k.1 t::fs,.cons h1 c d rfl tf,by simp [lf],λx hx=>?_⟩
   rcases List.mem_cons.mp hx with e | hx
   . exact⟨_,_,e⟩
   . exact hf x hx
theorem VU {a:Addr} {vs:List Value} {ks:List (Int×Int)} {n:Nat} {R:PySem.Fin->Shared->Prop} (ho:z.heap.get? a=some (seqObj "list" vs.toArray n)) (hl:vs.length=ks.length) (hv:∀(i:Nat) (v:Value) (k:Int×Int),vs[i]?=some v->ks[i]?=some k->Jd z.heap v k)
   (hr:∀(i:Nat) (k k':Int×Int),ks[i]?=some k->ks[i+1]?=some k'->zJ k k') (hz:vs.length<=100000)
   (k:R (.done (.ret .none)) {z with heap:=sortedHeap z.heap a vs vs.toArray}):wpAny (model P w) B (Builtin.«list.sort» ⟨[.ref a],[]⟩) R F z:=by
 have na:∀b o,z.heap.get? b=some o->o.cls=.type "tuple"->b≠a:=λb o e c q=>by
   rw[q,ho]at e
   cases e
   exact absurd c (show ¬Value.type "list"=Value.type "tuple" by decide)
 rw[list_sort_plain]
 refine wpAny_bind (listItems_at ho rfl (wpAny_bind (listUpdate_at ho rfl ?_)))
 obtain⟨c1,o1⟩:∃c,(z.heap.update a (Obj.mapSeq λ_=>#[])).get? a=some (seqObj "list" #[] c):=⟨_,get?_update_seq ho (λ_=>#[])⟩
 refine wpAny_bind (seqEpoch_at o1 rfl (wpAny_bind (wpAny_newTuple (wpAny_bind (wpAny_newList (wpAny_holding ?_))))))
 have lt:=Heap.lt_size ho
 have o2:(((z.heap.update a (Obj.mapSeq λ_=>#[])).push (seqObj "tuple" vs.toArray 0)).push (seqObj "list" #[] 0)).get? a=some (seqObj "list" #[] c1):=Heap.get?_push_of_some _ (Heap.get?_push_of_some _ o1)
 have kp:∀b o,z.heap.get? b=some o->o.cls=.type "tuple"->(((z.heap.update a (Obj.mapSeq λ_=>#[])).push (seqObj "tuple" vs.toArray 0)).push (seqObj "list" #[] 0)).get? b=some o:=λb o e c=>
   Heap.get?_push_of_some _ (Heap.get?_push_of_some _ ((Heap.get?_update_other _ _ (Ne.symm (na b o e c))).trans e))
 show wpAny (model P w) B _ R F {z with heap:=((z.heap.update a (Obj.mapSeq λ_=>#[])).push (seqObj "tuple" vs.toArray 0)).push (seqObj "list" #[] 0)}
 dsimp only
 have sv:vs.toArray.size=vs.length:=by simp
 have ends:∀st:SortSt,(arrOf st).map (·.2)=vs.toArray->failedOf st=none->wpAny (model P w) B (do
     let touched:=(<-seqEpoch a) != c1
     Builtin.List.listUpdate (.ref a) λ_=>(arrOf st).map (·.2)
     if let some e:=failedOf st then rule "list.sort.comparison-raised";throw e
     if touched then rule "list.sort.modified";raiseError "ValueError" "list modified during sort"
     ret .none) R F {z with heap:=((z.heap.update a (Obj.mapSeq λ_=>#[])).push (seqObj "tuple" vs.toArray 0)).push (seqObj "list" #[] 0)}:=λst e f=>by
   refine wpAny_bind (seqEpoch_at o2 rfl ?_)
   rw[e,f]
   refine wpAny_bind (listUpdate_at o2 rfl ?_ (hsz2:=by rw[sv,sizeLine_eq];omega))
   simp only[bne_self_eq_false,Bool.false_eq_true,if_false]
   exact wpAny_pure k
 by_cases h2:vs.toArray.size < 2
 . rw[if_pos h2,if_pos h2]
   refine wpAny_bind (wpAny_pure ?_)
   rw[StateT.run_pure]
   refine wpAny_bind (wpAny_pure ?_)
   exact ends (SortSt.mk' general' (vs.toArray.zip vs.toArray) #[] 7 none) (Yi vs) rfl
 . rw[if_neg h2,if_neg h2]
   have l2:2<=vs.length:=by omega
   have hv':∀(i:Nat) (v:Value) (q:Int×Int),vs[i]?=some v->ks[i]?=some q->Jd (((z.heap.update a (Obj.mapSeq λ_=>#[])).push (seqObj "tuple" vs.toArray 0)).push (seqObj "list" #[] 0)) v q:=λi v q e1 e2=>(hv i v q e1 e2).keep kp
   obtain⟨fs,tf,lf,hf⟩:=WR vs ks hl hv'
   refine wpAny_bind (kat_kind (T:=.type "int") tf (by omega) (λv q=>?_) rfl ?_)
   . obtain⟨i,t,rfl⟩:=hf v q
     exact Looks.of_pure rfl
   . have e:vs.toArray.zip vs.toArray=(List.toArray (List.range vs.length)).map (kas_item (pairsOf vs)):=by
       have:=kas_range (pairsOf vs)
       rw[pairsOf_size]at this
       exact this.symm
     rw[e]
     have run:kasC (model P w) B F sortRuns' (λ_ st z'=>z'={z with heap:=((z.heap.update a (Obj.mapSeq λ_=>#[])).push (seqObj "tuple" vs.toArray 0)).push (seqObj "list" #[] 0)}/\(arrOf st).map (·.2)=vs.toArray/\failedOf st=none)
         (kas_st (tuples' true) (pairsOf vs) (List.toArray (List.range vs.length))) {z with heap:=((z.heap.update a (Obj.mapSeq λ_=>#[])).push (seqObj "tuple" vs.toArray 0)).push (seqObj "list" #[] 0)}:=by
       refine V6 l2 (λi i1 i2 C hC=>?_) λst e1 e2=>⟨rfl,by rw[e1,<-e];exact Yi vs,e2⟩
       unfold kas_cmp
       rw[kas_item_eq,kas_item_eq]
       have g:∀j,j < vs.length->vs[j]?=some (vs.getD j Value.none):=λj hj=>by simp [hj]
       have gk:∀j,j < vs.length->∃q,ks[j]?=some q:=λj hj=>⟨_,List.getElem?_eq_getElem (by omega)⟩
       obtain⟨q1,eq1⟩:=gk i i2
       obtain⟨q0,eq0⟩:=gk (i - 1) (by omega)
       have eq1':ks[i - 1+1]?=some q1:=by rw[show i - 1+1=i by omega];exact eq1
       exact Xx (hv' i _ q1 (g i i2) eq1) (hv' (i - 1) _ q0 (g (i - 1) (by omega)) eq0) (hr (i - 1) q0 q1 eq0 eq1') hC
     refine wpAny_bind (wpAny_mono run (λr z' h3=>?_) λ_ _ x=>x)
     obtain⟨⟨⟩,st⟩:=r
     obtain⟨rfl,e1,e2⟩:=h3
     exact ends st e1 e2
end
end L2
set_option Elab.async false
set_option linter.all false
set_option maxRecDepth 100000
set_option maxHeartbeats 4000000
namespace PySem
def RawD (h:Heap) (d:Addr) (es:Array DictEntry) (ep:Nat):Prop:=∃o,h.get? d=some o/\o.ExactDict/\o.data=.dict es ep
theorem RawD.keep {h h':Heap} {d:Addr} {es:Array DictEntry} {ep:Nat} (x:RawD h d es ep) (k:∀o,h.get? d=some o->h'.get? d=some o):RawD h' d es ep:=let ⟨o,e,r⟩:=x;⟨o,k o e,r⟩
section
variable {P:Program} {w:World} {B:Around} {F':Value->Shared->Prop} {z:Shared} {d I:Addr} {es:Array DictEntry} {ep i:Nat}
theorem RawD.ty (x:RawD z.heap d es ep):z.TypeIs (.ref d) "dict":=let ⟨o,e,c,_⟩:=x;⟨o,e,c.1⟩
theorem vn {R:Value->Shared->Prop} (hd:(d==sysModules)=false) (x:RawD z.heap d es ep)
   (k:R (.ref z.heap.objs.size) {z with heap:=z.heap.push {cls:=.type "dict_keyiterator",data:=.fields #[.ref d,.int 0 0,.int es.size 0,.int ep 0]}}):wpAny (model P w) B (pyIter (.ref d)) R F' z:=by
 have ty:=x.ty
 obtain⟨o,ho,_,dat⟩:=x
 refine wpAny_pyIter_slot ty F.slot_dict_iter (wpAny_call_entry F.slot_dict_iter ty F.entry_dict_iter ?_ (F.args_dict_iter_1 _))
 unfold Builtin.«dict.__iter__»
 refine wpAny_bind (show wpAny _ _ (Builtin.Dict.dictSlotNone _ _) _ _ _ from ?_)
 unfold Builtin.Dict.dictSlotNone
 refine wpAny_bind (wpAny_notOrdered_dict ty (show wpAny _ _ (pure (Value.ref d)) _ _ z from wpAny_pure ?_))
 refine(show wpAny _ _ (Builtin.Dict.showsAll d >>= _) _ _ z from ?_)
 unfold Builtin.Dict.showsAll
 rw[if_neg (by rw[hd];exact Bool.false_ne_true)]
 refine wpAny_bind (wpAny_pure (wpAny_bind (wpAny_dictEntries ho dat (wpAny_bind (wpAny_dictEpoch ho dat ?_)))))
 exact wpAny_bind (wpAny_newObj_type (wpAny_pure ⟨_,rfl,"dict_keyiterator",_,⟨_,Heap.get?_push_size _ rfl,rfl⟩,F.slot_dict_keyiterator_next.lookup,by simpa [rawInt] using k⟩))
theorem vm {R:Option Value->Shared->Prop} (hit:z.heap.IsKeyIter I d i es.size ep) (x:RawD z.heap d es ep) (hi:i < es.size)
   (k:∀h',h'.IsKeyIter I d (i+1) es.size ep->Heap.SameBut I z.heap h'->R (some es[i].key) {z with heap:=h'}):wpAny (model P w) B (pyNext (.ref I)) R F' z:=by
 obtain⟨o,ho,hc,hd⟩:=id hit
 obtain⟨od,hod,_,dat⟩:=x
 have ty:=hit.typeIs
 unfold pyNext
 refine wpAny_bind (wpAny_attempt (wpAny_callSpecial?_slot (name:=Str.ofString "__next__") ty F.slot_dict_keyiterator_next (wpAny_call_entry F.slot_dict_keyiterator_next ty F.entry_dict_keyiterator_next ?_ (F.args_dict_keyiterator_next_1 _))))
 refine wpAny_bind (wpAny_pure (wpAny_bind (wpAny_bind (wpAny_bind ?_))))
 first | refine wpAny_typeNameOfWhole_keyiter ty (wpAny_pure (wpAny_bind (wpAny_fieldsOf ho hd ?_))) | refine wpAny_typeNameOf_keyiter ty (wpAny_pure (wpAny_bind (wpAny_fieldsOf ho hd ?_)))
 have own:Builtin.Dict_items.ownsTuple "dict_keyiterator"=false:=by decide
 simp only[own,Bool.false_eq_true,if_false]
 show wpAny _ _ (if (Value.ref d==Value.none)=true then _ else _) _ _ z
 rw[if_neg (show ¬((Value.ref d==Value.none)=true) from Bool.false_ne_true)]
 refine wpAny_bind (wpAny_pure (wpAny_bind (wpAny_dictEntries hod dat ?_)))
 rw[if_neg (by simp)]
 refine wpAny_bind (wpAny_pure (wpAny_bind (wpAny_dictEpoch hod dat ?_)))
 rw[if_neg (by simp)]
 refine wpAny_pure ?_
 simp only[show ¬((i:Int) < 0) from by omega,if_false,Int.toNat_natCast,Array.getElem?_eq_getElem hi]
 refine wpAny_bind (wpAny_bind ?_)
 first | refine wpAny_typeNameOfWhole_keyiter ty (wpAny_pure (wpAny_bind (wpAny_isOneOf_keyiter ty ?_))) | refine wpAny_typeNameOf_keyiter ty (wpAny_pure (wpAny_bind (wpAny_isOneOf_keyiter ty ?_)))
 refine(show wpAny _ _ (setField (.ref I) 1 (rawInt ((i:Int)+1)) >>= _) _ _ z from wpAny_bind (wpAny_setField ho hd (by simp) ?_))
 have hit':(z.heap.update I (Obj.mapFields (·.setIfInBounds 1 (rawInt ((i:Int)+1))))).IsKeyIter I d (i+1) es.size ep:=
   ⟨_,Heap.get?_update_self _ ho (Obj.isFreed_of_fields (Obj.data_mapFields hd _)),(Obj.cls_mapFields ..).trans hc,by rw[Obj.data_mapFields hd];simp [rawInt]⟩
 refine wpAny_bind (wpAny_holding (wpAny_bind (wpAny_isOneOf_keyiter (s:={z with heap:=z.heap.update I (Obj.mapFields (·.setIfInBounds 1 (rawInt ((i:Int)+1))))}) hit'.typeIs ?_)))
 refine(show wpAny _ _ (pure es[i].key) _ _ _ from wpAny_pure (wpAny_pure ⟨_,rfl,wpAny_pure (k _ hit' (Heap.SameBut.update ..))⟩))
theorem yd {R:Option Value->Shared->Prop} (hB:B.handled=none) (hit:z.heap.IsKeyIter I d i es.size ep) (x:RawD z.heap d es ep) (hi:es.size<=i)
   (k:∀h',Heap.ExtBut I z.heap h'->R none {z with heap:=h'}):wpAny (model P w) B (pyNext (.ref I)) R F' z:=by
 obtain⟨o,ho,hc,hd⟩:=id hit
 obtain⟨od,hod,_,dat⟩:=x
 have ty:=hit.typeIs
 unfold pyNext
 refine wpAny_bind (wpAny_attempt (wpAny_callSpecial?_slot (name:=Str.ofString "__next__") ty F.slot_dict_keyiterator_next (wpAny_call_entry F.slot_dict_keyiterator_next ty F.entry_dict_keyiterator_next ?_ (F.args_dict_keyiterator_next_1 _))))
 refine wpAny_bind (wpAny_pure (wpAny_bind (wpAny_bind (wpAny_bind ?_))))
 first | refine wpAny_typeNameOfWhole_keyiter ty (wpAny_pure (wpAny_bind (wpAny_fieldsOf ho hd ?_))) | refine wpAny_typeNameOf_keyiter ty (wpAny_pure (wpAny_bind (wpAny_fieldsOf ho hd ?_)))
 have own:Builtin.Dict_items.ownsTuple "dict_keyiterator"=false:=by decide
 simp only[own,Bool.false_eq_true,if_false]
 show wpAny _ _ (if (Value.ref d==Value.none)=true then _ else _) _ _ z
 rw[if_neg (show ¬((Value.ref d==Value.none)=true) from Bool.false_ne_true)]
 refine wpAny_bind (wpAny_pure (wpAny_bind (wpAny_dictEntries hod dat ?_)))
 rw[if_neg (by simp)]
 refine wpAny_bind (wpAny_pure (wpAny_bind (wpAny_dictEpoch hod dat ?_)))
 rw[if_neg (by simp)]
 refine wpAny_pure ?_
 simp only[show ¬((i:Int) < 0) from by omega,if_false,Int.toNat_natCast,Array.getElem?_eq_none hi]
 refine wpAny_bind (wpAny_bind ?_)
 first | refine wpAny_typeNameOfWhole_keyiter ty (wpAny_pure ?_) | refine wpAny_typeNameOf_keyiter ty (wpAny_pure ?_)
 refine(show wpAny _ _ (setField (.ref I) 0 .none >>= _) _ _ z from wpAny_bind (wpAny_setField ho hd (by simp) ?_))
 refine(show wpAny _ _ (newExc (.type "StopIteration") [] >>= _) _ _ _ from wpAny_bind ?_)
 simp only[newExc,newTuple]
 refine wpAny_bind (wpAny_newObj_type (wpAny_bind (m:=firstArgMember _ _) (wpAny_of_eq (a:=Value.none) (by first | rfl | (simp only[firstArgMember];rfl)) (wpAny_newObj_type ?_ (by size_fits)))) (by size_fits))
 simp only[raiseNew]
 refine wpAny_bind (wpAny_handled ?_)
 rw[show B.in1.handled=none from hB]
 refine wpAny_bind (wpAny_pure (wpAny_throw ?_))
 refine wpAny_bind (wpAny_isInstance (T:="StopIteration") (b:=true) ⟨_,Heap.get?_push_size _ rfl,rfl⟩ isSubtype_stop ?_)
 exact wpAny_pure (k _ ((((Heap.SameBut.update ..).extBut).push _).push _))
end
end PySem
namespace PySem
open PySem.W
section
variable {P:Program} {w:World} {d:Addr} {es:Array DictEntry} {ep:Nat}
theorem V7 {B:Around} (hB:B.handled=none) (I:Addr) (hne:d≠I):Walks P w B I [I,d] [I] es.size (λi v=>∃h:i < es.size,v=es[i].key) (λi h=>h.IsKeyIter I d i es.size ep/\RawD h d es ep) where
 sub:=λb hb=>by simp at hb;simp [hb]
 frame:=λ_ _ _ st k=>⟨st.1.at λo e=>k I (by simp) o e,st.2.keep λo e=>k d (by simp) o e⟩
 item:=λi z R G hi st q=>vm st.1 st.2 hi λh' it' sb=>q _ h' z.toks ⟨hi,rfl⟩ ⟨it',st.2.keep λo e=>sb.extBut d o hne e⟩ λb o hb e=>sb.extBut b o (λx=>hb (by simp [x])) e
 done:=λz R G st q=>yd hB st.1 st.2 (Nat.le_refl _) λh' eb=>q h' z.toks λb o hb e=>eb b o (λx=>hb (by simp [x])) e
 self:=λ_ _ _ _ st q=>wpAny_pyIter_keyiter st.1 q
theorem yc (hd:(d==sysModules)=false):KdlSrc P w "dict" d d es.size (λi v=>∃h:i < es.size,v=es[i].key) (λh=>RawD h d es ep) where
 type:=λz x=>x.ty
 there:=λh x=>let ⟨o,e,_⟩:=x;⟨Heap.lt_size e,Heap.lt_size e⟩
 keep:=λh h' x k=>x.keep λo e=>k d (.inl rfl) o e
 notList:=by decide
 notTuple:=by decide
 hint:=λ_ _ _ _ x q=>kdl_hint_dict x.ty q
 iter:=λA z hh x=>⟨_,_,λE Q q=>vn hd x q,V7 hh _ (let ⟨o,e,_⟩:=x;Nat.ne_of_lt (Heap.lt_size e)),⟨⟨_,Heap.get?_push_size _ rfl,rfl,rfl⟩,x.keep λo e=>Heap.get?_push_of_some _ e⟩⟩
end
end PySem
namespace L2
open PySem PySem.Spec PySem.W PyProof.Rows
theorem zB {α β:Type} {G:α->β->Prop}:∀{l:List α} {m:List β},Paired G l m->∀{i:Nat} {a:α},l[i]?=some a->∃b,m[i]?=some b/\G a b
 | _,_,.nil,i,a,e=>by simp at e
 | _,_,.cons r t,0,a,e=>by cases e;exact⟨_,rfl,r⟩
 | _,_,.cons r t,i+1,a,e=>by
   obtain⟨b,eb,g⟩:=zB t (by simpa using e)
   exact⟨b,by simpa using eb,g⟩
section
variable {X:Cx}
def ZT (k:Int×Int):List qW:=[Sum.inl k.1,Sum.inl k.2]
def xR:List V->Hp->VK->Prop:=λxs H Q=>∃(a:Addr) (kvs:List (List qW×V)) (ks:List (Int×Int)),xs=[.ref a]/\H a=some (.dT kvs)/\kvs.map (·.1)=ks.map ZT/\(∀(i:Nat) (k k':Int×Int),ks[i]?=some k->ks[i+1]?=some k'->zJ k k')/\kvs.length<=1000/\
 ∀(l:Addr) (ps:List Addr),H l=none->ps.length=ks.length->(∀(i:Nat) (p:Addr) (k:Int×Int),ps[i]?=some p->ks[i]?=some k->H p=some (.tup [.int k.1,.int k.2]))->Q (.ref l) (upd H l (.lst (ps.map V.ref)))
theorem Xf:∀(ps:List Addr),qI (ps.map V.ref) (ps.map Value.ref)
 | []=>.nil
 | p::ps=>.cons rfl (Xf ps)
theorem WD (hc:X.calm=true):jW X (.builtin "sorted") xR:=by
 intro pins s σ H xs us Q I r h
 obtain⟨a,kvs,ks,rfl,ea,eks,hr,hz,q⟩:=h
 obtain⟨u,rfl,ru⟩:=Qo r
 cases ru
 obtain⟨_,hsys,ys,pr,o,es,ep,eo,ex,dat,ents,_⟩:=(show qJ X.prog X.w H s.heap a (.dT kvs) from I.hok a _ ea)
 have ly:kvs.length=ys.length:=Paired.length pr
 have lk:kvs.length=ks.length:=by simpa using congrArg List.length eks
 have se:es.size=ys.length:=by rw[<-Array.length_toList,ents,List.length_map]
 have key:∀i (hi:i < es.size),es[i].key=.ref ((ys.map (·.2.1)).getD i 0):=λi hi=>by
   have e1:es.toList[i]?=some es[i]:=by simp [hi]
   have hy:i < ys.length:=by omega
   rw[ents,List.getElem?_map,List.getElem?_eq_getElem hy]at e1
   have e2:=(Option.some.inj e1).symm
   rw[e2]
   show Value.ref ys[i].2.1=_
   simp [hy]
 have tup:∀(i:Nat) (p:Addr) (k:Int×Int),(ys.map (·.2.1))[i]?=some p->ks[i]?=some k->H p=some (.tup [.int k.1,.int k.2]):=λi p k e1 e2=>by
   rw[List.getElem?_map]at e1
   cases ey:ys[i]? with
   | none=>rw[ey]at e1;cases e1
   | some y=>
     rw[ey]at e1
     have ep':y.2.1=p:=Option.some.inj e1
     have hi:i < kvs.length:=by
       have:=(List.getElem?_eq_some_iff.mp ey).1
       omega
     obtain⟨y',ey',g1,g2,_⟩:=zB pr (List.getElem?_eq_getElem hi)
     rw[ey]at ey'
     cases ey'
     have ek:kvs[i].1=ZT k:=by
       have h1:(kvs.map (·.1))[i]?=some kvs[i].1:=by rw[List.getElem?_map,List.getElem?_eq_getElem hi];rfl
       rw[eks,List.getElem?_map,e2]at h1
       exact(Option.some.inj h1).symm
     rw[ek,ep']at g2
     exact g2
 have hh:X.A.in1.handled=none:=I.ok.hd hc
 refine Calls.call_function_entry kind_sorted plain_sorted entry_sorted (args_sorted1 _) ?_
 unfold Builtin.«sorted»
 refine wpAny_bind (m:=checkCount "sorted" 1 1 _) (wpAny_pure ?_)
 refine wpAny_bind (kdu_collect (yc (es:=es) (ep:=ep) hsys) hh ⟨o,eo,ex,dat⟩ (by rw[se,sizeLine_eq];omega) λh1 tk acc k1 it=>?_)
 have eacc:acc.toList=(ys.map (·.2.1)).map Value.ref:=by
   refine List.ext_getElem? λi=>?_
   by_cases hi:i < es.size
   . have ha:i < acc.size:=by rw[it.1];exact hi
     have e1:acc[i]?=some acc[i]:=Array.getElem?_eq_getElem ha
     obtain⟨h',e2⟩:=it.2 i _ e1
     rw[Array.getElem?_toList,e1,e2,key i hi,List.getElem?_map]
     have hy:i < (ys.map (·.2.1)).length:=by rw[List.length_map];omega
     rw[List.getElem?_eq_getElem hy]
     simp [List.getD_eq_getElem?_getD,List.getElem?_eq_getElem hy]
   . rw[List.getElem?_eq_none (by rw[Array.length_toList,it.1];omega),List.getElem?_eq_none (by rw[List.length_map,List.length_map];omega)]
 rw[eacc]
 generalize hps:ys.map (·.2.1)=ps at eacc tup key
 have lp:ps.length=ks.length:=by rw[<-hps,List.length_map];omega
 refine wpAny_bind (wpAny_newList ?_)
 have I1:qx X pins σ H {s with heap:=h1,toks:=tk}:=I.kept (t':=tk) k1
 show wpAny _ _ _ _ _ {s with heap:=h1.push (seqObj "list" (ps.map Value.ref).toArray 0),toks:=tk}
 have oL:(h1.push (seqObj "list" (ps.map Value.ref).toArray 0)).get? h1.objs.size=some (seqObj "list" (ps.map Value.ref).toArray 0):=Heap.get?_push_size _ rfl
 have pa:∀(i:Nat) (v:Value) (k:Int×Int),(ps.map Value.ref)[i]?=some v->ks[i]?=some k->Jd (h1.push (seqObj "list" (ps.map Value.ref).toArray 0)) v k:=λi v k e1 e2=>by
   rw[List.getElem?_map]at e1
   cases ep1:ps[i]? with
   | none=>rw[ep1]at e1;cases e1
   | some p=>
     rw[ep1]at e1
     obtain rfl:=(Option.some.inj e1).symm
     obtain⟨its,rv,⟨ob,eb,cb,nb,db⟩,_⟩:=I1.tuple (.of (tup i p k ep1 e2):SqT X.K H p _)
     cases rv with
     | cons r1 rv=>
       cases rv with
       | cons r2 rv=>
         cases rv
         obtain⟨t1,rfl⟩:=r1
         obtain⟨t2,rfl⟩:=r2
         exact⟨p,ob,nb,t1,t2,rfl,Heap.get?_push_of_some _ eb,cb,db⟩
 refine wpAny_bind (wpAny_holding (wpAny_call_entry slot_list_sort ⟨_,oL,rfl⟩ entry_list_sort (VU oL (by rw[List.length_map];exact lp) pa hr (by rw[List.length_map];omega) ⟨_,rfl,?_⟩) (args_list_sort _)))
 refine wpAny_pure ⟨_,rfl,?_⟩
 have lne:∀b o,h1.get? b=some o->b≠h1.objs.size:=λb o e=>Nat.ne_of_lt (Heap.lt_size e)
 have kf:∀b o,h1.get? b=some o->(sortedHeap (h1.push (seqObj "list" (ps.map Value.ref).toArray 0)) h1.objs.size (ps.map Value.ref) (ps.map Value.ref).toArray).get? b=some o:=λb o e=>by
   unfold sortedHeap
   rw[Heap.get?_update_other _ _ (Ne.symm (lne b o e))]
   exact Heap.get?_push_of_some _ (Heap.get?_push_of_some _ ((Heap.get?_update_other _ _ (Ne.symm (lne b o e))).trans (Heap.get?_push_of_some _ e)))
 obtain⟨c2,o2⟩:∃c,((h1.push (seqObj "list" (ps.map Value.ref).toArray 0)).update h1.objs.size (Obj.mapSeq λ_=>#[])).get? h1.objs.size=some (seqObj "list" #[] c):=⟨_,get?_update_seq oL (λ_=>#[])⟩
 obtain⟨c3,o3⟩:∃c,(sortedHeap (h1.push (seqObj "list" (ps.map Value.ref).toArray 0)) h1.objs.size (ps.map Value.ref) (ps.map Value.ref).toArray).get? h1.objs.size=some (seqObj "list" (ps.map Value.ref).toArray c):=
   ⟨_,get?_update_seq (Heap.get?_push_of_some _ (Heap.get?_push_of_some _ o2)) (λ_=>(ps.map Value.ref).toArray)⟩
 refine⟨.ref h1.objs.size,_,I1.laid (t':=tk) (o:=.lst (ps.map V.ref)) kf (Nat.le_refl _) ⟨by rw[List.length_map,lp,<-lk];exact Nat.le_of_lt (qp hz),_,c3,Xf ps,o3⟩,rfl,?_⟩
 exact q _ ps (I1.hok.fresh (Nat.le_refl _)) lp tup
end
end L2
set_option Elab.async false
set_option linter.all false
set_option maxRecDepth 100000
set_option maxHeartbeats 4000000
namespace L2
open PySem PySem.Spec PySem.W PyProof.Rows
section
variable {X:Cx}
def K0:V->Option Int->Option Int->Hp->VK->Prop:=λx lo hi H Q=>∃(z:Str) (j:Int),x=.str z/\lo=none/\hi=some j/\z.length<=1000/\Q (.str (Txt.slice z none (some j))) H
theorem Wd:Kk X K0:=by
 intro pins s σ H x v vl vu lo hi sl Q I rx hs pl pu h
 obtain⟨z,j,rfl,rfl,rfl,hz,q⟩:=h
 obtain⟨t,rfl⟩:=rx
 refine⟨"str",_,PySem.F.slot_str_getitem.lookup,typeIs_str _ _ _,?_⟩
 cases pl
 cases pu
 exact wpAny_getItem_str_slice (l:=none) (u:=some (j,_)) (st:=none) hs rfl (post_val_or_str ⟨Nat.le_trans (Txt.slice_le z none (some j)) (Nat.le_of_lt (qp hz)),λt' k=>⟨.str _,H,I.tok k,⟨t',rfl⟩,q⟩⟩)
theorem Q0 (z:Str) (j:Nat):(Txt.slice z none (some (j:Int))).cps.toList=z.cps.toList.take j:=by
 have hl:z.cps.toList.length=z.length:=Array.length_toList
 have idx:Builtin.Str.strSliceIndices none (some (j:Int)) 1 z.length=(List.range (min j z.length)).map (0+·):=by
   have e:Builtin.Str.strSliceIndices none (some (j:Int)) 1 z.length=sliceRange ((0:Nat):Int) ((min j z.length:Nat):Int) 1:=by
     unfold Builtin.Str.strSliceIndices
     simp only[show (1:Int) > 0 by decide,if_true,show ¬((j:Int) < 0) by omega,if_false]
     congr 1
     omega
   rw[e,sliceRange_one]
   rfl
 unfold Txt.slice
 rw[idx]
 split
 . rename_i h
   have hm:min j z.length=z.length:=by simpa using h
   rw[List.take_of_length_le]
   omega
 . rw[pick_run]
   show (z.cps.toList.drop 0).take (min j z.length)=_
   rw[List.drop_zero]
   by_cases hj:j<=z.length
   . rw[Nat.min_eq_left hj]
   . rw[Nat.min_eq_right (by omega),List.take_of_length_le (by omega),List.take_of_length_le (by omega)]
def yW (n:Nat):List V:=(List.range n).map λi=>V.int (i:Nat)
def tLr (te:TE):TE:=λσ H Q=>te σ H λx H1=>∃n:Nat,x=.int n/\n<=1000/\∀l,H1 l=none->Q (.ref l) (upd H1 l (.lst (yW n)))
theorem kP {n:Nat} {acc:Array Value} (h:ItemsOf (λi v=>∃t,v=.int (0+i*1) t) acc n):qI (yW n) acc.toList:=by
 obtain⟨hz,hv⟩:=h
 refine Ua _ _ (by simp [yW,hz]) λi x u h1 h2=>?_
 have h2':acc[i]?=some u:=by simpa using h2
 obtain⟨t,rfl⟩:=hv i u h2'
 have hi:i < n:=by
   have:=(Array.getElem?_eq_some_iff.mp h2').1
   omega
 unfold yW at h1
 rw[List.getElem?_map,List.getElem?_range hi]at h1
 obtain rfl:=(Option.some.inj h1).symm
 refine⟨t,?_⟩
 congr 1
 omega
variable {e:Expr} {te:TE} {p1 p3 pos1 pos3:Pos}
theorem u0 (hc:X.calm=true) (g1:Gl X "list") (m1:X.mg "list"=none) (g3:Gl X "range") (m3:X.mg "range"=none) (ha:JE X e te) (hs:starEach [e] X.env=[(false,eval e X.env)]:=by rfl) (hs2:starEach [.Call (.Name "range" p3) [e] [] pos3] X.env=[(false,eval (.Call (.Name "range" p3) [e] [] pos3) X.env)]:=by rfl):JE X (.Call (.Name "list" p1) [.Call (.Name "range" p3) [e] [] pos3] [] pos1) (tLr te):=.of (by
 have ha:=ha.to
 intro pins s σ H Q I h
 refine Call_ (QJ I g1 m1 boot_list (PyProof.Rows.callWith_type1 (U1 hs2 ?_) (by rw[hs2];rfl) rfl))
 refine Call_ (QJ I g3 m3 boot_range (PyProof.Rows.callWith_type1 (U1 hs (ja (ha pins s σ H _ I h) λu s1 ⟨x,H1,I1,r1,q1⟩=>?_)) (by rw[hs];rfl) rfl))
 obtain⟨n,rfl,hn,q⟩:=q1
 obtain⟨t,rfl⟩:=r1
 refine call_range_1 ?_
 refine call_list_range (n:=n) (I1.ok.hd hc) (IsRange.new ..) (small_one (by omega) (by omega) (by omega) (by omega)) (W8 n) (by omega) λh' tk acc' c' kp e hi=>?_
 have s1z:s1.heap.objs.size<=(s1.heap.push ({cls:=.type "range",data:=.fields #[.int 0 s1.toks,.int n t,.int 1 (s1.toks+1)]}:Obj)).objs.size:=by
   rw[Heap.size_push]
   omega
 exact⟨.ref _,_,I1.laid (t':=tk) (o:=.lst (yW n)) (λb o eb=>kp b o (Heap.get?_push_of_some _ eb)) s1z ⟨by simp only[yW,List.length_map,List.length_range];exact Nat.le_of_lt (qp hn),acc'.toList,c',kP hi,by simpa using e⟩,rfl,q _ (I1.hok.fresh s1z)⟩)
theorem UH (hc:X.calm=true):jW X (.type "set") (λxs H Q=>∃(p:Addr) (ns:List Int),xs=[.ref p]/\SqL X.K H p (ns.map V.int)/\ns.length<=1000/\∀l S,H l=none->Q (.ref l) (upd H l (.set S (firstMet (λi=>ns.getD i 0) ns.length).length))):=by
 intro pins s σ H xs us Q I r h
 obtain⟨p,ns,rfl,hq,hz,q⟩:=h
 obtain⟨u,rfl,ru⟩:=Qo r
 cases ru
 obtain⟨its,rv,pl,_⟩:=I.list hq
 have hl:=rv.length
 rw[List.length_map]at hl
 have hsz:its.toArray.size=ns.length:=by rw[List.size_toArray,<-hl]
 refine call_set_list (ns:=ns) (I.ok.hd hc) pl.isList (by simpa using Wv rv) (by rw[hsz];show ns.length+1 < 4096;omega) λh' tk so kp=>?_
 rw[hsz]at so
 exact⟨.ref s.heap.objs.size,_,I.laid (t':=tk) (o:=.set _ _) (λb o e=>kp b o (Heap.lt_size e) e) (Nat.le_refl _) so,rfl,q _ _ (I.hok.fresh (Nat.le_refl _))⟩
theorem XQ:jW X (.builtin "len") (λxs H Q=>∃a S n,xs=[V.ref a]/\H a=some (.set S n)/\Q (.int (n:Nat)) H):=by
 intro pins s σ H xs us Q I r h
 obtain⟨a,S,n,rfl,ea,q⟩:=h
 obtain⟨u,rfl,ru⟩:=Qo r
 cases ru
 obtain⟨o,es,ep,t,e1,e2,e3,_,_,b,f,rfl⟩:=(show qJ X.prog X.w H s.heap a (.set S n) from I.hok a _ ea)
 refine call_len_set e1 e2 e3 f (by have:es.size < 4096:=b;omega) ⟨.int _,H,I.tok _,⟨_,rfl⟩,q⟩
end
end L2
set_option Elab.async false
set_option linter.all false
set_option maxRecDepth 100000
set_option maxHeartbeats 4000000
namespace L2
open PySem PySem.Spec PyProof.Rows
def Ko (K:PySem.W.Frag) (a:Addr):It:=⟨λi H=>∃xs x,SqL K H a xs/\xs[i]?=some x,
 λi H v H'=>∃p,H p=none/\v=.ref p/\∀xs x,SqL K H a xs->xs[i]?=some x->H'=upd H p (.tup [.int (i:Nat),x]),
 λi H=>∃xs,SqL K H a xs/\xs.length<=i⟩
theorem VO {P:Program} {w:World} {K:PySem.W.Frag} {elts:List Expr} {x1:Nat} {tpos:Pos} (a e it:Addr) (hne:e≠it):
   XU P w K (.Tuple elts x1 tpos) (Ko K a) [e,it] e (λi h=>(∃old,IsEnum h e it i old)/\h.IsListIter it a i) where
 mem:=by simp
 obj:=λi h st c hc=>by
   obtain⟨⟨old,he⟩,⟨o1,e1,c1,d1⟩⟩:=st
   simp only[List.mem_cons,List.mem_nil_iff,or_false]at hc
   rcases hc with rfl | rfl
   . exact⟨_,he,λv z=>by cases z⟩
   . exact⟨o1,e1,λv z=>by rw[d1]at z;cases z⟩
 keep:=λi h h' st k=>by
   obtain⟨⟨old,he⟩,h1⟩:=st
   exact⟨⟨old,k e (by simp) _ he⟩,h1.at λo e=>k it (by simp) o e⟩
 item:=by
   intro X hP hw hK hc i pins s σ H E I hf st hg
   subst hP hw hK
   obtain⟨⟨old,he⟩,h1⟩:=st
   obtain⟨xs,x,qa,hx⟩:=hg
   obtain⟨its,rv,p,_⟩:=I.list qa
   obtain⟨u,hu,ru⟩:=rv.get hx
   refine wpAny_pyNext_enum_item he h1 p.isList (x:=u) (by simpa using hu) hne λh' z1 z2 z3 z4 kk=>⟨_,rfl,?_⟩
   refine wpAny_letOwnedTupleGo_enum z1 λh'' z1' sb=>?_
   have nT:∀c o,s.heap.get? c=some o->s.heap.objs.size≠c:=λc o e=>Nat.ne_of_gt (Heap.lt_size e)
   have kT:∀c o,c≠e->h'.get? c=some o->h''.get? c=some o:=λc o hc e=>(sb.2 c hc).trans e
   have I1:qx X pins σ (upd H s.heap.objs.size (.tup [.int (i:Nat),x])) {s with heap:=h'',toks:=s.toks+1}:=I.turnLaid (L:=[e,it]) (t':=s.toks+1)
     (λc o hc e=>kT c o (λz=>hc (by simp [z])) (kk c o (λz=>hc (by simp [z])) (λz=>hc (by simp [z])) e)) hf (Nat.le_refl _)
     ⟨by show 2<=sizeLine;decide,[.int i s.toks,u],.cons ⟨_,rfl⟩ (.cons ru .nil),⟨_,kT _ _ (nT _ _ he) z3,rfl,_,rfl⟩⟩
   refine⟨.ref s.heap.objs.size,_,I1,rfl,⟨s.heap.objs.size,I.hok.fresh (Nat.le_refl _),rfl,λxs' x' qa' hx'=>?_⟩,⟨⟨_,z1'⟩,z2.at λo e=>kT _ o (Ne.symm hne) e⟩,λc hc=>?_⟩
   . rw[I.list_inj qa' qa,hx]at hx'
     cases hx'
     rfl
   . have h0:=(hf c hc).1
     by_cases ec:c=s.heap.objs.size
     . subst ec
       obtain⟨o1,e1,_⟩:=h1
       simp only[List.mem_cons,List.mem_nil_iff,or_false]at hc
       rcases hc with e | e
       . exact absurd e (nT _ _ he)
       . exact absurd e (nT _ _ e1)
     . rw[qi ec];exact h0
 done:=by
   intro X hP hw hK hc i pins s σ H E I hf st hg
   subst hP hw hK
   obtain⟨⟨old,he⟩,h1⟩:=st
   obtain⟨xs,qa,hl⟩:=hg
   obtain⟨its,rv,p,_⟩:=I.list qa
   have l1:=rv.length
   exact wpAny_pyNext_enum_end (I.ok.hd hc) he h1 p.isList (by simp;omega) λh' kk=>⟨rfl,I.turnedL (L:=[e,it]) (t':=s.toks) (λc o hc e=>kk c o (λz=>hc (by simp [z])) e) hf⟩
 self:=λ_ _ _ _ _ st h=>let ⟨⟨_,he⟩,_⟩:=st;wpAny_pyIter_enum he h
section
variable {X:Cx} {elts:List Expr} {x1:Nat} {tpos:Pos}
def xu (K:PySem.W.Frag) (ta:TA):TI:=λσ H R=>ta σ H λvs H1=>∃a,vs=[.ref a]/\(∃xs,SqL K H1 a xs)/\R (Ko K a) H1
theorem Vm {a:Expr} {ta:TA} {p pos:Pos} (hg:Gl X "enumerate") (hm:X.mg "enumerate"=none) (ha:JA X [a] ta) (hs:starEach [a] X.env=[(false,eval a X.env)]:=by rfl):JI X (.Tuple elts x1 tpos) (.Call (.Name "enumerate" p) [a] [] pos) (xu X.K ta):=.of (by
 have ha:=ha.to
 intro pins s σ H R I h
 refine Call_ (QJ I hg hm boot_enumerate (PyProof.Rows.callWith_type1 (ja (ha pos pins s σ H _ I h) λus s1 ⟨vs,H1,I1,r1,q1⟩=>?_) (by rw[hs];rfl) rfl))
 obtain⟨l,e,⟨xs,qa⟩,q⟩:=q1
 subst e
 cases r1 with
 | cons r rr=>
   cases rr
   cases r
   obtain⟨its,rv,p,_⟩:=I1.list qa
   refine call_enumerate_list p.isList λh' z1 z2 z3 kk=>?_
   refine wpAny_pyIter_enum z1 ?_
   have I2:qx X pins σ H1 {s1 with heap:=h'}:=I1.kept (t':=s1.toks) kk
   have fr:∀c,s1.heap.objs.size<=c->QW X pins H1 c:=λc hc=>I1.fpOk hc (I1.hok.fresh hc)
   refine⟨s1.heap.objs.size+1,[s1.heap.objs.size+1,s1.heap.objs.size],_,_,H1,rfl,I2,VO l (s1.heap.objs.size+1) s1.heap.objs.size (Nat.succ_ne_self _),⟨⟨_,z1⟩,z2⟩,λc hc=>?_,q⟩
   simp only[List.mem_cons,List.mem_nil_iff,or_false]at hc
   rcases hc with e | e<;>rw[e]<;>first | exact fr _ (Nat.le_add_right _ _) | exact fr _ (Nat.le_refl _))
end
theorem zQ {K:PySem.W.Frag} {a:Addr} {xs:List V} {g:TG} {tb:TS} {D:QX} {σ:St} {H:Hp} (Pv:Nat->St->Hp->Prop) (h0:Pv 0 σ H) (hl:∀i σ H,i<=xs.length->Pv i σ H->SqL K H a xs)
   (hs:∀i x σ H p,xs[i]?=some x->H p=none->Pv i σ H->g (.ref p) σ (upd H p (.tup [.int (i:Nat),x])) λσ2 H2=>tb {D with nx:=Pv (i+1),ct:=Pv (i+1),bk:=D.nx} σ2 H2) (hd:∀σ H,Pv xs.length σ H->D.nx σ H):
   ∃W:Nat->Nat->St->Hp->Prop,(∃m,W 0 m σ H)/\∀i m σ H,W i m σ H->
    ((Ko K a).stop i H/\D.nx σ H)\/((Ko K a).go i H/\∃N:St->Hp->Prop,(∀σ' H',N σ' H'->∃m',m' < m/\W (i+1) m' σ' H')/\∀x H',(Ko K a).yld i H x H'->g x σ H' λσ2 H2=>tb {D with nx:=N,ct:=N,bk:=D.nx} σ2 H2):=by
 refine⟨λi m σ H=>m=xs.length - i/\i<=xs.length/\Pv i σ H,⟨xs.length,by simp,Nat.zero_le _,h0⟩,?_⟩
 rintro i m σ H ⟨rfl,hi,p⟩
 have qa:=hl i σ H hi p
 by_cases hlt:i < xs.length
 . have ex:xs[i]?=some xs[i]:=List.getElem?_eq_getElem hlt
   refine .inr ⟨⟨xs,_,qa,ex⟩,Pv (i+1),λσ' H' p'=>⟨xs.length - (i+1),by omega,rfl,hlt,p'⟩,λx H' yl=>?_⟩
   obtain⟨pp,hp,rfl,e⟩:=yl
   rw[e xs _ qa ex]
   exact hs i _ σ H pp ex hp p
 . have e:i=xs.length:=by omega
   subst e
   exact .inl ⟨⟨xs,qa,Nat.le_refl _⟩,hd σ H p⟩
theorem Jo (ns:List Nat):∀i,i<=ns.length->preSum (λj=>((ns.getD j 0:Nat):Int)) i=(((ns.take i).sum:Nat):Int)
 | 0,_=>by simp [preSum]
 | i+1,h=>by
   have hi:i < ns.length:=h
   show preSum _ i+_=_
   rw[Jo ns i (Nat.le_of_lt hi),List.take_add_one,List.getElem?_eq_getElem hi,List.sum_append]
   simp [List.getD_eq_getElem?_getD,List.getElem?_eq_getElem hi]
theorem ZQ (ns:List Nat) (i:Nat):(ns.take i).sum<=ns.sum:=by
 have h:(ns.take i++ns.drop i).sum=ns.sum:=by rw[List.take_append_drop]
 rw[List.sum_append]at h
 omega
theorem XI (ns:List Nat) (i:Nat):ns.getD i 0<=ns.sum:=by
 have h:=ZQ ns (i+1)
 rw[List.take_add_one,List.sum_append]at h
 rw[List.getD_eq_getElem?_getD]
 cases e:ns[i]? with
 | none=>exact Nat.zero_le _
 | some x=>
   rw[e]at h
   simp at h ⊢
   omega
section
variable {X:Cx}
theorem Ys (hc:X.calm=true):jW X (.builtin "sum") (λxs H Q=>∃(p:Addr) (ns:List Nat),xs=[.ref p]/\SqL X.K H p (ns.map λn=>V.int ((n:Nat):Int))/\ns.sum < 2^62/\Q (.int (ns.sum:Nat)) H):=by
 intro pins s σ H xs us Q I r h
 obtain⟨p,ns,rfl,hq,hs,q⟩:=h
 obtain⟨u,rfl,rx⟩:=Qo r
 cases rx
 obtain⟨its,rv,pl,hz⟩:=I.list hq
 have hlt:p < s.heap.objs.size:=by
   obtain⟨o,n,e,_⟩:=pl
   exact Heap.lt_size e
 have hn:its.toArray.size=ns.length:=by
   have:=rv.length
   rw[List.length_map]at this
   simp only[List.size_toArray]
   omega
 have hh:X.A.in1.handled=none:=I.ok.hd hc
 refine call_sum_walk (wpAny_pyIter_list pl.isList ?_)
 refine⟨s.heap.objs.size,[s.heap.objs.size,p],[s.heap.objs.size],its.toArray.size,λi v=>its.toArray[i]?=some v,_,λj=>((ns.getD j 0:Nat):Int),rfl,Walks.list hh s.heap.objs.size p (Nat.ne_of_lt hlt) its.toArray,
   ⟨⟨_,Heap.get?_push_size _ rfl,rfl,rfl⟩,pl.isList.at λo e=>Heap.get?_push_of_some _ e⟩,?_,?_,?_,λh' tk t' hk=>?_⟩
 . intro b hb
   show b < (s.heap.push _).objs.size
   rw[Heap.size_push]
   simp only[List.mem_cons,List.mem_nil_iff,or_false]at hb
   rcases hb with e | e
   . rw[e];exact Nat.lt_succ_self _
   . rw[e];exact Nat.lt_succ_of_lt hlt
 . intro i v hP
   have hi:its[i]?=some v:=by simpa using hP
   cases e:ns[i]? with
   | none=>
     exfalso
     have h1:(ns.map λn=>V.int ((n:Nat):Int))[i]?=none:=by rw[List.getElem?_map,e];rfl
     rw[qI.none_of rv h1]at hi
     cases hi
   | some b=>
     have h1:(ns.map λn=>V.int ((n:Nat):Int))[i]?=some (V.int b):=by rw[List.getElem?_map,e];rfl
     obtain⟨u,hu,ru⟩:=rv.get h1
     rw[hi]at hu
     cases hu
     obtain⟨t,rfl⟩:=ru
     refine⟨t,?_⟩
     show Value.int b t=.int ((ns.getD i 0:Nat):Int) t
     rw[List.getD_eq_getElem?_getD,e]
     rfl
 . intro j hj
   rw[hn]at hj
   have h1:=XI ns j
   have h2:=ZQ ns (j+1)
   have h3:=Jo ns (j+1) hj
   refine⟨⟨?_,?_⟩,⟨?_,?_⟩⟩
   . show -(2^63)<=((ns.getD j 0:Nat):Int)
     omega
   . show ((ns.getD j 0:Nat):Int) < 2^63
     omega
   . rw[h3];omega
   . rw[h3];omega
 . rw[hn,Jo ns _ (Nat.le_refl _),List.take_of_length_le (Nat.le_refl _)]
   refine⟨.int (ns.sum:Nat),H,?_,⟨_,rfl⟩,q⟩
   exact I.kept (h':=h') (t':=tk) λb o e=>hk b o (by
     intro z
     have z':b=s.heap.objs.size:=by simpa using z
     exact absurd (Heap.lt_size e) (by rw[z'];exact Nat.lt_irrefl _)) (Heap.get?_push_of_some _ e)
end
end L2
set_option Elab.async false
set_option linter.all false
set_option maxRecDepth 100000
set_option maxHeartbeats 4000000
namespace L2
open PySem PySem.Spec PyProof.Rows
structure WN (fs:List Addr) (ex:List Addr) (h h':Heap):Prop where
 keep:∀b o,b∉fs->b∉ex->h.get? b=some o->h'.get? b=some o
 slot:∀b o,b∈fs->b∉ex->h.get? b=some o->∃sl,h'.get? b=some {o with slots:=sl}
def kF (T:Addr) (fl:Value) (h:Heap):Prop:=∃ts,h.get? T=some {cls:=.type "traceback",data:=.fields ts}/\ts[3]?=some fl
section
variable {M:Model} {A:Around} {E:Value->Shared->Prop} {s:Shared} {base:Heap} {env:Env} {outer:List Env} {L e:Addr} {cl head:Value} {d:Option Addr} {vs:Array Value} {had:Bool} {Q:Unit->Shared->Prop}
theorem UU (fr:A.frames=some (env::outer)) (ff:s.heap.FunFrames base (env::outer)) (fm:env.frame=some L)
   (he:s.heap.get? e=some {cls:=cl,dict:=d,data:=.fields vs}) (sz:1 < vs.size)
   (k:∀h' T,s.heap.objs.size<=T->WN (ZW (env::outer)) [e] s.heap h'->h'.get? e=some {cls:=cl,dict:=d,data:=.fields (vs.setIfInBounds 1 (.ref T))}->kF T (rawInt L) h'->Q () {s with heap:=h'}):
   wpAny M A (frameOf env >>= λa=>entryPlaceOf L had >>= λpl=>EntryCells.newEntry head a .none (rawInt L) .none pl >>= λb=>setField (.ref e) 1 b) Q E s:=by
 have out:e∉ZW (env::outer):=λz=>by
   obtain⟨_,o,ho,nf⟩:=ff.mem z
   rw[he]at ho
   cases ho
   exact nf vs rfl
 refine wpAny_bind (wpAny_frameOf_fun fr ff fm λh1 so=>?_)
 refine wpAny_bind (wpAny_entryPlaceOf λpl ip=>?_)
 have e1:h1.get? e=some {cls:=cl,dict:=d,data:=.fields vs}:=(so.2.1 e out).trans he
 unfold EntryCells.newEntry newFields
 refine wpAny_bind (wpAny_newObj_type ?_ (ip.sizeOk5 _ _ _ _ _))
 have ne:e≠h1.objs.size:=Nat.ne_of_lt (Heap.lt_size e1)
 refine wpAny_setField (Heap.get?_push_of_some _ e1) rfl sz (k _ h1.objs.size (Nat.le_of_eq so.1.symm) ⟨λb o n1 n2 q=>?_,λb o n1 n2 q=>?_⟩ ?_ ⟨_,(Heap.get?_update_other _ _ ne).trans (Heap.get?_push_size _ rfl),?_⟩)
 . have n3:b≠e:=λz=>n2 (by simp [z])
   rw[Heap.get?_update_other _ _ (Ne.symm n3)]
   exact Heap.get?_push_of_some _ ((so.2.1 b n1).trans q)
 . have n3:b≠e:=λz=>n2 (by simp [z])
   obtain⟨sl,r⟩:=so.2.2 b o q
   exact⟨sl,by rw[Heap.get?_update_other _ _ (Ne.symm n3)];exact Heap.get?_push_of_some _ r⟩
 . exact Heap.get?_update_self _ (Heap.get?_push_of_some _ e1) rfl
 . rcases ip with rfl | ⟨_,_,_,_,_,_,_,rfl⟩<;>simp
theorem XB (fr:A.frames=some (env::outer)) (ff:s.heap.FunFrames base (env::outer)) (fm:env.frame=some L)
   (he:s.heap.get? e=some {cls:=cl,dict:=d,data:=.fields vs}) (h1:vs[1]?=some .none)
   (k:∀h' T,s.heap.objs.size<=T->WN (ZW (env::outer)) [e] s.heap h'->h'.get? e=some {cls:=cl,dict:=d,data:=.fields (vs.setIfInBounds 1 (.ref T))}->kF T (rawInt L) h'->Q () {s with heap:=h'}):
   wpAny M A (noteFrame (.ref e) env) Q E s:=by
 unfold noteFrame
 simp only[fm]
 refine wpAny_bind (wpAny_field he rfl h1 ?_)
 rw[if_neg (show ¬((Value.none != Value.none)=true) by decide)]
 exact UU fr ff fm he (Array.getElem?_eq_some_iff.mp h1).1 k
theorem Uj {T:Addr} (fm:env.frame=some L) (he:s.heap.get? e=some {cls:=cl,dict:=d,data:=.fields vs}) (h1:vs[1]?=some (.ref T)) (st:kF T (rawInt L) s.heap) (k:Q () s):
   wpAny M A (noteFrame (.ref e) env) Q E s:=by
 obtain⟨ts,ht,h3⟩:=st
 unfold noteFrame
 simp only[fm]
 refine wpAny_bind (wpAny_field he rfl h1 ?_)
 rw[if_pos (show (Value.ref T != Value.none)=true by simp)]
 refine wpAny_bind (wpAny_field ht rfl h3 ?_)
 rw[if_pos (show (rawInt L==rawInt L)=true by simp [rawInt])]
 exact wpAny_pure k
theorem YL {T:Addr} (fr:A.frames=some (env::outer)) (ff:s.heap.FunFrames base (env::outer)) (fm:env.frame=some L)
   (he:s.heap.get? e=some {cls:=cl,dict:=d,data:=.fields vs}) (h1:vs[1]?=some (.ref T)) (st:kF T .none s.heap) (ne:T≠e)
   (k:∀h' T',s.heap.objs.size<=T'->WN (ZW (env::outer)) [e,T] s.heap h'->(∃o,h'.get? T=some o)->h'.get? e=some {cls:=cl,dict:=d,data:=.fields (vs.setIfInBounds 1 (.ref T'))}->kF T' (rawInt L) h'->Q () {s with heap:=h'}):
   wpAny M A (noteFrame (.ref e) env) Q E s:=by
 obtain⟨ts,ht,h3⟩:=st
 unfold noteFrame
 simp only[fm]
 refine wpAny_bind (wpAny_field he rfl h1 ?_)
 rw[if_pos (show (Value.ref T != Value.none)=true by simp)]
 refine wpAny_bind (wpAny_field ht rfl h3 ?_)
 rw[if_neg (show ¬((Value.none==rawInt L)=true) by simp [rawInt])]
 refine wpAny_bind (wpAny_setField ht rfl (Array.getElem?_eq_some_iff.mp h3).1 ?_)
 have oth:∀b,b≠T->(s.heap.update T (Obj.mapFields (·.setIfInBounds 3 Value.none))).get? b=s.heap.get? b:=λb n=>Heap.get?_update_other _ _ (Ne.symm n)
 have tno:T∉ZW (env::outer):=λz=>by
   obtain⟨_,o,ho,nf⟩:=ff.mem z
   rw[ht]at ho
   cases ho
   exact nf ts rfl
 refine UU fr (ff.of_keeps λb o hb nf=>⟨o,(oth b λz=>?_).trans hb,rfl⟩) fm ((oth e (Ne.symm ne)).trans he) (Array.getElem?_eq_some_iff.mp h1).1 λh' T' hT F q1 q2=>?_
 . rw[z,ht]at hb
   cases hb
   exact nf ts rfl
 . have upT:=Heap.get?_update_self (Obj.mapFields (·.setIfInBounds 3 Value.none)) ht rfl
   refine k h' T' (Nat.le_trans (Nat.le_of_eq (by simp)) hT) ⟨λb o n1 n2 q=>?_,λb o n1 n2 q=>?_⟩ ⟨_,F.keep T _ tno (by simp [ne]) upT⟩ q1 q2
   . simp only[List.mem_cons,List.not_mem_nil,or_false,not_or]at n2
     exact F.keep b o n1 (by simp [n2.1]) ((oth b n2.2).trans q)
   . simp only[List.mem_cons,List.not_mem_nil,or_false,not_or]at n2
     exact F.slot b o n1 (by simp [n2.1]) ((oth b n2.2).trans q)
theorem Jc {T:Addr} {fl:Value} {fs:List Addr} (he:s.heap.get? e=some {cls:=cl,dict:=d,data:=.fields vs}) (h1:vs[1]?=some (.ref T)) (st:kF T fl s.heap)
   (k:∀h',WN fs [T] s.heap h'->kF T .none h'->Q () {s with heap:=h'}):wpAny M A (setFlight (.ref e) none) Q E s:=by
 obtain⟨ts,ht,h3⟩:=st
 have lt:=(Array.getElem?_eq_some_iff.mp h3).1
 refine wpAny_setFlight_none he rfl h1 ht rfl lt (k _ ⟨λb o _ n q=>?_,λb o _ n q=>⟨o.slots,?_⟩⟩ ⟨_,Heap.get?_update_self _ ht rfl,by simp [lt]⟩)
 all_goals
   rw[Heap.get?_update_other _ _ λz=>n (by simp [z])]
   exact q
end
structure zW (ex:List Addr) (n:Nat) (H H':Hp):Prop where
 ext:∀b∈ex,∃φ,H b=some (.ext φ)
 same:∀b o,b∉ex->H b=some o->H' b=some o
 no:∀b,b < n->H b=none->H' b=none
section
variable {P:Program} {w:World} {fs ex:List Addr} {H H':Hp} {h h':Heap}
theorem zW.out {n:Nat} (t:zW ex n H H') {b:Addr} {o:HO} (q:H b=some o) (hn:∀φ,o≠.ext φ):b∉ex:=λz=>by
 obtain⟨φ,e⟩:=t.ext b z
 rw[q]at e
 cases e
 exact hn φ rfl
theorem zW.out0 {n:Nat} (t:zW ex n H H') {b:Addr} (q:H b=none):b∉ex:=λz=>by
 obtain⟨φ,e⟩:=t.ext b z
 rw[q]at e
 cases e
theorem Un.fly (F:WN fs ex h h') (t:zW ex h.objs.size H H') (th:∀b∈ex,∃o,h'.get? b=some o):Un fs [] H H' h h' where
 keep b o q n hf _:=F.keep b o hf (t.out0 n) q
 slot b o q n hf _:=F.slot b o hf (t.out0 n) q
 free b o q n _:=t.no b (Heap.lt_size q) n
 there b o q _:=by
   by_cases hb:b∈ex
   . exact th b hb
   . by_cases hf:b∈fs
     . obtain⟨sl,r⟩:=F.slot b o hf hb q
       exact⟨_,r⟩
     . exact⟨o,F.keep b o hf hb q⟩
 tups b xs q:=t.same b _ (t.out q (by intro φ z;cases z)) q
 frzs b o u q:=t.same b _ (t.out q (by intro φ z;cases z)) q
 tbls b ps q:=⟨#[],by simpa using t.same b _ (t.out q (by intro φ z;cases z)) q⟩
theorem Jh.fly (ok:Jh P w H h) (F:WN fs ex h h') (t:zW ex h.objs.size H H') (fr:∀b∈fs,H b=none) (new:∀b o,H' b=some o->(H b=none\/b∈ex)->qJ P w H' h' b o):Jh P w H' h':=λb o q=>by
 by_cases hb:b∈ex
 . exact new b o q (.inr hb)
 cases e:H b with
 | none=>exact new b o q (.inl e)
 | some u=>
   have r:=t.same b u hb e
   rw[q]at r
   cases r
   refine(ok b o e).stay (λc v hc g=>F.keep c v ?_ ?_ g) (λc z=>t.same c _ (t.out z (by intro φ z;cases z)) z) λc xs z=>t.same c _ (t.out z (by intro φ z;cases z)) z
   . intro z
     have n:=fr c z
     rcases hc with rfl | hc
     . rw[e]at n;cases n
     . rw[hc]at n;cases n
   . rcases hc with rfl | hc
     . exact hb
     . exact t.out hc (by intro φ z;cases z)
end
end L2
namespace L2
open PySem PySem.Spec PyProof.Rows
def zZ (T:Addr) (fl:Value):HO:=.ext (kF T fl)
theorem J9 {P:Program} {w:World} {H:Hp} {h:Heap} {T:Addr} {fl:Value} (x:kF T fl h):qJ P w H h T (zZ T fl):=by
 obtain⟨ts,q,z⟩:=x
 exact⟨⟨ts,q,z⟩,⟨_,q⟩,λh1 h2 ⟨ts',q',z'⟩ k=>⟨ts',k _ q',z'⟩⟩
def QY (P:Program) (w:World):z9:=λouter H s E e s'=>∃a C dx T Hx H',e=.ref a/\s'.os=s.os/\AllBare s'.gens/\Un (ZW outer) [] H H' s.heap s'.heap/\Jh P w H' s'.heap/\
 H' a=some (jB a C dx (.ref T))/\H' T=some (zZ T .none)/\Hx T=none/\Hx a=some (QB a C dx)/\(∀b o,b≠a->Hx b=some o->H' b=some o)/\E (.ref C) (some dx) Hx
def Y9 (X:Cx) (E:XK):Prop:=∀(pins:List (Addr×Obj)) (σ:St) (H:Hp) (s:Shared) (a C dx:Addr),qx X pins σ H s->H a=some (QB a C dx)->E (.ref C) (some dx) H->X.xe (.ref a) s
section
variable {X:Cx} {pins:List (Addr×Obj)} {σ:St} {H H':Hp} {s:Shared} {h':Heap} {ex:List Addr}
theorem qx.flown (I:qx X pins σ H s) (F:WN (ZW X.stack) ex s.heap h') (t:zW ex s.heap.objs.size H H') (th:∀b∈ex,∃o,h'.get? b=some o)
   (new:∀b o,H' b=some o->(H b=none\/b∈ex)->qJ X.prog X.w H' h' b o):qx X pins σ H' {s with heap:=h'}:=
 I.call (g':=s.gens) (t':=s.toks) (d':=s.drawn) (ch:=[]) (Un.fly F t th) (Jh.fly I.hok F t I.stkFree new) I.bare λb z=>absurd z (by simp)
theorem WN.then {fs ex:List Addr} {h h1 h2:Heap} {T:Addr} (F:WN fs ex h h1) (G:WN fs [T] h1 h2) (hT:h.objs.size<=T):WN fs ex h h2 where
 keep b o n1 n2 q:=G.keep b o n1 (by simp;exact Nat.ne_of_lt (Nat.lt_of_lt_of_le (Heap.lt_size q) hT)) (F.keep b o n1 n2 q)
 slot b o n1 n2 q:=by
   obtain⟨sl,r⟩:=F.slot b o n1 n2 q
   obtain⟨sl',r'⟩:=G.slot b _ n1 (by simp;exact Nat.ne_of_lt (Nat.lt_of_lt_of_le (Heap.lt_size q) hT)) r
   exact⟨sl',r'⟩
end
section
variable {P:Program} {w:World} {K:PySem.W.Frag} {mg:Str->Option Value} {base:Heap} {N:List Str} {qual:Str} {scope:Scope} {f:Addr} {cd:Value} {A:Around} {outer:List Env} {s₀:Shared} {H₀:Hp} {E:XK}
theorem JB:Y9 (j5 (QY P w) P w K mg base N qual scope f cd A outer s₀ H₀ E) E:=by
 intro pins σ H s a C dx I ha hE
 obtain⟨⟨fl,he,hz⟩,_,_⟩:=(show qJ P w H s.heap a (jB a C dx .none) from I.hok a _ ha)
 have fr:=I.ok.frames
 have ff:=I.stack
 show wpAny _ _ (leaving _ _) _ _ s
 unfold leaving
 refine wpAny_bind (XB fr ff rfl he hz λh1 T hT F q1 q2=>?_)
 have lt:=(Array.getElem?_eq_some_iff.mp hz).1
 have g1:(fl.setIfInBounds 1 (Value.ref T))[1]?=some (.ref T):=by simp [lt]
 have nT:T≠a:=λz=>by
   obtain⟨ts,q,_⟩:=q2
   rw[z,q1]at q
   cases q
 refine Jc (fs:=ZW (j5 (QY P w) P w K mg base N qual scope f cd A outer s₀ H₀ E).stack) q1 g1 q2 λh2 F2 st=>?_
 have anf:a∉ZW (j5 (QY P w) P w K mg base N qual scope f cd A outer s₀ H₀ E).stack:=λz=>by
   have:=I.stkFree a z
   rw[ha]at this
   cases this
 have hTn:H T=none:=I.hok.fresh hT
 have q3:=F2.keep a _ anf (by simp [Ne.symm nT]) q1
 have I2:=I.flown (H':=upd (upd H a (jB a C dx (.ref T))) T (zZ T .none)) (WN.then F F2 hT) ⟨λb hb=>by cases List.mem_singleton.mp hb;exact⟨_,ha⟩,λb o hb q=>by
     rw[qi (qt q hTn),qi λz=>hb (by simp [z])];exact q,λb hb q=>by
     rw[qi (Nat.ne_of_lt (Nat.lt_of_lt_of_le hb hT)),qi λz=>by rw[z,ha]at q;cases q];exact q⟩ (λb hb=>by cases List.mem_singleton.mp hb;exact⟨_,q3⟩) λb o q hb=>by
   by_cases e1:b=T
   . subst e1
     rw[qd]at q
     cases q
     exact J9 st
   . rw[qi e1]at q
     by_cases e2:b=a
     . subst e2
       rw[qd]at q
       cases q
       exact JN ⟨_,q3,g1⟩
     . rw[qi e2]at q
       rcases hb with hb | hb
       . rw[q]at hb;cases hb
       . exact absurd (List.mem_singleton.mp hb) e2
 exact⟨a,C,dx,T,H,_,rfl,I2.os,I2.bare,I2.base,I2.hok,by rw[qi (Ne.symm nT),qd],qd ..,hTn,ha,λb o nb q=>by rw[qi (qt q hTn),qi nb];exact q,hE⟩
theorem QQ:Qz (QY P w) (j5 (QY P w) P w K mg base N qual scope f cd A outer s₀ H₀ E) E:=by
 intro pins σ H s e s' I0 hc
 obtain⟨a,C,dx,T,Hx,H1,rfl,os,bare,un,hok,ha,ht,hxT,hxa,hx,hE⟩:=hc
 have I:qx (j5 (QY P w) P w K mg base N qual scope f cd A outer s₀ H₀ E) pins σ H1 s':=I0.call' os un hok bare λb z=>absurd z (by simp)
 obtain⟨⟨fl,he,hz⟩,_,_⟩:=(show qJ P w H1 s'.heap a (jB a C dx (.ref T)) from I.hok a _ ha)
 obtain⟨st0,_,_⟩:=(show qJ P w H1 s'.heap T (zZ T .none) from I.hok T _ ht)
 have fr:=I.ok.frames
 have ff:=I.stack
 have nT0:T≠a:=λz=>by
   obtain⟨ts,q,_⟩:=st0
   rw[z,he]at q
   cases q
 show wpAny _ _ (leaving _ _) _ _ s'
 unfold leaving
 refine wpAny_bind (YL fr ff rfl he hz st0 nT0 λh1 T' hT F tT q1 q2=>?_)
 have lt:=(Array.getElem?_eq_some_iff.mp hz).1
 have g1:(fl.setIfInBounds 1 (Value.ref T'))[1]?=some (.ref T'):=by simp [lt]
 have nT:T'≠a:=λz=>by
   obtain⟨ts,q,_⟩:=q2
   rw[z,q1]at q
   cases q
 refine Jc (fs:=ZW (j5 (QY P w) P w K mg base N qual scope f cd A outer s₀ H₀ E).stack) q1 g1 q2 λh2 F2 st=>?_
 have anf:∀b o,H1 b=some o->b∉ZW (j5 (QY P w) P w K mg base N qual scope f cd A outer s₀ H₀ E).stack:=λb o q z=>by
   have:=I.stkFree b z
   rw[q]at this
   cases this
 have hTn:H1 T'=none:=I.hok.fresh hT
 have nTT:T'≠T:=(qt ht hTn).symm
 have q3:=F2.keep a _ (anf a _ ha) (by simp [Ne.symm nT]) q1
 obtain⟨oT,hoT⟩:=tT
 have q4:=F2.keep T _ (anf T _ ht) (by simp [Ne.symm nTT]) hoT
 have I2:=I.flown (H':=upd (upd (upd H1 a (jB a C dx (.ref T'))) T (.ext λh=>∃o,h.get? T=some o)) T' (zZ T' .none)) (WN.then F F2 hT) ⟨λb hb=>by
     simp only[List.mem_cons,List.not_mem_nil,or_false]at hb
     rcases hb with rfl | rfl
     . exact⟨_,ha⟩
     . exact⟨_,ht⟩,λb o hb q=>by
     simp only[List.mem_cons,List.not_mem_nil,or_false,not_or]at hb
     rw[qi (qt q hTn),qi hb.2,qi hb.1];exact q,λb hb q=>by
     rw[qi (Nat.ne_of_lt (Nat.lt_of_lt_of_le hb hT)),qi (λz=>by rw[z,ht]at q;cases q),qi (λz=>by rw[z,ha]at q;cases q)];exact q⟩ (λb hb=>by
     simp only[List.mem_cons,List.not_mem_nil,or_false]at hb
     rcases hb with rfl | rfl
     . exact⟨_,q3⟩
     . exact⟨_,q4⟩) λb o q hb=>by
   by_cases e1:b=T'
   . subst e1
     rw[qd]at q
     cases q
     exact J9 st
   . rw[qi e1]at q
     by_cases e2:b=T
     . subst e2
       rw[qd]at q
       cases q
       exact⟨⟨_,q4⟩,⟨_,q4⟩,λh1 h2 ⟨u,z⟩ k=>⟨u,k u z⟩⟩
     . rw[qi e2]at q
       by_cases e3:b=a
       . subst e3
         rw[qd]at q
         cases q
         exact JN ⟨_,q3,g1⟩
       . rw[qi e3]at q
         rcases hb with hb | hb
         . rw[q]at hb;cases hb
         . simp only[List.mem_cons,List.not_mem_nil,or_false]at hb
           exact(hb.elim e3 e2).elim
 refine⟨a,C,dx,T',Hx,_,rfl,I2.os,I2.bare,I2.base,I2.hok,by rw[qi (Ne.symm nT),qi (Ne.symm nT0),qd],qd ..,?_,hxa,λb o nb q=>?_,hE⟩
 . cases e:Hx T' with
   | none=>rfl
   | some o=>
     have:=hx T' o nT e
     rw[hTn]at this
     cases this
 . have n1:b≠T:=λz=>by rw[z,hxT]at q;cases q
   have q':=hx b o nb q
   rw[qi (qt q' hTn),qi n1,qi nb]
   exact q'
end
end L2
set_option Elab.async false
set_option linter.all false
set_option maxRecDepth 100000
set_option maxHeartbeats 4000000
namespace L2
open PySem PySem.Spec PyProof.Rows
section
variable {M:Model} {A:Around} {E:Value->Shared->Prop} {s:Shared} {env:Env} {C:Addr}
theorem V8 {oC:Obj} {x:Sem Value} {Q:Flow->Shared->Prop} (hh:A.handled=none) (hcl:oC.cls=.type "type")
   (hs:∀(h:Heap) (g d t os) (Q:Bool->Shared->Prop),h.get? C=some oC->Q true ⟨h,g,d,t,os⟩->wpAny M A (isSubtype (.ref C) (.type "BaseException")) Q E ⟨h,g,d,t,os⟩)
   (h:wpAny M A x (λv s₁=>∃e dx fl,v=.ref e/\s₁.heap.get? C=some oC/\s₁.heap.get? e=some {cls:=.ref C,dict:=some dx,data:=.fields fl}/\fl[1]?=some Value.none/\E (.ref e) s₁) E s):
   wpAny M A (raiseStmt env (some x) none) Q E s:=by
 unfold raiseStmt
 refine wpAny_bind (ja h λv s₁ h₁=>?_)
 obtain⟨e,dx,fl,rfl,hC,he,hz,hE⟩:=h₁
 obtain⟨hp,g,d,tk,os⟩:=s₁
 repeat (first | with_reducible refine wpAny_loadPart_at he ?_ | with_reducible refine wpAny_loadPart_at hC ?_ | with_reducible refine hs _ _ _ _ _ _ hC ?_ | wp_step)
 rw[hz]
 refine wpAny_pure ?_
 rw[if_neg (show ¬((Value.none != Value.none)=true) by decide)]
 exact wpAny_pure (wpAny_raiseNew_none hh hE)
end
def XV (K:PySem.W.Frag) (C:Addr):Prop:=∃f bm,Kq K C f bm/\bm.contains (.type "BaseException")=true
def zw (K:PySem.W.Frag) (E:XK) (te:TE):TS:=λD σ H=>te σ H λv H1=>∃a C dx,v=.ref a/\H1 a=some (QB a C dx)/\XV K C/\E (.ref C) (some dx) H1
section
variable {X:Cx} {E:XK} {e:Expr} {te:TE} {pos:Pos}
theorem Qu (hc:X.calm=true) (hx:Y9 X E) (he:JE X e te):JS X (.Raise (some e) none pos) (zw X.K E te):=.of (by
 have he:=he.to
 intro pins s σ H D I h
 have key:∀x:Sem Value,wpAny (model X.prog X.w) X.A x (λu s1=>∃v H1,qx X pins σ H1 s1/\qQ v u/\∃a C dx,v=.ref a/\H1 a=some (QB a C dx)/\XV X.K C/\E (.ref C) (some dx) H1) X.xe s->
     wpAny (model X.prog X.w) X.A (raiseStmt X.env (some x) none) (SP X pins D) X.xe s:=λx hw=>by
   unfold raiseStmt
   refine wpAny_bind (ja hw λu s1 ⟨v,H1,I1,rv,a,C,dx,ev,ha,⟨f,bm,em,hb⟩,hE⟩=>?_)
   subst ev
   obtain rfl:u=Value.ref a:=rv
   obtain⟨nm,q,N,bs,hdct,sn,sub,ab,col,dd,k0,k1,k2,k3,k5,hC⟩:=em.obj
   obtain⟨⟨fl,ho,hz⟩,_,_⟩:=(show qJ X.prog X.w H1 s1.heap a (jB a C dx .none) from I1.hok a _ ha)
   have hC':=I1.kIn _ _ hC
   have r:=V8 (M:=model X.prog X.w) (A:=X.A) (E:=X.xe) (s:=s1) (env:=X.env) (C:=C) (x:=pure (.ref a)) (Q:=SP X pins D) (I1.ok.hd hc) rfl (λh g d t os Q z k=>wpAny_isSubtype_exc z (by
     rw[show (Value.ref C::bm).contains (.type "BaseException")=true by rw[List.contains_cons,hb,Bool.or_true]];exact k)) (wpAny_pure ⟨a,dx,fl,rfl,hC',ho,hz,hx pins σ H1 s1 a C dx I1 ha hE⟩)
   exact r
 rw[arm_exec_Raise]
 exact wpAny_bind (wpAny_standAt (key _ (wpAny_bind (ja (he pins s σ H _ I h) λu s1 q=>wpAny_bind (wpAny_standAt (wpAny_pure q)))))))
end
end L2
set_option Elab.async false
set_option linter.all false
set_option maxRecDepth 100000
set_option maxHeartbeats 4000000
namespace L2
open PySem PySem.Spec PyProof.Rows
section
variable {M:Model} {A:Around} {E:Value->Shared->Prop}
theorem UE {h:Heap} {g:Array GenState} {d:Drawn} {t:Nat} {os:OsState} {e C D:Addr} {oe oC:Obj} {ddc:Option Addr} {sld:Array (Option Value)} {cdd} {bC bD:List Value} {Q:Bool->Shared->Prop}
   (he:h.get? e=some oe) (hcls:oe.cls=.ref C) (hC:h.get? C=some oC) (hD:h.get? D=some ⟨.type "type",ddc,.cls cdd,sld⟩)
   (sC:∀(T:Value) (Q:Bool->Shared->Prop),Q (bC.contains T) ⟨h,g,d,t,os⟩->wpAny M A (isSubtype (.ref C) T) Q E ⟨h,g,d,t,os⟩)
   (sD:∀(T:Value) (Q:Bool->Shared->Prop),Q (bD.contains T) ⟨h,g,d,t,os⟩->wpAny M A (isSubtype (.ref D) T) Q E ⟨h,g,d,t,os⟩)
   (hB:bD.contains (.type "BaseException")=true)
   (hq:Q (bC.contains (.ref D)) ⟨h,g,d,t,os⟩):wpAny M A (excMatches (.ref e) (.ref D)) Q E ⟨h,g,d,t,os⟩:=by
 have f:=tc_notTuple
 unfold excMatches
 repeat (first | (with_reducible refine wpAny_loadPart_at he ?_;rw[hcls]) | with_reducible refine wpAny_loadPart_at hD ?_ | (with_reducible refine sC _ _ ?_) | (with_reducible refine sD _ _ ?_;rw[hB]) | wp_step)
 cases hb:bC.contains (.ref D)<;>(rw[hb]at hq;wp_walk;exact hq)
end
end L2
set_option Elab.async false
set_option linter.all false
set_option maxRecDepth 100000
set_option maxHeartbeats 4000000
namespace L2
open PySem PySem.Spec PyProof.Rows
def zo (CX:z9) (X:Cx) (E:St->XK):Prop:=∀(pins:List (Addr×Obj)) (σ:St) (H:Hp) (s:Shared) (e:Value) (s':Shared),qx X pins σ H s->CX X.stack H s (E σ) e s'->X.xe e s'
section
variable {X:Cx} {CX:z9} {k:Nat} {f C:Addr} {fd:FuncData} {ps:List Str} {sp:Sp} {dvs:List V} {ds:List Value} {E:St->XK} {x m:Str} {p pos apos:Pos} {e o:Expr} {es:List Expr} {ta:TE} {t:TA}
end
end L2
set_option Elab.async false
set_option linter.all false
set_option maxRecDepth 100000
set_option maxHeartbeats 4000000
namespace L2
open PySem PySem.Spec PyProof.Rows
section
variable {X:Cx} {pins:List (Addr×Obj)} {σ:St} {H:Hp} {s:Shared} {a b:Addr} {kvs more:List (qW×V)} {A:Around} {E:Value->Shared->Prop}
end
section
variable {X:Cx} {o e:Expr} {apos cpos:Pos} {td ty:TE}
end
theorem Gh {us:List Value} (h:us.length=0):us=[]:=List.eq_nil_of_length_eq_zero h
theorem yA {us:List Value} {n:Nat} (h:us.length=n+1):∃a r,us=a::r/\r.length=n:=by
 cases us with
 | nil=>cases h
 | cons a r=>exact⟨a,r,rfl,Nat.succ.inj h⟩
theorem Z4 {us:List Value} (h:us.length=1):∃a,us=[a]:=by
 obtain⟨a,r,rfl,h'⟩:=yA h
 exact⟨a,by rw[Gh h']⟩
theorem Q7 {us:List Value} (h:us.length=2):∃a b,us=[a,b]:=by
 obtain⟨a,r,rfl,h'⟩:=yA h
 obtain⟨b,rfl⟩:=Z4 h'
 exact⟨a,b,rfl⟩
theorem Gf {us:List Value} (h:us.length=3):∃a b c,us=[a,b,c]:=by
 obtain⟨a,r,rfl,h'⟩:=yA h
 obtain⟨b,c,rfl⟩:=Q7 h'
 exact⟨a,b,c,rfl⟩
theorem Ge {us:List Value} (h:us.length=4):∃a b c d,us=[a,b,c,d]:=by
 obtain⟨a,r,rfl,h'⟩:=yA h
 obtain⟨b,c,d,rfl⟩:=Gf h'
 exact⟨a,b,c,d,rfl⟩
end L2
set_option Elab.async false
set_option linter.all false
set_option maxRecDepth 100000
set_option maxHeartbeats 4000000
namespace L2
open PySem PySem.Spec PyProof.Rows
abbrev Cx.suite (X:Cx) (a:Value) (E:Value->Shared->Prop):Cx:={X with A:=X.A.mark (some a),calm:=false,xe:=E}
abbrev Cx.tried (X:Cx) (pn:List (Addr×Obj)) (E:Value->Shared->Prop):Cx:={X with xe:=E,pn:=pn}
section
variable {X:Cx} {pins:List (Addr×Obj)} {σ:St} {H:Hp} {s:Shared} {E:Value->Shared->Prop} {a:Value}
theorem Cx.Ok.suite (o:X.Ok) (a:Value) (E:Value->Shared->Prop):(X.suite a E).Ok:=⟨o.mod,o.kind,o.glob,o.blt,o.above,o.inj,o.has,o.cab,λz=>Bool.noConfusion z,o.frames,o.stk,o.exf,o.bs,o.bsz,o.noex,o.exfs,o.funs,o.frf⟩
theorem Cx.Ok.tried (o:X.Ok) (pn:List (Addr×Obj)) (E:Value->Shared->Prop):(X.tried pn E).Ok:=⟨o.mod,o.kind,o.glob,o.blt,o.above,o.inj,o.has,o.cab,o.hd,o.frames,o.stk,o.exf,o.bs,o.bsz,o.noex,o.exfs,o.funs,o.frf⟩
theorem qx.suite (I:qx X pins σ H s) (a:Value) (E:Value->Shared->Prop):qx (X.suite a E) pins σ H s:=⟨I.ok.suite a E,I.os,I.bare,I.base,I.loc,I.cell,I.free,I.freeC,I.pin,I.hok,I.len⟩
theorem qx.unsuite {σ0:St} {H0:Hp} {s0:Shared} (I0:qx X pins σ0 H0 s0) (I:qx (X.suite a E) pins σ H s):qx X pins σ H s:=⟨I0.ok,I.os,I.bare,I.base,I.loc,I.cell,I.free,I.freeC,I.pin,I.hok,I.len⟩
theorem qx.tried (I:qx X pins σ H s) (E:Value->Shared->Prop):qx (X.tried (X.pn++pins) E) [] σ H s:=⟨I.ok.tried _ E,I.os,I.bare,I.base,I.loc,I.cell,I.free,I.freeC,λp hp=>I.pin p (by simpa using hp),I.hok,I.len⟩
theorem qx.untried {pins':List (Addr×Obj)} {σ0:St} {H0:Hp} {s0:Shared} (I0:qx X pins σ0 H0 s0) (I:qx (X.tried (X.pn++pins) E) pins' σ H s):qx X pins σ H s:=⟨I0.ok,I.os,I.bare,I.base,I.loc,I.cell,I.free,I.freeC,λp hp=>I.pin p (List.mem_append_left _ hp),I.hok,I.len⟩
theorem zk {M:Model} {A:Around} {F:Value->Shared->Prop} {i:Nat} {x:Str} {pos:Pos} {Q:Unit->Shared->Prop} (I:qx X pins σ H s) (hN:X.N.Nodup) (hi:X.N[i]?=some x) (hk:X.env.scope.names.lookup x=some .local)
   (h:∀s',qx X pins (σ.set i none) H s'->Q () s'):wpAny M A (do bindName X.env x .none;unbindBehindTheSuite X.env x pos) Q F s:=by
 obtain⟨m,hn,hl⟩:=id I.loc
 have hcls:(X.env.scope.kind==.class || (X.env.scope.kind==.module&&X.env.locals != X.env.globals))=false:=by rw[I.ok.kind];rfl
 have hiσ:i < σ.length:=by rw[I.len];exact(List.getElem?_eq_some_iff.mp hi).1
 have cne:=I.cne
 have tracked:∀{a:Addr} {h':Heap},(∃o,s.heap.get? a=some o/\H a=none)->Heap.SameBut a s.heap h'->Jh X.prog X.w H h':=λ{a h'} ha hs b ob e=>by
   obtain⟨_,_,hfree⟩:=ha
   refine(I.hok b ob e).stay (λc w' hc q=>(hs.2 c ?_).trans q) (λ_ q=>q) λ_ _ q=>q
   rintro rfl
   rcases hc with rfl | hc
   . rw[hfree]at e;cases e
   . rw[hfree]at hc;cases hc
 refine wpAny_nameGoes_keeps hk hn hcls λh' v0 hn' hs=>?_
 obtain⟨oL,_,_,hoL,_⟩:=id hn
 refine h _ ⟨I.ok,I.os,I.bare,⟨λb o e n hb hx=>?_,λb o e n hb hx=>?_,I.base.free,λb o e hx=>?_,I.base.tups,I.base.frzs,I.base.tbls⟩,⟨_,hn',λj y v' e1 e2 e3=>?_⟩,λy c e=>?_,I.free,I.freeC,λp hp=>?_,tracked ⟨oL,hoL,I.free⟩ hs,by simpa using I.len⟩
 . exact(hs.2 b (Nat.ne_of_lt (Nat.lt_of_lt_of_le (Heap.lt_size e) I.ok.above))).trans (I.base.keep b o e n hb hx)
 . obtain⟨sl,e1⟩:=I.base.slot b o e n hb hx
   exact⟨sl,(hs.2 b (Nat.ne_of_lt (Nat.lt_of_lt_of_le (Heap.lt_size e) I.ok.above))).trans e1⟩
 . obtain⟨o',e1⟩:=I.base.there b o e hx
   exact⟨o',(hs.2 b (Nat.ne_of_lt (Nat.lt_of_lt_of_le (Heap.lt_size e) I.ok.above))).trans e1⟩
 . by_cases hj:j=i
   . subst hj
     rw[List.getElem?_set_self hiσ]at e2
     cases e2
   . rw[List.getElem?_set_ne (Ne.symm hj)]at e2
     obtain⟨u',r',q⟩:=hl j y v' e1 e2 e3
     refine⟨u',r',?_⟩
     rcases q with ⟨k,e⟩ | ⟨k,c,e,z⟩
     . refine .inl ⟨k,?_⟩
       have:y≠x:=λe=>hj (zH hN e1 (e▸hi))
       simp [this,e]
     . exact .inr ⟨k,c,e,z.sameBut hs (cne y c e)⟩
 . obtain⟨w',z⟩:=I.cell y c e
   exact⟨w',z.sameBut hs (cne y c e)⟩
 . obtain⟨e,n,ne,nf,d⟩:=I.pin p hp
   exact⟨(hs.2 p.1 ne).trans e,n,ne,nf,d⟩
end
abbrev TH:=Addr->Addr->Addr->TS
def PH (X:Cx) (hs:List ExceptHandler) (t:TH):Prop:=
 ∀(pins:List (Addr×Obj)) (s:Shared) (σ:St) (H:Hp) (D:QX) (a C dx T:Addr),qx X pins σ H s->H a=some (jB a C dx (.ref T))->H T=some (zZ T .none)->t C a dx D σ H->
   wpAny (model X.prog X.w) X.A (handleBy (.ref a) X.env hs) (SP X pins D) X.xe s
def km:TH:=λ_ _ _ _ _ _=>False
theorem Uk {X:Cx} {hs:List ExceptHandler}:PH X hs km:=λ_ _ _ _ _ _ _ _ _ _ _ _ h=>h.elim
def QX.gone (D:QX) (j:Nat):QX:={nx:=λσ H=>D.nx (σ.set j none) H,rt:=D.rt,bk:=λσ H=>D.bk (σ.set j none) H,ct:=λσ H=>D.ct (σ.set j none) H}
def WV (K:PySem.W.Frag) (Cl:Addr) (j:Nat) (ts:TS) (tr:TH):TH:=λC a dx D σ H=>∃f bm,Kq K C f bm/\
 if (Value.ref C::bm).contains (.ref Cl)=true then ts (D.gone j) (σ.set j (some (.ref a))) H else tr C a dx D σ H
def wN (K:PySem.W.Frag) (C:Addr):Prop:=∃bm,(∃nm q N bs hdct sn sub ab col dd k0 k1 k2 k3 k5,K.lookup C=some (excClassObj nm q C N bs bm hdct sn sub ab col dd k0 k1 k2 k3 k5 "ValueError.__new__"))/\bm.contains (.type "BaseException")=true
theorem XV.c {K:PySem.W.Frag} {C:Addr} (h:XV K C):wN K C:=let ⟨_,bm,a,b⟩:=h;⟨bm,a.obj,b⟩
theorem WC {X:Cx} {x n:Str} {p pos:Pos} {j:Nat} {b₀:Stmt} {suite:List Stmt} {rest:List ExceptHandler} {ts:TS} {tr:TH} {Cl:Addr} (hg:Gl X x) (hm:X.mg x=some (.ref Cl)) (hD:wN X.K Cl) (hN:X.N.Nodup) (hj:X.N[j]?=some n)
   (hl:X.env.scope.names.lookup n=some .local) (hs:∀v E,kN (X.suite v E) (b₀::suite) ts) (hr:PH X rest tr) (hdb:(x==("__debug__":Str))=false:=by decide):PH X (.ExceptHandler (some (.Name x p)) (some n) (b₀::suite) pos::rest) (WV X.K Cl j ts tr):=by
 intro pins s σ H D a C dx T I ha hT h
 obtain⟨f,bm,em,h⟩:=h
 obtain⟨bm',em',hB⟩:=hD
 refine wpAny_handleBy_cons (codeAny_handlers_test ?_) (by intro q;cases q)
 refine wpAny_mono (Vb (X:=X.suite (.ref a) _) (v:=.ref Cl) hg hm rfl hdb pins s σ H (λv H'=>v=.ref Cl/\H'=H) (I.suite _ _) ⟨rfl,rfl⟩) (λc s₁ q=>?_) (λ_ _ z=>z)
 obtain⟨v,H',I1,rv,rfl,rfl⟩:=q
 obtain rfl:c=Value.ref Cl:=rv
 have I2:qx X pins σ H' s₁:=I.unsuite I1
 obtain⟨nm,q,N,bs,hdct,sn,sub,ab,col,dd,k0,k1,k2,k3,k5,hC⟩:=em.obj
 obtain⟨nm',q',N',bs',hdct',sn',sub',ab',col',dd',k0',k1',k2',k3',k5',hC'⟩:=em'
 obtain⟨⟨fl,he,hz⟩,_,_⟩:=(show qJ X.prog X.w H' s₁.heap a (jB a C dx (.ref T)) from I2.hok a _ ha)
 obtain⟨st,_,_⟩:=(show qJ X.prog X.w H' s₁.heap T (zZ T .none) from I2.hok T _ hT)
 have gC:=I2.kIn _ _ hC
 have gD:=I2.kIn _ _ hC'
 obtain⟨hp,g,d,tk,os⟩:=s₁
 refine UE (bC:=Value.ref C::bm) (bD:=Value.ref Cl::bm') he rfl gC gD (λT Q k=>wpAny_isSubtype_exc gC k) (λT Q k=>wpAny_isSubtype_exc gD k) (by rw[List.contains_cons,hB,Bool.or_true]) ?_
 cases hb:(Value.ref C::bm).contains (.ref Cl) with
 | false=>
   rw[hb,if_neg Bool.false_ne_true]at h
   exact hr pins _ σ H' D a C dx T I2 ha hT h
 | true=>
   rw[hb,if_pos rfl]at h
   refine(show codeAny _ _ _ _ _ from codeAny_handlers_suite_as ?_)
   refine Jc (fs:=ZW X.stack) he hz st λh' F st'=>?_
   have I3:qx X pins σ H' {heap:=h',gens:=g,drawn:=d,toks:=tk,os:=os}:=I2.flown (H':=H') F ⟨λb hb'=>by cases List.mem_singleton.mp hb';exact⟨_,hT⟩,λb o _ z=>z,λb _ z=>z⟩ (λb hb'=>by cases List.mem_singleton.mp hb';obtain⟨ts',z,_⟩:=st';exact⟨_,z⟩) λb o z hb'=>by
     rcases hb' with hb' | hb'
     . rw[z]at hb';cases hb'
     . cases List.mem_singleton.mp hb'
       rw[hT]at z
       cases z
       exact J9 st'
   refine zq I3 hN hj (.inl hl) (v:=.ref a) rfl (λs' I4=>?_) (.inr hl)
   refine wpAny_mono (hs (.ref a) _ pins s' _ H' (D.gone j) (I4.suite _ _) h) (λfl s3 q=>?_) (λ_ _ z=>z)
   cases fl with
   | next=>
     obtain⟨σ3,H3,I5,q⟩:=q
     exact zk (I.unsuite I5) hN hj hl λs4 I6=>⟨_,_,I6,q⟩
   | brk=>
     obtain⟨σ3,H3,I5,q⟩:=q
     exact zk (I.unsuite I5) hN hj hl λs4 I6=>⟨_,_,I6,q⟩
   | cont=>
     obtain⟨σ3,H3,I5,q⟩:=q
     exact zk (I.unsuite I5) hN hj hl λs4 I6=>⟨_,_,I6,q⟩
   | ret u=>
     obtain⟨v,σ3,H3,I5,r,q⟩:=q
     exact zk (I.unsuite I5) hN hj hl λs4 I6=>⟨v,_,_,I6,r,q⟩
def ul (tb:(St->XK)->TS) (th:TH):TS:=λD σ H=>∃R:Addr->Addr->Hp->Prop,tb (λσ' c d Hx=>σ'=σ/\∃C dx,c=.ref C/\d=some dx/\R C dx Hx) D σ H/\
 ∀(a C dx T:Addr) (Hx H':Hp),R C dx Hx->Hx a=some (QB a C dx)->(∀b o,b≠a->Hx b=some o->H' b=some o)->H' a=some (jB a C dx (.ref T))->th C a dx D σ H'
theorem kR {X:Cx} {body:List Stmt} {h0:ExceptHandler} {hs:List ExceptHandler} {tb:(St->XK)->TS} {th:TH} {pos:Pos} (hst:X.stack=X.env::X.outer) (hfm:X.env.frame=some X.env.locals)
   (hb:∀(pn:List (Addr×Obj)) (W:Value->Shared->Prop) (E:St->XK),zo (QY X.prog X.w) (X.tried pn W) E->kN (X.tried pn W) body (tb E)) (hh:PH X (h0::hs) th):PS X (.Try body (h0::hs) [] [] pos) (ul tb th):=by
 intro pins s σ H D I h
 obtain⟨R,hbd,hx⟩:=h
 refine wpAny_Try_except ?_
 refine wpAny_mono (hb (X.pn++pins) (λe s₁=>wpAny (model X.prog X.w) X.A (noteFrame e X.env) (λ_ s₂=>wpAny (model X.prog X.w) X.A (setFlight e none) (λ_ s₃=>wpAny (model X.prog X.w) X.A (handleBy e X.env (h0::hs)) (SP X pins D) X.xe s₃) X.xe s₂) X.xe s₁) _ ?_ [] s σ H D (I.tried _) hbd) (λf s1 q=>?_) (λ_ _ z=>z)
 . intro pins' σ' H1 s1 e s' I1 hc
   obtain⟨a,C,dx,T,Hx,H2,rfl,os,bare,un,hok,ha,ht,hxT,hxa,hxs,rfl,C',dx',eC,eD,hR⟩:=hc
   cases eC
   cases eD
   have I2:qx X pins σ' H2 s':=I.untried (I1.call' os un hok bare λb z=>absurd z (by simp))
   obtain⟨⟨fl,he,hz⟩,_,_⟩:=(show qJ X.prog X.w H2 s'.heap a (jB a C dx (.ref T)) from I2.hok a _ ha)
   obtain⟨st0,_,_⟩:=(show qJ X.prog X.w H2 s'.heap T (zZ T .none) from I2.hok T _ ht)
   have nT0:T≠a:=λz=>by
     obtain⟨ts,q,_⟩:=st0
     rw[z,he]at q
     cases q
   have fr:=I2.ok.frames
   have ff:=I2.stack
   rw[hst]at fr ff
   refine YL fr ff hfm he hz st0 nT0 λh1 T' hT F tT q1 q2=>?_
   have lt:=(Array.getElem?_eq_some_iff.mp hz).1
   have g1:(fl.setIfInBounds 1 (Value.ref T'))[1]?=some (.ref T'):=by simp [lt]
   have nT:T'≠a:=λz=>by
     obtain⟨ts,q,_⟩:=q2
     rw[z,q1]at q
     cases q
   refine Jc (fs:=ZW X.stack) q1 g1 q2 λh2 F2 stt=>?_
   have anf:∀b o,H2 b=some o->b∉ZW X.stack:=λb o q z=>by
     have:=I2.stkFree b z
     rw[q]at this
     cases this
   have hTn:H2 T'=none:=I2.hok.fresh hT
   have nTT:T'≠T:=(qt ht hTn).symm
   have q3:=F2.keep a _ (anf a _ ha) (by simp [Ne.symm nT]) q1
   obtain⟨oT,hoT⟩:=tT
   have q4:=F2.keep T _ (anf T _ ht) (by simp [Ne.symm nTT]) hoT
   rw[<-hst]at F
   have I3:=I2.flown (H':=upd (upd (upd H2 a (jB a C dx (.ref T'))) T (.ext λh=>∃o,h.get? T=some o)) T' (zZ T' .none)) (WN.then F F2 hT) ⟨λb hb=>by
       simp only[List.mem_cons,List.not_mem_nil,or_false]at hb
       rcases hb with rfl | rfl
       . exact⟨_,ha⟩
       . exact⟨_,ht⟩,λb o hb q=>by
       simp only[List.mem_cons,List.not_mem_nil,or_false,not_or]at hb
       rw[qi (qt q hTn),qi hb.2,qi hb.1];exact q,λb hb q=>by
       rw[qi (Nat.ne_of_lt (Nat.lt_of_lt_of_le hb hT)),qi (λz=>by rw[z,ht]at q;cases q),qi (λz=>by rw[z,ha]at q;cases q)];exact q⟩ (λb hb=>by
       simp only[List.mem_cons,List.not_mem_nil,or_false]at hb
       rcases hb with rfl | rfl
       . exact⟨_,q3⟩
       . exact⟨_,q4⟩) λb o q hb=>by
     by_cases e1:b=T'
     . subst e1
       rw[qd]at q
       cases q
       exact J9 stt
     . rw[qi e1]at q
       by_cases e2:b=T
       . subst e2
         rw[qd]at q
         cases q
         exact⟨⟨_,q4⟩,⟨_,q4⟩,λh1 h2 ⟨u,z⟩ k=>⟨u,k u z⟩⟩
       . rw[qi e2]at q
         by_cases e3:b=a
         . subst e3
           rw[qd]at q
           cases q
           exact JN ⟨_,q3,g1⟩
         . rw[qi e3]at q
           rcases hb with hb | hb
           . rw[q]at hb;cases hb
           . simp only[List.mem_cons,List.not_mem_nil,or_false]at hb
             exact(hb.elim e3 e2).elim
   have ea:upd (upd (upd H2 a (jB a C dx (.ref T'))) T (.ext λh=>∃o,h.get? T=some o)) T' (zZ T' .none) a=some (jB a C dx (.ref T')):=by rw[qi (Ne.symm nT),qi (Ne.symm nT0),qd]
   refine hh pins _ σ' _ D a C dx T' I3 ea qd (hx a C dx T' Hx _ hR hxa (λb o nb q=>?_) ea)
   have n1:b≠T:=λz=>by rw[z,hxT]at q;cases q
   have q':=hxs b o nb q
   rw[qi (qt q' hTn),qi n1,qi nb]
   exact q'
 . cases f with
   | next=>
     obtain⟨σ',H',I',q⟩:=q
     exact wpAny_execs_nil ⟨σ',H',I.untried I',q⟩
   | brk=>
     obtain⟨σ',H',I',q⟩:=q
     exact⟨σ',H',I.untried I',q⟩
   | cont=>
     obtain⟨σ',H',I',q⟩:=q
     exact⟨σ',H',I.untried I',q⟩
   | ret u=>
     obtain⟨v,σ',H',I',r,q⟩:=q
     exact⟨v,σ',H',I.untried I',r,q⟩
@[irreducible] def JH (X:Cx) (hs:List ExceptHandler) (t:TH):Prop:=PH X hs t
theorem JH.of {X:Cx} {hs:List ExceptHandler} {t:TH} (h:PH X hs t):JH X hs t:=by unfold JH;exact h
theorem JH.to {X:Cx} {hs:List ExceptHandler} {t:TH} (h:JH X hs t):PH X hs t:=by unfold JH at h;exact h
theorem vW {X:Cx} {hs:List ExceptHandler}:JH X hs km:=.of Uk
theorem zg {X:Cx} {x n:Str} {p pos:Pos} {j:Nat} {b₀:Stmt} {suite:List Stmt} {rest:List ExceptHandler} {ts:TS} {tr:TH} {Cl:Addr} (hg:Gl X x) (hm:X.mg x=some (.ref Cl)) (hD:XV X.K Cl) (hN:X.N.Nodup) (hj:X.N[j]?=some n)
   (hl:X.env.scope.names.lookup n=some .local) (hs:∀v E,YB (X.suite v E) (b₀::suite) ts) (hr:JH X rest tr) (hdb:(x==("__debug__":Str))=false:=by decide):JH X (.ExceptHandler (some (.Name x p)) (some n) (b₀::suite) pos::rest) (WV X.K Cl j ts tr):=
 .of (WC hg hm hD.c hN hj hl (λv E=>(hs v E).to) hr.to hdb)
theorem wt {X:Cx} {body:List Stmt} {h0:ExceptHandler} {hs:List ExceptHandler} {tb:(St->XK)->TS} {th:TH} {pos:Pos} (hst:X.stack=X.env::X.outer) (hfm:X.env.frame=some X.env.locals)
   (hb:∀(pn:List (Addr×Obj)) (W:Value->Shared->Prop) (E:St->XK),zo (QY X.prog X.w) (X.tried pn W) E->YB (X.tried pn W) body (tb E)) (hh:JH X (h0::hs) th):JS X (.Try body (h0::hs) [] [] pos) (ul tb th):=
 .of (kR hst hfm (λpn W E h=>(hb pn W E h).to) hh.to)
def yX (K:PySem.W.Frag) (bm:List Value) (ta:TE) (f:Str):TE:=λσ H Q=>ta σ H λx H1=>∃a C dx hd fs v,x=.ref a/\H1 a=some (jB a C dx hd)/\H1 dx=some (.xd fs)/\ZO K C bm/\Qa K C f/\fs.lookup f=some v/\Q v H1
def vq (K:PySem.W.Frag) (bm:List Value):List V->Hp->VK->Prop:=λxs H Q=>∃a C dx hd fs c b,xs=[.ref a,c]/\xr c=true/\H a=some (jB a C dx hd)/\H dx=some (.xd fs)/\ZO K C bm/\PySem.W.kitOne K (.ref C) (yL c)=some b/\Q (.bl b) H
section
variable {X:Cx} {f:Str} {e:Expr} {pos:Pos} {ta:TE} {bm:List Value}
theorem zh (he:JE X e ta) (hb:attributeBase e f X.env (eval e X.env)=eval e X.env):JE X (.Attribute e f pos) (yX X.K bm ta f):=.of (by
 have he:=he.to
 intro pins s σ H Q I h
 refine VF hb (ja (he pins s σ H _ I h) λu s1 z=>?_)
 obtain⟨x,H1,I1,rx,a,C,dx,hd,fs,v,ex,ea,ed,c,n,l,q⟩:=z
 subst ex
 obtain rfl:u=Value.ref a:=rx
 exact UA I1 ea ed c n l λu' s2 I2 ru=>⟨v,H1,I2,ru,q⟩)
theorem jV (hn:PySem.W.specialIn X.K (.builtin "object.__class__") "__get__"=some (some (.builtin "getset_descriptor.__get__"))) (htk:PySem.W.takesIn X.K (.builtin "object.__class__")=some true):jW X (.builtin "isinstance") (vq X.K bm):=by
 intro pins s σ H xs us Q I r h
 obtain⟨a,C,dx,hd,fs,c,b,rfl,hc,ha,hdx,ec,ek,q⟩:=h
 obtain⟨u,w',rfl,ru,rw'⟩:=Xg r
 have ew:w'=yL c:=by
   cases c with
   | ty n=>exact rw'
   | ref z=>exact rw'
   | _=>cases hc
 subst ew
 cases ru
 exact kb I ha hdx ec hn htk ek λtk=>⟨.bl b,H,I.tok tk,rfl,q⟩
end
end L2
set_option Elab.async false
set_option linter.all false
set_option maxRecDepth 100000
set_option maxHeartbeats 4000000
namespace PySem
open PySem.Spec
namespace F
end F
section
variable {prog:Program} {w:World} {A:Around} {R:Result->Shared->Prop} {I:Addr} {fp wr:List Addr} {n:Nat} {P:Nat->Value->Prop} {St:Nat->Heap->Prop} {κ:Type} [DecidableEq κ] {knd:KeyKind prog w κ}
end
section
variable {prog:Program} {w:World} {A:Around} {E:Value->Shared->Prop} {s:Shared} {κ:Type} [DecidableEq κ] {knd:KeyKind prog w κ}
end
end PySem
namespace L2
open PySem PySem.Spec PyProof.Rows
section
variable {X:Cx} {pins:List (Addr×Obj)} {σ:St} {H:Hp} {s:Shared}
end
end L2
set_option Elab.async false
set_option linter.all false
set_option maxRecDepth 100000
set_option maxHeartbeats 4000000
namespace L2
open PySem PySem.Spec PySem.W PyProof.Rows
section
variable {α β:Type} {lt:Nat->Nat->Bool} {n:Nat}
def evT (lt:Nat->Nat->Bool):KasT α->α
 | .ret a=>a
 | .ask i j k=>evT lt (k (lt i j))
end
def ltS (zs:List Str) (i j:Nat):Bool:=decide ((zs.getD i "").cps.toList < (zs.getD j "").cps.toList)
def srt (zs:List Str):List Nat:=if zs.length < 2 then List.range zs.length else (evT (ltS zs) (kas_sort zs.length)).toList
section
variable {P:Program} {w:World} {B:Around} {F:Value->Shared->Prop} {z:Shared}
end
section
variable {X:Cx} {o:Expr} {td:TE} {p1 p2 pos1 pos2 ap cp:Pos}
end
section
variable {X:Cx}
def uA (K:PySem.W.Frag):R2:=λx y H Q=>∃a b xs ys,x=.ref a/\y=.ref b/\SqL K H a xs/\SqL K H b ys/\xs.length+ys.length<=sizeLine/\∀l,H l=none->Q (.ref l) (upd H l (.lst (xs++ys)))
theorem Paired.app {α β:Type} {G:α->β->Prop}:∀{l m:List α} {l' m':List β},Paired G l l'->Paired G m m'->Paired G (l++m) (l'++m')
 | _,_,_,_,.nil,h=>h
 | _,_,_,_,.cons a r,h=>.cons a (Paired.app r h)
theorem QE:Z1 X (binaryOp .Add) (uA X.K):=by
 intro pins s σ H x y v u Q I rx ry h
 obtain⟨a,b,xs,ys,rfl,rfl,ha,hb,hz,q⟩:=h
 cases rx
 cases ry
 obtain⟨its,rv,pl,_⟩:=I.list ha
 obtain⟨its2,rv2,pl2,_⟩:=I.list hb
 have l1:=rv.length
 have l2:=rv2.length
 obtain⟨⟨cls,dd,data,sl⟩,ho,hc,n,hd⟩:=id pl.isList
 obtain⟨⟨cls2,dd2,data2,sl2⟩,ho2,hc2,n2,hd2⟩:=id pl2.isList
 simp only at hc hd hc2 hd2
 subst hc hd hc2 hd2
 have e:its.toArray++its2.toArray=(its++its2).toArray:=by simp
 refine concat_meets ⟨_,ho,rfl⟩ ⟨_,ho2,rfl⟩ noFill_list_add seq_list_add PySem.F.slot_list_add PySem.F.entry_list_add (PySem.F.args_list_add_2 _ _) (list_addW a b its.toArray its2.toArray n n2 dd dd2 sl sl2 (by simp only[List.size_toArray];omega)) ⟨ho,ho2,?_⟩
 rw[e]
 exact⟨.ref s.heap.objs.size,_,I.laid (t':=s.toks) (o:=.lst (xs++ys)) (λb u h=>Heap.get?_push_of_some _ h) (Nat.le_refl _) ⟨by rw[List.length_append];exact hz,its++its2,_,Paired.app rv rv2,Heap.get?_push_size _ rfl⟩,rfl,q _ (I.hok.fresh (Nat.le_refl _))⟩
end
end L2
set_option Elab.async false
set_option linter.all false
set_option maxRecDepth 100000
set_option maxHeartbeats 4000000
namespace L2
open PySem PySem.Spec PySem.W PyProof.Rows
section
variable {X:Cx}
end
end L2
set_option Elab.async false
set_option linter.all false
set_option maxRecDepth 100000
set_option maxHeartbeats 4000000
namespace L2
open PySem PySem.Spec PySem.W PyProof.Rows
section
variable {P:Program} {w:World} {B:Around} {F:Value->Shared->Prop} {z:Shared}
end
section
variable {X:Cx}
end
end L2
set_option Elab.async false
set_option linter.all false
set_option maxRecDepth 100000
set_option maxHeartbeats 4000000
namespace L2
open PySem PySem.Spec PySem.W PyProof.Rows
section
variable {prog:Program} {w:World} {A:Around} {R:Result->Shared->Prop} {I:Addr} {fp wr:List Addr} {G:Array GenState->Array GenState->Prop} {n:Nat} {P:Nat->Value->Prop} {St:Nat->Shared->Prop}
end
section
variable {prog:Program} {w:World} {A:Around} {E:Value->Shared->Prop} {s:Shared}
end
section
variable {X:Cx} {e:Expr} {te:TE} {p1 p2 pos1 pos2:Pos}
end
end L2
set_option Elab.async false
set_option linter.all false
set_option maxRecDepth 100000
set_option maxHeartbeats 4000000
namespace L2
open PySem PyProof.Rows
end L2
set_option Elab.async false
set_option linter.all false
set_option maxRecDepth 100000
set_option maxHeartbeats 4000000
namespace L2
open PySem PyProof.Rows
section
variable {prog:Program} {w:World} {KK:Type} [DecidableEq KK] {kd:HeapKind prog w KK} {A:Around} {E:Value->Shared->Prop} {s:Shared}
end
section
variable {X:Cx} {pins:List (Addr×Obj)} {σ:St} {H:Hp} {s:Shared} {a b:Addr} {v:V} {r:Value} {A:Around} {E:Value->Shared->Prop}
end
section
variable {X:Cx} {o e f:Expr} {apos cpos:Pos} {td ty tx:TE}
end
end L2
set_option Elab.async false
set_option linter.all false
set_option maxRecDepth 100000
set_option maxHeartbeats 4000000
namespace L2
open PySem PyProof.Rows
section
variable {X:Cx}
def uz:R2:=λx y H Q=>∃a b xs ys,x=.ref a/\y=.ref b/\H a=some (.tup xs)/\H b=some (.tup ys)/\xs.length+ys.length<=sizeLine/\∀r H',Same H H'->H' r=some (.tup (xs++ys))->Q (.ref r) H'
theorem zc:Z1 X (binaryOp .Add) uz:=by
 intro pins s σ H x y v u Q I rx ry h
 obtain⟨a,b,xs,ys,rfl,rfl,ha,hb,hz,q⟩:=h
 cases rx
 cases ry
 have sq:∀{c:Addr} {zs:List V},H c=some (.tup zs)->SqT X.K H c zs:=λh=>.of h
 obtain⟨its,r1,p1,_⟩:=I.tuple (sq ha)
 obtain⟨its2,r2,p2,_⟩:=I.tuple (sq hb)
 have sm:Same H H:=λ_ _ h=>h
 by_cases hx:xs=[]
 . subst hx
   cases r1
   obtain⟨⟨c1,d1,e1,f1⟩,o1,k1,n1,g1⟩:=id p1
   obtain⟨⟨c2,d2,e2,f2⟩,o2,k2,n2,g2⟩:=id p2
   simp only at k1 g1 k2 g2
   subst k1 g1 k2 g2
   exact concat_meets ⟨_,o1,rfl⟩ ⟨_,o2,rfl⟩ noFill_tuple_add seq_tuple_add PySem.F.slot_tuple_add PySem.F.entry_tuple_add (PySem.F.args_tuple_add_2 _ _) (tuple_addW0 a b _ _ n1 n2 d1 d2 f1 f2 rfl) ⟨o1,o2,.ref b,H,I,rfl,q b H sm hb⟩
 . refine HT.cat_tup p1 p2 (λz=>hx (r1.nil_iff.mp z)) (λz=>⟨.ref a,H,I,rfl,q a H sm ?_⟩) (λz=>?_) (by rw[<-r1.length,<-r2.length];exact hz)
   . rw[r2.nil_iff.mp z,List.append_nil]
     exact ha
   . have fr:=I.hok.fresh (Nat.le_refl s.heap.objs.size)
     refine⟨.ref s.heap.objs.size,_,I.laid (t':=s.toks) (o:=.tup (xs++ys)) (λc ob e=>Heap.get?_push_of_some _ e) (Nat.le_refl _) ⟨by rw[List.length_append];exact hz,_,r1.append r2,IsTup.new _ _⟩,rfl,q _ _ (λc o e=>?_) qd⟩
     rw[qi (λw=>by rw[w,fr]at e;cases e)]
     exact e
end
end L2
set_option Elab.async false
set_option linter.all false
set_option maxRecDepth 100000
set_option maxHeartbeats 4000000
namespace L2
open PySem PySem.Spec PyProof.Rows
section
variable {X:Cx} {pins:List (Addr×Obj)} {σ:St} {H:Hp} {s:Shared} {tg:Expr}
end
section
variable {a:Addr} {o:Obj} {kvs:List (qW×V)} {zs:List Str} {g:TG} {σ:St} {H:Hp}
end
end L2
set_option Elab.async false
set_option linter.all false
set_option maxRecDepth 100000
set_option maxHeartbeats 4000000
namespace L2
open PySem PySem.Spec PyProof.Rows
section
variable {P:Program} {w:World} {K:PySem.W.Frag} {mg:Str->Option Value} {base:Heap}
theorem Ql.okX {CX:z9} {x qual:Str} {st:Stmt} {f:Addr} {fd:FuncData} {N ps:List Str} {k:Nat} {sp:Sp} (F:Ql K x qual st f fd) (S:qK N ps (qv st)) (len:∀vs H Q E,sp vs H Q E->vs.length=ps.length)
   (hbody:∀(cdv:Value) (A:Around) (outer:List Env) (s:Shared) (H:Hp) (vs:List V) (Q:VK) (E:XK),q5 k (A.deeper (envOfC qual (qv st) s.heap.objs.size f cdv))->sp vs H Q E->
     ∃t,YB (j5 CX P w K mg base N qual (qv st) f cdv A outer s H E) (j4 st) t/\t {nx:=λ_ H'=>Q .non H',rt:=Q} (JY N vs) H):qz P w K mg base CX (k+1) f fd ps sp:=by
 obtain⟨oc,od,kV,doc,pm,an,cdv,ct,osl,rfl,lk,hcd⟩:=F.ex
 refine xv lk hcd S len λA outer s H vs Q E hr hsp=>?_
 obtain⟨t,h,q⟩:=hbody cdv A outer s H vs Q E hr hsp
 exact⟨t,h.to,q⟩
end
mutual
theorem DV.noDict {K:PySem.W.Frag} {H:Hp}:∀{x:V} {d:PyData},DV K H x d->d.hasDict=false
 | _,_,.non=>rfl
 | _,_,.bl b=>rfl
 | _,_,.int i=>rfl
 | _,_,.str x=>rfl
 | _,_,.lst h hs=>DVs.noDict hs
 | _,_,.tup h hs=>DVs.noDict hs
theorem DVs.noDict {K:PySem.W.Frag} {H:Hp}:∀{xs:List V} {ds:List PyData},DVs K H xs ds->PyData.hasDictAll ds=false
 | _,_,.nil=>rfl
 | _,_,.cons h hs=>by rw[PyData.hasDictAll,DV.noDict h,DVs.noDict hs];rfl
end
section
variable {X:Cx} {es:List Expr} {t:TA} {pos:Pos}
end
end L2
set_option Elab.async false
set_option linter.all false
set_option maxRecDepth 100000
set_option maxHeartbeats 4000000
namespace L2
open PySem PySem.Spec PyProof.Rows
section
variable {X:Cx}
end
end L2
namespace L2
open PySem PySem.Spec PyProof.Rows
end L2
set_option Elab.async false
set_option linter.all false
set_option maxRecDepth 100000
set_option maxHeartbeats 4000000
namespace L2
open PySem PySem.Spec PyProof.Rows
section
variable {X:Cx} {pins pins0:List (Addr×Obj)} {σ σ0:St} {H H0:Hp} {s s0:Shared}
end
section
variable {X:Cx}
end
end L2
namespace L2
open PySem PyProof.Rows
end L2
set_option Elab.async false
set_option linter.all false
set_option maxRecDepth 100000
set_option maxHeartbeats 4000000
namespace HT
open PySem PySem.Spec PyProof.Rows
section
variable {prog:Program} {w:World} {A:Around} {E:Value->Shared->Prop} {s:Shared}
theorem getItem_tuple_whole {t sl:Addr} {items:Array Value} {vl vu:Value} {lo hi:Option Int} {Q:Value->Shared->Prop} (ht:IsTup s.heap t items) (hs:s.heap.IsSliceOf sl vl vu .none) (pl:IsPart vl lo) (pu:IsPart vu hi)
   (hw:sIx items.size 0 lo=0/\sIx items.size items.size hi=items.size) (h:Q (.ref t) s):wpAny (model prog w) A (getItem (.ref t) (.ref sl)) Q E s:=by
 obtain⟨os,hos,hcs,hds⟩:=id hs
 have hTs:s.TypeIs (.ref sl) "slice":=⟨os,hos,hcs⟩
 unfold getItem
 try with_reducible refine wpAny_holding ?_
 first | refine wpAny_bind (wpAny_pure ?_) | skip
 refine wpAny_bind (wpAny_sequenceKey ht.typeIs (by decide) ?_)
 refine wpAny_bind (wpAny_callSpecial?_slot (name:=Str.ofString "__getitem__") ht.typeIs PyProof.Rows.slot_tuple_getitem
   (wpAny_call_entry PyProof.Rows.slot_tuple_getitem ht.typeIs entry_tuple_getitem ?_ (args_tuple_getitem _ _)))
 show wpAny _ _ (Builtin.Tuple.tupleItemsOf (.ref t) >>= _) _ _ s
 refine wpAny_bind (tupleItemsOf_ ht ?_)
 refine wpAny_bind (wpAny_typeOf hTs ?_)
 rw[if_pos (by decide)]
 refine wpAny_bind (QO hs pl pu ?_)
 have hno:(((sIx items.size 0 lo:Nat):Int)==0&&(1:Int)==1&&(sIx items.size items.size hi - sIx items.size 0 lo)==items.size)=true:=by
   rw[hw.1,hw.2]
   simp
 show wpAny _ _ (if (((sIx items.size 0 lo:Nat):Int)==0&&(1:Int)==1&&(sIx items.size items.size hi - sIx items.size 0 lo)==items.size)=true then _ else _) _ _ s
 rw[if_pos hno]
 refine wpAny_bind ?_
 unfold Builtin.Tuple.tupleIsExact
 refine wpAny_bind (wpAny_typeOf ht.typeIs (wpAny_pure ?_))
 rw[if_pos (by decide)]
 first
   | exact wpAny_bind (wpAny_rule (wpAny_pure ⟨_,rfl,wpAny_pure h⟩))
   | exact wpAny_bind (wpAny_rule (wpAny_bind (wpAny_pure (wpAny_pure ⟨_,rfl,wpAny_pure h⟩))))
end
end HT
namespace L2
open PySem PySem.Spec PyProof.Rows
section
variable {X:Cx}
def xc (K:PySem.W.Frag):V->Option Int->Option Int->Hp->VK->Prop:=λx lo hi H Q=>uq K x lo hi H Q\/∃a xs,x=.ref a/\SqT K H a xs/\(HT.sIx xs.length 0 lo=0/\HT.sIx xs.length xs.length hi=xs.length)/\Q (.ref a) H
theorem W0:Kk X (xc X.K):=by
 intro pins s σ H x v vl vu lo hi sl Q I rx hs pl pu h
 rcases h with h | ⟨a,xs,rfl,hx,hw,q⟩
 . exact xJ pins s σ H x v vl vu lo hi sl Q I rx hs pl pu h
 . cases rx
   obtain⟨its,r,ht,hz⟩:=I.tuple hx
   have hlen:its.toArray.size=xs.length:=by rw[List.size_toArray];exact r.length.symm
   exact⟨"tuple",_,PyProof.Rows.slot_tuple_getitem.lookup,ht.typeIs,HT.getItem_tuple_whole ht hs pl pu (by rw[hlen];exact hw) ⟨.ref a,H,I,rfl,q⟩⟩
end
end L2
namespace L2
open PySem PyProof.Rows
end L2
set_option Elab.async false
set_option linter.all false
set_option maxRecDepth 100000
set_option maxHeartbeats 4000000
namespace L2
open PySem PySem.Spec PyProof.Rows
section
variable {X:Cx} {CX:z9} {C:Addr->Sp->Prop} {E:St->XK} {x:Str} {p pos:Pos} {e:Expr} {es:List Expr} {t:TA} {i:Nat}
end
end L2
set_option Elab.async false
set_option linter.all false
set_option maxRecDepth 100000
set_option maxHeartbeats 4000000
namespace L2
open PySem PySem.Spec PyProof.Rows
section
variable {M:Model} {A:Around} {F:Value->Shared->Prop} {s:Shared} {e:Addr} {cl:Value} {d:Option Addr} {vs:Array Value} {Q:Unit->Shared->Prop}
theorem WA {T:Addr} {fl:Value} {fs:List Addr} {fr:Option Addr} (he:s.heap.get? e=some {cls:=cl,dict:=d,data:=.fields vs}) (h1:vs[1]?=some (.ref T)) (st:kF T fl s.heap)
   (k:∀h',WN fs [T] s.heap h'->kF T (fr.elim .none λf=>rawInt f) h'->Q () {s with heap:=h'}):wpAny M A (setFlight (.ref e) fr) Q F s:=by
 obtain⟨ts,ht,h3⟩:=st
 have lt:=(Array.getElem?_eq_some_iff.mp h3).1
 unfold setFlight
 refine wpAny_bind (wpAny_field he rfl h1 ?_)
 rw[if_pos (show (Value.ref T != Value.none)=true from by simp)]
 refine wpAny_setField ht rfl lt (k _ ⟨λb o _ n q=>?_,λb o _ n q=>⟨o.slots,?_⟩⟩ ⟨_,Heap.get?_update_self _ ht rfl,by simp [lt]⟩)
 all_goals
   rw[Heap.get?_update_other _ _ λz=>n (by simp [z])]
   exact q
end
section
variable {X:Cx} {pins:List (Addr×Obj)} {σ:St} {H:Hp} {s:Shared} {M:Model} {F:Value->Shared->Prop} {Q:Unit->Shared->Prop} {a C dx:Addr}
theorem yI (I:qx X pins σ H s) (hst:X.stack=X.env::X.outer) (hfm:X.env.frame=some X.env.locals) (ha:H a=some (QB a C dx))
   (k:∀T h',H T=none->T≠a->qx X pins σ (upd (upd H a (jB a C dx (.ref T))) T (zZ T (rawInt X.env.locals))) {s with heap:=h'}->Q () {s with heap:=h'}):wpAny M X.A (noteFrame (.ref a) X.env) Q F s:=by
 obtain⟨⟨fl,he,hz⟩,_,_⟩:=(show qJ X.prog X.w H s.heap a (jB a C dx .none) from I.hok a _ ha)
 have fr:=I.ok.frames
 have ff:=I.stack
 rw[hst]at fr ff
 refine XB fr ff hfm he hz λh1 T hT F1 q1 q2=>?_
 rw[<-hst]at F1
 have lt:=(Array.getElem?_eq_some_iff.mp hz).1
 have g1:(fl.setIfInBounds 1 (Value.ref T))[1]?=some (.ref T):=by simp [lt]
 have nT:T≠a:=λz=>by
   obtain⟨ts,q,_⟩:=q2
   rw[z,q1]at q
   cases q
 have hTn:H T=none:=I.hok.fresh hT
 refine k T h1 hTn nT (I.flown F1 ⟨λb hb=>by cases List.mem_singleton.mp hb;exact⟨_,ha⟩,λb o hb q=>by
     rw[qi (qt q hTn),qi λz=>hb (by simp [z])];exact q,λb hb q=>by
     rw[qi (Nat.ne_of_lt (Nat.lt_of_lt_of_le hb hT)),qi λz=>by rw[z,ha]at q;cases q];exact q⟩ (λb hb=>by cases List.mem_singleton.mp hb;exact⟨_,q1⟩) λb o q hb=>?_)
 by_cases e1:b=T
 . subst e1
   rw[qd]at q
   cases q
   exact J9 q2
 . rw[qi e1]at q
   by_cases e2:b=a
   . subst e2
     rw[qd]at q
     cases q
     exact JN ⟨_,q1,g1⟩
   . rw[qi e2]at q
     rcases hb with hb | hb
     . rw[q]at hb;cases hb
     . exact absurd (List.mem_singleton.mp hb) e2
theorem wz {T:Addr} (I:qx X pins σ H s) (hst:X.stack=X.env::X.outer) (hfm:X.env.frame=some X.env.locals) (ha:H a=some (jB a C dx (.ref T))) (ht:H T=some (zZ T .none))
   (k:∀T' h',H T'=none->T'≠a->qx X pins σ (upd (upd (upd H a (jB a C dx (.ref T'))) T (.ext λh=>∃o,h.get? T=some o)) T' (zZ T' (rawInt X.env.locals))) {s with heap:=h'}->Q () {s with heap:=h'}):wpAny M X.A (noteFrame (.ref a) X.env) Q F s:=by
 obtain⟨⟨fl,he,hz⟩,_,_⟩:=(show qJ X.prog X.w H s.heap a (jB a C dx (.ref T)) from I.hok a _ ha)
 obtain⟨st0,_,_⟩:=(show qJ X.prog X.w H s.heap T (zZ T .none) from I.hok T _ ht)
 have nT0:T≠a:=λz=>by
   obtain⟨ts,q,_⟩:=st0
   rw[z,he]at q
   cases q
 have fr:=I.ok.frames
 have ff:=I.stack
 rw[hst]at fr ff
 refine YL fr ff hfm he hz st0 nT0 λh1 T' hT F1 tT q1 q2=>?_
 rw[<-hst]at F1
 have lt:=(Array.getElem?_eq_some_iff.mp hz).1
 have g1:(fl.setIfInBounds 1 (Value.ref T'))[1]?=some (.ref T'):=by simp [lt]
 have nT:T'≠a:=λz=>by
   obtain⟨ts,q,_⟩:=q2
   rw[z,q1]at q
   cases q
 have hTn:H T'=none:=I.hok.fresh hT
 obtain⟨oT,hoT⟩:=tT
 refine k T' h1 hTn nT (I.flown F1 ⟨λb hb=>by
     simp only[List.mem_cons,List.not_mem_nil,or_false]at hb
     rcases hb with rfl | rfl
     . exact⟨_,ha⟩
     . exact⟨_,ht⟩,λb o hb q=>by
     simp only[List.mem_cons,List.not_mem_nil,or_false,not_or]at hb
     rw[qi (qt q hTn),qi hb.2,qi hb.1];exact q,λb hb q=>by
     rw[qi (Nat.ne_of_lt (Nat.lt_of_lt_of_le hb hT)),qi (λz=>by rw[z,ht]at q;cases q),qi (λz=>by rw[z,ha]at q;cases q)];exact q⟩ (λb hb=>by
     simp only[List.mem_cons,List.not_mem_nil,or_false]at hb
     rcases hb with rfl | rfl
     . exact⟨_,q1⟩
     . exact⟨_,hoT⟩) λb o q hb=>?_)
 by_cases e1:b=T'
 . subst e1
   rw[qd]at q
   cases q
   exact J9 q2
 . rw[qi e1]at q
   by_cases e2:b=T
   . subst e2
     rw[qd]at q
     cases q
     exact⟨⟨_,hoT⟩,⟨_,hoT⟩,λh1 h2 ⟨u,z⟩ k=>⟨u,k u z⟩⟩
   . rw[qi e2]at q
     by_cases e3:b=a
     . subst e3
       rw[qd]at q
       cases q
       exact JN ⟨_,q1,g1⟩
     . rw[qi e3]at q
       rcases hb with hb | hb
       . rw[q]at hb;cases hb
       . simp only[List.mem_cons,List.not_mem_nil,or_false]at hb
         exact(hb.elim e3 e2).elim
theorem XJ {T:Addr} (I:qx X pins σ H s) (hfm:X.env.frame=some X.env.locals) (ha:H a=some (jB a C dx (.ref T))) (ht:H T=some (zZ T (rawInt X.env.locals))) (k:Q () s):wpAny M X.A (noteFrame (.ref a) X.env) Q F s:=by
 obtain⟨⟨fl,he,hz⟩,_,_⟩:=(show qJ X.prog X.w H s.heap a (jB a C dx (.ref T)) from I.hok a _ ha)
 obtain⟨st0,_,_⟩:=(show qJ X.prog X.w H s.heap T (zZ T (rawInt X.env.locals)) from I.hok T _ ht)
 exact Uj hfm he hz st0 k
theorem YV {T:Addr} {fl:Value} {fr:Option Addr} (I:qx X pins σ H s) (ha:H a=some (jB a C dx (.ref T))) (ht:H T=some (zZ T fl))
   (k:∀h',qx X pins σ (upd H T (zZ T (fr.elim .none λf=>rawInt f))) {s with heap:=h'}->Q () {s with heap:=h'}):wpAny M X.A (setFlight (.ref a) fr) Q F s:=by
 obtain⟨⟨fs,he,hz⟩,_,_⟩:=(show qJ X.prog X.w H s.heap a (jB a C dx (.ref T)) from I.hok a _ ha)
 obtain⟨st0,_,_⟩:=(show qJ X.prog X.w H s.heap T (zZ T fl) from I.hok T _ ht)
 refine WA (fs:=ZW X.stack) he hz st0 λh1 F1 st=>?_
 obtain⟨ts,q,z⟩:=id st
 refine k h1 (I.flown F1 ⟨λb hb=>by cases List.mem_singleton.mp hb;exact⟨_,ht⟩,λb o hb q=>by rw[qi (λz=>hb (by simp [z]))];exact q,λb hb q=>by rw[qi (λz=>by rw[z,ht]at q;cases q)];exact q⟩ (λb hb=>by cases List.mem_singleton.mp hb;exact⟨_,q⟩) λb o q hb=>?_)
 by_cases e1:b=T
 . subst e1
   rw[qd]at q
   cases q
   exact J9 st
 . rw[qi e1]at q
   rcases hb with hb | hb
   . rw[q]at hb;cases hb
   . exact absurd (List.mem_singleton.mp hb) e1
end
def VJ (X:Cx) (pins:List (Addr×Obj)) (E:XK):Value->Shared->Prop:=λe s=>
 (∃(a C dx:Addr) (H:Hp) (σ:St),e=.ref a/\qx X pins σ H s/\H a=some (QB a C dx)/\E (.ref C) (some dx) H)\/
 ∃(a C dx T:Addr) (fl:Value) (Hx H:Hp) (σ:St),e=.ref a/\qx X pins σ H s/\(fl=.none\/fl=rawInt X.env.locals)/\H a=some (jB a C dx (.ref T))/\H T=some (zZ T fl)/\Hx T=none/\Hx a=some (QB a C dx)/\(∀b o,b≠a->Hx b=some o->H b=some o)/\E (.ref C) (some dx) Hx
theorem Uw {X:Cx} {pins:List (Addr×Obj)} {E:XK} (hst:X.stack=X.env::X.outer) (hfm:X.env.frame=some X.env.locals):PassesOwn (model X.prog X.w) X.A X.env (VJ X pins E):=by
 intro e s h
 have back:∀{a C dx T:Addr} {fl:Value} {H Hx:Hp} {σ:St} {s':Shared},qx X pins σ H s'->H a=some (jB a C dx (.ref T))->H T=some (zZ T fl)->T≠a->Hx T=none->Hx a=some (QB a C dx)->(∀b o,b≠a->Hx b=some o->H b=some o)->E (.ref C) (some dx) Hx->cameBackBy (model X.prog X.w) X.A X.env (VJ X pins E) (.ref a) s':=λ{a C dx T fl H Hx σ s'} I ha ht nT h1 h2 h3 hE=>by
   obtain⟨⟨fs,he,hz⟩,_,_⟩:=(show qJ X.prog X.w H s'.heap a (jB a C dx (.ref T)) from I.hok a _ ha)
   unfold cameBackBy
   refine wpAny_bind (wpAny_field he rfl hz ?_)
   rw[if_neg (show ¬((Value.ref T==Value.none)=true) by simp)]
   first
     | refine YV I ha ht λh' I2=>?_
     | refine wpAny_bind (wpAny_pure (YV I ha ht λh' I2=>?_))
   refine .inr ⟨a,C,dx,T,_,Hx,_,σ,rfl,I2,.inr (by rw[hfm];rfl),by rw[qi (Ne.symm nT)];exact ha,qd,h1,h2,λb o nb q=>?_,hE⟩
   rw[qi (λz=>by rw[z,h1]at q;cases q)]
   exact h3 b o nb q
 rcases h with ⟨a,C,dx,H,σ,rfl,I,ha,hE⟩ | ⟨a,C,dx,T,fl,Hx,H,σ,rfl,I,hfl,ha,ht,h1,h2,h3,hE⟩
 . refine yI I hst hfm ha λT h' hT nT I2=>?_
   exact back (Hx:=H) I2 (by rw[qi (Ne.symm nT)];exact qd) qd nT hT ha (λb o nb q=>by rw[qi (qt q hT),qi nb];exact q) hE
 . have nT:T≠a:=λz=>by rw[z,h2]at h1;cases h1
   rcases hfl with rfl | rfl
   . refine wz I hst hfm ha ht λT' h' hT nT' I2=>?_
     refine back (Hx:=Hx) I2 (by rw[qi (Ne.symm nT'),qi (Ne.symm nT)];exact qd) qd nT' ?_ h2 (λb o nb q=>?_) hE
     . cases q:Hx T' with
       | none=>rfl
       | some o=>rw[h3 T' o nT' q]at hT;cases hT
     . have n1:b≠T:=λz=>by rw[z,h1]at q;cases q
       have q':=h3 b o nb q
       rw[qi (qt q' hT),qi n1,qi nb]
       exact q'
   . exact XJ I hfm ha ht (back I ha ht nT h1 h2 h3 hE)
section
variable {P:Program} {w:World} {K:PySem.W.Frag} {mg:Str->Option Value} {base:Heap} {N:List Str} {qual:Str} {scope:Scope} {f:Addr} {cd:Value} {A:Around} {outer:List Env} {s₀:Shared} {H₀:Hp} {E:XK}
theorem Ux {pins:List (Addr×Obj)} {e:Value} {s:Shared} (h:VJ (j5 (QY P w) P w K mg base N qual scope f cd A outer s₀ H₀ E) pins E e s):(j5 (QY P w) P w K mg base N qual scope f cd A outer s₀ H₀ E).xe e s:=by
 rcases h with ⟨a,C,dx,H,σ,rfl,I,ha,hE⟩ | ⟨a,C,dx,T,fl,Hx,H,σ,rfl,I,hfl,ha,ht,h1,h2,h3,hE⟩
 . exact JB pins σ H s a C dx I ha hE
 . rcases hfl with rfl | rfl
   . exact QQ pins σ H s _ s I ⟨a,C,dx,T,Hx,H,rfl,rfl,I.bare,Un.refl,I.hok,ha,ht,h1,h2,h3,hE⟩
   . show wpAny _ _ (leaving _ _) _ _ s
     unfold leaving
     refine wpAny_bind (XJ I rfl ha ht ?_)
     have nT:T≠a:=λz=>by rw[z,h2]at h1;cases h1
     refine YV (fr:=none) I ha ht λh' I2=>?_
     refine⟨a,C,dx,T,Hx,_,rfl,I2.os,I2.bare,I2.base,I2.hok,by rw[qi (Ne.symm nT)];exact ha,qd,h1,h2,λb o nb q=>?_,hE⟩
     rw[qi (λz=>by rw[z,h1]at q;cases q)]
     exact h3 b o nb q
theorem vQ {st:Stmt} {t:TS} (h:∀(pn:List (Addr×Obj)) (W:Value->Shared->Prop),PassesOwn (model P w) (j5 (QY P w) P w K mg base N qual scope f cd A outer s₀ H₀ E).A (j5 (QY P w) P w K mg base N qual scope f cd A outer s₀ H₀ E).env W->
     Qz (QY P w) ((j5 (QY P w) P w K mg base N qual scope f cd A outer s₀ H₀ E).tried pn W) E->Y9 ((j5 (QY P w) P w K mg base N qual scope f cd A outer s₀ H₀ E).tried pn W) E->JS ((j5 (QY P w) P w K mg base N qual scope f cd A outer s₀ H₀ E).tried pn W) st t):
   PS (j5 (QY P w) P w K mg base N qual scope f cd A outer s₀ H₀ E) st t:=by
 intro pins s σ H D I hw
 refine wpAny_mono ((h _ (VJ _ pins E) (Uw rfl rfl) ?_ ?_).to [] s σ H D (I.tried _) hw) (λfl s1 q=>?_) (λe s1 z=>Ux z)
 . intro pins' σ' H1 s1 e s' I1 hc
   obtain⟨a,C,dx,T,Hx,H2,rfl,os,bare,un,hok,ha,ht,hxT,hxa,hxs,hE⟩:=hc
   have I2:=I.untried (I1.call' os un hok bare λb z=>absurd z (by simp))
   exact .inr ⟨a,C,dx,T,.none,Hx,H2,σ',rfl,I2,.inl rfl,ha,ht,hxT,hxa,hxs,hE⟩
 . intro pins' σ' H1 s1 a C dx I1 ha hE
   exact .inl ⟨a,C,dx,H1,σ',rfl,I.untried I1,ha,hE⟩
 . cases fl with
   | next=>obtain⟨σ',H',I',q⟩:=q;exact⟨σ',H',I.untried I',q⟩
   | brk=>obtain⟨σ',H',I',q⟩:=q;exact⟨σ',H',I.untried I',q⟩
   | cont=>obtain⟨σ',H',I',q⟩:=q;exact⟨σ',H',I.untried I',q⟩
   | ret u=>obtain⟨v,σ',H',I',r,q⟩:=q;exact⟨v,σ',H',I.untried I',r,q⟩
theorem zf {st:Stmt} {t:TS} (h:∀(pn:List (Addr×Obj)) (W:Value->Shared->Prop),PassesOwn (model P w) (j5 (QY P w) P w K mg base N qual scope f cd A outer s₀ H₀ E).A (j5 (QY P w) P w K mg base N qual scope f cd A outer s₀ H₀ E).env W->
     Qz (QY P w) ((j5 (QY P w) P w K mg base N qual scope f cd A outer s₀ H₀ E).tried pn W) E->Y9 ((j5 (QY P w) P w K mg base N qual scope f cd A outer s₀ H₀ E).tried pn W) E->JS ((j5 (QY P w) P w K mg base N qual scope f cd A outer s₀ H₀ E).tried pn W) st t):
   JS (j5 (QY P w) P w K mg base N qual scope f cd A outer s₀ H₀ E) st t:=.of (vQ h)
end
end L2
set_option Elab.async false
set_option linter.all false
set_option maxRecDepth 100000
set_option maxHeartbeats 4000000
namespace L2
open PySem PySem.Spec PyProof.Rows
section
variable {X:Cx}
end
end L2
set_option Elab.async false
set_option linter.all false
set_option maxRecDepth 100000
set_option maxHeartbeats 4000000
namespace L2
open PySem PySem.Spec PyProof.Rows
def QG:Nat->List (Str×NameKind)->List (Str×Addr)->List (Str×Addr)
 | _,[],cs=>cs
 | n,(x,k)::r,cs=>if k==.cell then QG (n+1) r ((x,n)::cs) else QG n r cs
def kA:Obj:={cls:=.type "cell",data:=.cell none}
structure UM (n:Nat) (l:List (Str×NameKind)) (cs cs':List (Str×Addr)) (h h':Heap):Prop where
 kp:∀b o,h.get? b=some o->h'.get? b=some o
 same:∀x,(x,NameKind.cell)∉l->cs'.lookup x=cs.lookup x
 own:∀x,(x,NameKind.cell)∈l->∃c,cs'.lookup x=some c/\n<=c/\h'.get? c=some kA
 inj:∀x y c,(x,NameKind.cell)∈l->(y,NameKind.cell)∈l->cs'.lookup x=some c->cs'.lookup y=some c->x=y
theorem zp {M:Model} {A:Around} {E:Value->Shared->Prop}:∀(l:List (Str×NameKind)) (cs:List (Str×Addr)) (s:Shared) (Q:List (Str×Addr)->Shared->Prop),
   (∀h',UM s.heap.objs.size l cs (QG s.heap.objs.size l cs) s.heap h'->Q (QG s.heap.objs.size l cs) {s with heap:=h'})->
   wpAny M A (forIn l cs λx (r:List (Str×Addr))=>if (x.snd==NameKind.cell)=true then (do let a <-alloc {cls:=.type "cell",data:=.cell none};pure (ForInStep.yield ((x.fst,a)::r)):Sem (ForInStep (List (Str×Addr)))) else pure (ForInStep.yield r)) Q E s
 | [],cs,s,Q,k=>by
   rw[List.forIn_nil]
   exact wpAny_pure (k s.heap ⟨λ_ _ e=>e,λ_ _=>rfl,(λ_ h=>nomatch h),(λ_ _ _ h=>nomatch h)⟩)
 | (x,k)::l,cs,s,Q,q=>by
   rw[List.forIn_cons]
   by_cases hk:k=.cell
   . subst hk
     have cb:(NameKind.cell==NameKind.cell)=true:=rfl
     have eo:QG s.heap.objs.size ((x,NameKind.cell)::l) cs=QG (s.heap.objs.size+1) l ((x,s.heap.objs.size)::cs):=by
       show (if (NameKind.cell==NameKind.cell)=true then _ else _)=_
       rw[if_pos cb]
     rw[eo]at q
     dsimp only
     rw[if_pos cb]
     refine wpAny_bind (wpAny_bind (wpAny_alloc (wpAny_pure ?_)))
     refine zp l _ _ Q λh' o=>?_
     have sz:(s.heap.push {cls:=.type "cell",data:=.cell none}).objs.size=s.heap.objs.size+1:=Heap.size_push ..
     dsimp only at o ⊢
     rw[sz]at o ⊢
     refine q h' ⟨λb u e=>o.kp b u (Heap.get?_push_of_some _ e),λy hy=>?_,λy hy=>?_,λy z c hy hz e1 e2=>?_⟩
     . have n1:(y,NameKind.cell)∉l:=λz=>hy (List.mem_cons_of_mem _ z)
       have n2:y≠x:=λz=>hy (by rw[z];exact List.mem_cons_self)
       rw[o.same y n1,List.lookup_cons]
       have:(y==x)=false:=beq_eq_false_iff_ne.mpr n2
       simp only[this]
     . by_cases m:(y,NameKind.cell)∈l
       . obtain⟨c,e1,e2,e3⟩:=o.own y m
         exact⟨c,e1,by omega,e3⟩
       . have e:y=x:=by
           rcases List.mem_cons.mp hy with z | z
           . exact(Prod.mk.inj z).1
           . exact absurd z m
         subst e
         refine⟨s.heap.objs.size,?_,Nat.le_refl _,o.kp _ _ (Heap.get?_push_size _ rfl)⟩
         rw[o.same y m,List.lookup_cons]
         simp only[beq_self_eq_true]
     . have at_x:∀{u:Str},(u,NameKind.cell)∈(x,NameKind.cell)::l->(u,NameKind.cell)∉l->u=x:=λ{u} h n=>by
         rcases List.mem_cons.mp h with z | z
         . exact(Prod.mk.inj z).1
         . exact absurd z n
       have val_x:∀{u:Str},(u,NameKind.cell)∉l->u=x->∀{c},(QG (s.heap.objs.size+1) l ((x,s.heap.objs.size)::cs)).lookup u=some c->c=s.heap.objs.size:=λ{u} n e {c} h=>by
         rw[o.same u n,e,List.lookup_cons]at h
         simp only[beq_self_eq_true]at h
         exact(Option.some.inj h).symm
       by_cases m1:(y,NameKind.cell)∈l
       . by_cases m2:(z,NameKind.cell)∈l
         . exact o.inj y z c m1 m2 e1 e2
         . exfalso
           obtain⟨c',a1,a2,_⟩:=o.own y m1
           rw[e1]at a1
           rw[<-Option.some.inj a1,val_x m2 (at_x hz m2) e2]at a2
           exact absurd a2 (Nat.not_succ_le_self _)
       . by_cases m2:(z,NameKind.cell)∈l
         . exfalso
           obtain⟨c',a1,a2,_⟩:=o.own z m2
           rw[e2]at a1
           rw[<-Option.some.inj a1,val_x m1 (at_x hy m1) e1]at a2
           exact absurd a2 (Nat.not_succ_le_self _)
         . rw[at_x hy m1,at_x hz m2]
   . have cb:(k==NameKind.cell)=false:=by simpa using hk
     have eo:QG s.heap.objs.size ((x,k)::l) cs=QG s.heap.objs.size l cs:=by
       show (if (k==NameKind.cell)=true then _ else _)=_
       rw[cb,if_neg (by decide)]
     rw[eo]at q
     dsimp only
     rw[cb,if_neg (by decide)]
     refine wpAny_bind (wpAny_pure ?_)
     refine zp l _ _ Q λh' o=>q h' ?_
     have nx:∀{y:Str},(y,NameKind.cell)∈(x,k)::l->(y,NameKind.cell)∈l:=λ{y} h=>by
       rcases List.mem_cons.mp h with z | z
       . exact absurd (Prod.mk.inj z).2.symm hk
       . exact z
     exact⟨o.kp,λy hy=>o.same y λz=>hy (List.mem_cons_of_mem _ z),λy hy=>o.own y (nx hy),λy z c h1 h2=>o.inj y z c (nx h1) (nx h2)⟩
theorem X1 {M:Model} {A:Around} {E:Value->Shared->Prop} {s:Shared} {scope:Scope} {g:Addr} {cs:List (Str×Addr)} {q:Str} {env:Env} {Q:Env->Shared->Prop}
   (k:∀h',UM (s.heap.objs.size+1) scope.names cs (QG (s.heap.objs.size+1) scope.names cs) (s.heap.push {cls:=.type "dict",data:=.dict #[]}) h'->
     Q {scope:=scope,locals:=s.heap.objs.size,globals:=g,cells:=QG (s.heap.objs.size+1) scope.names cs,qual:=q,func:=none,code:=env.code,frame:=env.frame,builtins:=env.builtins} {s with heap:=h'}):
   wpAny M A (newFunctionEnv scope g cs [] q none .none (some env)) Q E s:=by
 unfold newFunctionEnv
 refine wpAny_bind (wpAny_alloc ?_)
 dsimp only
 have sz:(s.heap.push {cls:=.type "dict",data:=.dict #[]}).objs.size=s.heap.objs.size+1:=Heap.size_push ..
 refine wpAny_bind (zp scope.names cs _ _ λh' o=>?_)
 dsimp only at o ⊢
 have o':UM (s.heap.objs.size+1) scope.names cs (QG (s.heap.objs.size+1) scope.names cs) (s.heap.push {cls:=.type "dict",data:=.dict #[]}) h':=by
   rw[<-sz];exact o
 rw[List.forIn_nil]
 refine wpAny_bind (wpAny_pure (wpAny_pure ?_))
 have:=k h' o'
 rw[<-sz]at this
 exact this
def Yq (X:Cx) (N:List Str) (scope:Scope) (C:Addr) (s₂:Shared) (H₂:Hp) (fp:List Addr) (pins:List (Addr×Obj)):Cx where
 prog:=X.prog
 w:=X.w
 K:=X.K
 mg:=X.mg
 base:=X.base
 A:=X.A
 N:=N
 s₀:=s₂
 H₀:=H₂
 env:=compEnvC scope (QG (C+1) scope.names (qV X.env scope.names [])) C X.env
 outer:=X.stack
 stack:=X.stack
 ex:=fp
 fn:=λx=>scope.names.lookup x==some .cell
 calm:=X.calm
 pn:=X.pn++pins
 xe:=λ_ _=>False
structure jS (X:Cx) (N':List Str) (ix:List (Option Nat)) (scope:Scope):Prop where
 kind:scope.kind=.function
 nd:(scope.names.map (·.1)).Nodup
 frees:(scope.names.all λx=>x.2 != .free || (X.env.scope.names.lookup x.1==some .cell || X.env.scope.names.lookup x.1==some .free))=true
 ixs:Uq N' X.N scope X.env.scope ix=true
theorem zd {x:Str} {k:NameKind}:∀{l:List (Str×NameKind)},(l.map (·.1)).Nodup->(x,k)∈l->l.lookup x=some k
 | [],_,h=>nomatch h
 | (n,j)::r,hn,h=>by
   rw[List.map_cons,List.nodup_cons]at hn
   rw[List.lookup_cons]
   rcases List.mem_cons.mp h with e | e
   . cases e
     simp only[beq_self_eq_true]
   . have:x≠n:=λz=>hn.1 (List.mem_map.mpr ⟨_,e,z⟩)
     have hb:(x==n)=false:=beq_eq_false_iff_ne.mpr this
     simp only[hb]
     exact zd hn.2 e
section
variable {X:Cx} {N':List Str} {ix:List (Option Nat)} {scope:Scope} {pins:List (Addr×Obj)} {σ:St} {H:Hp} {s:Shared}
theorem jS.locH (S:jS X N' ix scope):∀y∈scope.names,y.2=.local->scope.names.lookup y.1=some .local:=λy hy e=>zd S.nd (by rw[<-e];exact hy)
theorem jS.freeH (S:jS X N' ix scope) (ok:X.Ok):∀x∈scope.names,x.2=.free->∃c,X.env.cells.lookup x.1=some c:=λx hx e=>by
 have:=List.all_eq_true.mp S.frees x hx
 simp only[e,Bool.or_eq_true,bne_self_eq_false,Bool.false_eq_true,false_or,beq_iff_eq]at this
 exact ok.has x.1 this
theorem jS.clook (S:jS X N' ix scope) (ok:X.Ok) {x:Str} {c:Addr} (h:(qV X.env scope.names []).lookup x=some c):X.env.cells.lookup x=some c/\(x,NameKind.free)∈scope.names:=by
 rcases Jw h with h | ⟨h1,h2⟩
 . simp at h
 . obtain⟨c',hc'⟩:=S.freeH ok _ h1 rfl
   have hc2:X.env.cells.lookup x=some c':=hc'
   rw[hc2]at h2
   subst h2
   exact⟨hc2,h1⟩
theorem jS.notOwn (S:jS X N' ix scope) {x:Str} (h:(x,NameKind.free)∈scope.names):(x,NameKind.cell)∉scope.names:=λh2=>by
 have e1:=zd S.nd h
 rw[zd S.nd h2]at e1
 cases e1
theorem jS.either {C:Addr} {h0 h₁:Heap} (S:jS X N' ix scope) (I:qx X pins σ H s) (o:UM (C+1) scope.names (qV X.env scope.names []) (QG (C+1) scope.names (qV X.env scope.names [])) h0 h₁) {x:Str} {c:Addr}
   (h:(QG (C+1) scope.names (qV X.env scope.names [])).lookup x=some c):(X.env.cells.lookup x=some c/\(x,NameKind.free)∈scope.names/\c < s.heap.objs.size)\/((x,NameKind.cell)∈scope.names/\C+1<=c/\h₁.get? c=some kA):=by
 by_cases m:(x,NameKind.cell)∈scope.names
 . obtain⟨c',e1,e2,e3⟩:=o.own x m
   rw[h]at e1
   cases e1
   exact .inr ⟨m,e2,e3⟩
 . rw[o.same x m]at h
   obtain⟨a,b⟩:=S.clook I.ok h
   obtain⟨v,q⟩:=I.cell x c a
   exact .inl ⟨a,b,q.lt⟩
theorem wD {C:Addr} {fp:List Addr} {h0 h₁:Heap} (S:jS X N' ix scope) (I:qx X pins σ H s) (hC:s.heap.objs.size<=C) (o:UM (C+1) scope.names (qV X.env scope.names []) (QG (C+1) scope.names (qV X.env scope.names [])) h0 h₁) (hf:∀b∈fp,QW X pins H b) (hfo:∀b∈fp,b < s.heap.objs.size):(Yq X N' scope C s H fp pins).Ok where
 mod:=I.ok.mod
 kind:=S.kind
 glob:=I.ok.glob
 blt:=I.ok.blt
 above:=hC
 inj:=λx y c h1 h2=>by
   rcases S.either I o h1 with ⟨a1,a2,a3⟩ | ⟨a1,a2,a3⟩
   . rcases S.either I o h2 with ⟨b1,b2,b3⟩ | ⟨b1,b2,b3⟩
     . exact I.ok.inj x y c a1 b1
     . exact absurd (Nat.lt_of_lt_of_le a3 (Nat.le_trans (Nat.le_succ_of_le hC) b2)) (Nat.lt_irrefl _)
   . rcases S.either I o h2 with ⟨b1,b2,b3⟩ | ⟨b1,b2,b3⟩
     . exact absurd (Nat.lt_of_lt_of_le b3 (Nat.le_trans (Nat.le_succ_of_le hC) a2)) (Nat.lt_irrefl _)
     . exact o.inj x y c a1 b1 h1 h2
 has:=λx hx=>by
   have hx':(relabel scope X.env).names.lookup x=some .cell\/(relabel scope X.env).names.lookup x=some .free:=hx
   show ∃c,(QG (C+1) scope.names (qV X.env scope.names [])).lookup x=some c
   have go:∀k,(k=NameKind.cell\/k=.free)->(relabel scope X.env).names.lookup x=some k->(x,NameKind.free)∈scope.names\/(x,NameKind.cell)∈scope.names:=λk hk h=>by
     obtain⟨j,h1,h2⟩:=QI (f:=λ(n,k)=>if (k==NameKind.free&&X.env.scope.kind==.function&&X.env.kindOf n==some .cell) then (n,NameKind.cell) else (n,k)) (λp=>by dsimp only;split<;>rfl) h
     have hm:=mem_of_lookup h1
     by_cases hj:j=.free
     . subst hj;exact .inl hm
     . have hb:(j==NameKind.free)=false:=by simpa using hj
       dsimp only at h2
       rw[hb,Bool.false_and,Bool.false_and,if_neg (by decide)]at h2
       have h2':j=k:=h2
       rcases hk with e | e
       . rw[h2',e]at hm;exact .inr hm
       . exact absurd (h2'.trans e) hj
   have fin:(x,NameKind.free)∈scope.names\/(x,NameKind.cell)∈scope.names->∃c,(QG (C+1) scope.names (qV X.env scope.names [])).lookup x=some c:=λh=>by
     rcases h with h | h
     . rw[o.same x (S.notOwn h)]
       exact Qx (.inl h)
     . obtain⟨c,e,_⟩:=o.own x h
       exact⟨c,e⟩
   rcases hx' with h | h
   . exact fin (go _ (.inl rfl) h)
   . exact fin (go _ (.inr rfl) h)
 cab:=λx c h h2=>by
   have h':(scope.names.lookup x==some NameKind.cell)=true:=h
   have hm:=mem_of_lookup (beq_iff_eq.mp h')
   obtain⟨c',e1,e2,_⟩:=o.own x hm
   have h3:(QG (C+1) scope.names (qV X.env scope.names [])).lookup x=some c:=h2
   rw[e1]at h3
   cases h3
   exact Nat.le_trans (Nat.le_succ_of_le hC) e2
 hd:=I.ok.hd
 frames:=I.ok.frames
 stk:=.inl rfl
 exf:=λb hb=>⟨Nat.ne_of_lt (Nat.lt_of_lt_of_le (hfo b hb) hC),λx c h=>by
   rcases S.either I o h with ⟨a1,a2,a3⟩ | ⟨a1,a2,a3⟩
   . exact(hf b hb).2.2.2.2.1 x c a1
   . exact Nat.ne_of_gt (Nat.lt_of_lt_of_le (hfo b hb) (Nat.le_trans (Nat.le_succ_of_le hC) a2))⟩
 bs:=I.bs
 bsz:=Nat.le_trans I.ok.bsz I.sz
 noex:=λb o e hb=>by
   rcases(hf b hb).2.2.2.1 with h | h
   . exact I.ok.noex b o e h
   . exact absurd (Nat.lt_of_lt_of_le (Heap.lt_size e) (Nat.le_trans I.ok.bsz h)) (Nat.lt_irrefl _)
 exfs:=λb hb hm=>by
   rcases List.mem_cons.mp (I.stkSub b hm) with e | e
   . exact(hf b hb).2.1 e
   . exact(hf b hb).2.2.1 e
 funs:=I.stack
 frf:=I.stkFree
theorem Wu {C D:Addr} {fp:List Addr} {h₁:Heap} {m:Str->Option Value} {t':Nat} {n₀:Nat} {h0:Heap} (S:jS X N' ix scope) (I:qx X pins σ H s) (ow:UM (C+1) scope.names (qV X.env scope.names []) (QG (C+1) scope.names (qV X.env scope.names [])) h0 h₁) (hf:∀b∈fp,QW X pins H b) (hfo:∀b∈fp,b < s.heap.objs.size)
   (hD:s.heap.objs.size<=D) (hC:s.heap.objs.size<=C) (hDC:D < C) (kp:∀b o,s.heap.get? b=some o->h₁.get? b=some o) (hn:h₁.Ns C m) (hl:h₁.get? D=some {cls:=.type "list",data:=.seq #[] n₀}):
   qx (Yq X N' scope C s H fp pins) [] (VS ix σ) (upd H D (.lst [])) {s with heap:=h₁,toks:=t'} where
 ok:=wD S I hC ow hf hfo
 os:=rfl
 bare:=I.bare
 base:=Un.laid kp hD (I.hok.fresh hD)
 loc:=by
   refine⟨m,hn,λi x v e1 e2 e3=>?_⟩
   have hix:=S.ixs
   unfold Uq at hix
   rw[Bool.and_eq_true]at hix
   obtain⟨hlen,hall⟩:=hix
   have hlen':ix.length=N'.length:=by simpa using hlen
   have e1':N'[i]?=some x:=e1
   unfold VS at e2
   rw[List.getElem?_map]at e2
   cases ho:ix[i]? with
   | none=>rw[ho]at e2;cases e2
   | some o=>
     rw[ho]at e2
     cases o with
     | none=>cases e2
     | some j=>
       have e2':(σ[j]?).join=some v:=Option.some.inj e2
       have hz:(ix.zip N')[i]?=some (some j,x):=by
         rw[List.getElem?_zip_eq_some]
         exact⟨ho,e1'⟩
       have hm:=List.all_eq_true.mp hall _ (List.mem_of_getElem? hz)
       dsimp only at hm
       simp only[Bool.and_eq_true,beq_iff_eq,Bool.or_eq_true]at hm
       obtain⟨⟨hN,hfr⟩,hk⟩:=hm
       have e2'':σ[j]?=some (some v):=by
         cases q:σ[j]? with
         | none=>rw[q]at e2';cases e2'
         | some z=>
           rw[q]at e2'
           have:z=some v:=e2'
           rw[this]
       obtain⟨mX,hnX,hlX⟩:=I.loc
       have hvis:wP X.env.scope x:=by
         rcases hk with h | h
         . exact .inr (.inl h)
         . exact .inr (.inr h)
       obtain⟨u,ru,lu⟩:=hlX j x v hN e2'' hvis
       refine⟨u,ru,?_⟩
       rcases lu with ⟨hk',_⟩ | ⟨_,c,hc,hcell⟩
       . exfalso
         have hk'':X.env.scope.names.lookup x=some .local:=hk'
         rcases hk with h | h<;>rw[h]at hk''<;>cases hk''
       . right
         obtain⟨k',r1,r2⟩:=Q1 (scope:=scope) (env:=X.env) hfr
         refine⟨?_,?_⟩
         . rcases r2 with z | ⟨_,z⟩
           . right;rw[z]at r1;exact r1
           . left;rw[z]at r1;exact r1
         . obtain⟨c',hc'⟩:=Qx (env:=X.env) (cs:=[]) (.inl (mem_of_lookup hfr))
           have:=(S.clook I.ok hc').1
           rw[hc]at this
           cases this
           obtain⟨o,ho',hd⟩:=hcell
           exact⟨c,(ow.same x (S.notOwn (mem_of_lookup hfr))).trans hc',o,kp _ _ ho',hd⟩
 cell:=λx c h=>by
   rcases S.either I ow h with ⟨a1,a2,a3⟩ | ⟨a1,a2,a3⟩
   . obtain⟨v,o,ho,hd⟩:=I.cell x c a1
     exact⟨v,o,kp _ _ ho,hd⟩
   . exact⟨none,kA,a3,rfl⟩
 free:=by
   show (upd H D _) C=none
   rw[qi (Nat.ne_of_gt hDC)]
   exact I.hok.fresh hC
 freeC:=λx c h=>by
   rcases S.either I ow h with ⟨h1,a2,a3⟩ | ⟨a1,a2,a3⟩
   . rw[qi (Nat.ne_of_lt (Nat.lt_of_lt_of_le a3 hD))]
     exact I.freeC x c h1
   . rw[qi (Nat.ne_of_gt (Nat.lt_of_lt_of_le hDC (Nat.le_trans (Nat.le_succ C) a2)))]
     exact I.hok.fresh (Nat.le_trans (Nat.le_succ_of_le hC) a2)
 pin:=λp hp=>by
   have hp':p∈X.pn++pins:=by
     have:p∈(X.pn++pins)++[]:=hp
     simpa using this
   obtain⟨e,n,ne,nf,d⟩:=I.pin p hp'
   have hlt:=Heap.lt_size e
   refine⟨kp _ _ e,?_,Nat.ne_of_lt (Nat.lt_of_lt_of_le hlt hC),λhm=>?_,d⟩
   . rw[qi (Nat.ne_of_lt (Nat.lt_of_lt_of_le hlt hD))];exact n
   . rcases List.mem_cons.mp (I.stkSub p.1 hm) with z | z
     . exact ne z
     . exact nf z
 hok:=I.hok.laid kp hD ⟨Nat.zero_le _,[],n₀,.nil,hl⟩
 len:=by
   have hix:=S.ixs
   unfold Uq at hix
   rw[Bool.and_eq_true]at hix
   have:ix.length=N'.length:=by simpa using hix.1
   show (VS ix σ).length=N'.length
   unfold VS
   rw[List.length_map,this]
theorem Uv {C:Addr} {fp:List Addr} {σ':St} {H':Hp} {s':Shared} {pl:List (Addr×Obj)} (I:qx X pins σ H s) (hf:∀b∈fp,QW X pins H b) (J:qx (Yq X N' scope C s H fp pins) pl σ' H' s'):qx X pins σ H' s':=
 I.call' (ch:=fp) J.os J.base J.hok J.bare λb hb=>⟨(hf b hb).2.2.2.1,(hf b hb).2.1,(hf b hb).2.2.2.2.1,(hf b hb).2.2.2.2.2⟩
end
section
variable {X:Cx} {N':List Str} {ix:List (Option Nat)} {scope:Scope}
theorem WE {elt iter target:Expr} {ifs:List Expr} {pos:Pos} {g:TG} {tt:TT} {te:TE} {pins:List (Addr×Obj)} {σ:St} {H:Hp} {s:Shared} {it:Addr} {fp:List Addr} {tn:Nat->Heap->Prop} {J:It} {E:Value->Shared->Prop}
   {RR:Value->Addr->Result->Shared->Prop} {Q:Addr->Hp->Prop}
   (hc:X.calm=true) (S:jS X N' ix scope) (I:qx X pins σ H s) (T:XU X.prog X.w X.K target J fp it tn) (st:tn 0 s.heap) (hf:∀b∈fp,QW X pins H b)
   (hb:∀C s₂ H₂ fp pins,PG (Yq X N' scope C s₂ H₂ fp pins) target g/\xx (Yq X N' scope C s₂ H₂ fp pins) ifs tt/\PE (Yq X N' scope C s₂ H₂ fp pins) elt te)
   (h:∀D,H D=none->Xm J g tt te D (VS ix σ) H (Q D))
   (fin:∀(D C:Addr) (H':Hp) (s':Shared) (m:Str->Option Value),s.heap.objs.size<=C->H' C=none->s'.heap.Ns C m->qx X pins σ H' s'->Q D H'->RR (.ref D) C (.ok .next) s'):
   wpAny (model X.prog X.w) X.A (newList []) (λacc s₃=>wpAny (model X.prog X.w) X.A (newFunctionEnv scope X.env.globals (qV X.env scope.names []) [] X.env.qual none .none (some X.env)) (λcenv s₄=>
     codeAny (model X.prog X.w) X.A (.compStart (.ListComp elt [⟨target,iter,ifs,0⟩] scope pos) 0 (.ref it) acc {cenv with scope:=relabel scope X.env}) (RR acc cenv.locals) s₄) E s₃) E s:=by
 have hfo:∀b∈fp,b < s.heap.objs.size:=λb hb=>by
   obtain⟨o,e,_⟩:=T.obj _ _ st b hb
   exact Heap.lt_size e
 refine wpAny_newObj_type (X1 λh₁ ow=>?_)
 dsimp only at ow ⊢
 generalize hH2:s.heap.push {cls:=.type "list",dict:=none,data:=.seq ([]:List Value).toArray}=H2 at ow ⊢
 have hC:H2.objs.size=s.heap.objs.size+1:=by rw[<-hH2,Heap.size_push]
 have hDC:s.heap.objs.size < H2.objs.size:=by rw[hC];exact Nat.lt_succ_self _
 have hCle:s.heap.objs.size<=H2.objs.size:=by rw[hC];exact Nat.le_succ _
 have old:∀b o,s.heap.get? b=some o->h₁.get? b=some o:=λb o e=>ow.kp b o (Heap.get?_push_of_some _ (hH2▸Heap.get?_push_of_some _ e))
 have hacc:h₁.get? s.heap.objs.size=some {cls:=.type "list",data:=.seq #[] 0}:=ow.kp _ _ (Heap.get?_push_of_some _ (hH2▸Heap.get?_push_size _ rfl))
 have hns₁:h₁.Ns H2.objs.size (λ_=>none):=⟨_,#[],_,ow.kp _ _ (Heap.get?_push_size _ rfl),rfl,(λe he=>by simp at he),λ_=>rfl⟩
 obtain⟨W,⟨m0,w0⟩,turn⟩:=h s.heap.objs.size (I.hok.fresh (Nat.le_refl _))
 have I1:qx (Yq X N' scope H2.objs.size s H fp pins) [] (VS ix σ) (upd H s.heap.objs.size (.lst [])) {s with heap:=h₁}:=
   Wu S I ow hf hfo (Nat.le_refl _) hCle hDC old hns₁ hacc
 have st₁:tn 0 h₁:=T.keep _ _ _ st λb hb o e=>old b o e
 have fpn:∀b∈fp,(upd H s.heap.objs.size (.lst [])) b=none:=λb hb=>by
   rw[qi (Nat.ne_of_lt (hfo b hb))]
   exact(hf b hb).1
 obtain⟨hg,htt,hte⟩:=hb H2.objs.size s H fp pins
 have okY:=I1.ok
 have stat:∀{H':Hp},(∀b∈fp,H' b=none)->∀b∈fp,QW (Yq X N' scope H2.objs.size s H fp pins) [] H' b:=λ{H'} hn b hb=>
   ⟨hn b hb,(okY.exf b hb).1,okY.exfs b hb,.inl hb,(okY.exf b hb).2,λp hp=>by
     have hp':p∈X.pn++pins:=by
       have:p∈(X.pn++pins)++[]:=hp
       simpa using this
     exact(hf b hb).2.2.2.2.2 p hp'⟩
 have loop:codeAny (model X.prog X.w) X.A (.compLoop (.ListComp elt [⟨target,iter,ifs,0⟩] scope pos) 0 (.ref it) (.ref s.heap.objs.size) (compEnvC scope (QG (H2.objs.size+1) scope.names (qV X.env scope.names [])) H2.objs.size X.env))
     (RR (.ref s.heap.objs.size) H2.objs.size) {s with heap:=h₁}:=by
   refine Zs (λn s'=>∃i σ' H',qx (Yq X N' scope H2.objs.size s H fp pins) [] σ' H' s'/\tn i s'.heap/\(∀b∈fp,H' b=none)/\W i n σ' H') ?_ m0 ⟨0,_,_,I1,st₁,fpn,w0⟩
   rintro n s3 ⟨i,σ3,H3,I3,st3,fr3,w3⟩
   rcases turn i n σ3 H3 w3 with ⟨stop,qn⟩ | ⟨go,NN,hNN,step⟩
   . refine ja (T.done (Yq X N' scope H2.objs.size s H fp pins) rfl rfl rfl hc i [] s3 σ3 H3 _ I3 (stat fr3) st3 stop) λr s4 ⟨hr,I4⟩=>?_
     subst hr
     obtain⟨mm,hnm,_⟩:=I4.loc
     exact fin _ _ H3 s4 mm hCle I4.free hnm (Uv I hf I4) qn
   . refine ja (T.item (Yq X N' scope H2.objs.size s H fp pins) rfl rfl rfl hc i [] s3 σ3 H3 _ I3 (stat fr3) st3 go) λr s4 ⟨u,hr,h4⟩=>?_
     subst hr
     refine ja h4 λ_ s5 ⟨x,H5,I5,r5,y5,st5,fr5⟩=>?_
     have I5':=I5.pinned (stat fr5) (T.obj _ _ st5)
     refine ja (hg _ s5 σ3 H5 x u _ I5' r5 (step x H5 y5)) λ_ s6 ⟨σ6,H6,I6,q6⟩=>?_
     refine ja (htt _ s6 σ6 H6 _ I6 q6) λok s7 ⟨H7,I7,q7⟩=>?_
     have again:∀{σ8:St} {H8:Hp} {s8:Shared},qx (Yq X N' scope H2.objs.size s H fp pins) ([]++ZE fp s5.heap) σ8 H8 s8->NN σ8 H8->
         ∃m,m < n/\∃i σ' H',qx (Yq X N' scope H2.objs.size s H fp pins) [] σ' H' s8/\tn i s8.heap/\(∀b∈fp,H' b=none)/\W i m σ' H':=λ{σ8 H8 s8} I8 n8=>by
       obtain⟨m',hm,w8⟩:=hNN σ8 H8 n8
       refine⟨m',hm,i+1,σ8,H8,I8.unpinned,T.keep _ _ _ st5 λb hb o e=>(I8.pin (b,o) (List.mem_append_right _ (List.mem_append_right _ (j9 hb e)))).1,λb hb=>?_,w8⟩
       obtain⟨o,e,d⟩:=T.obj _ _ st5 b hb
       exact(I8.pin (b,o) (List.mem_append_right _ (List.mem_append_right _ (j9 hb e)))).2.1
     cases ok with
     | false=>
       rw[if_neg Bool.false_ne_true]at q7 ⊢
       exact again I7 q7
     | true=>
       rw[if_pos rfl]at q7 ⊢
       refine ja (hte _ s7 σ6 H7 _ I7 q7) λv s8 ⟨y,H8,I8,r8,q8⟩=>?_
       obtain⟨ys,hy,hz,q8⟩:=q8
       refine ja (JD (X:=Yq X N' scope H2.objs.size s H fp pins) _ s8 σ6 H8 (.ref s.heap.objs.size) [y] (.ref s.heap.objs.size) [v] (λ_ H9=>NN σ6 H9) I8 rfl (.cons r8 .nil) ⟨_,ys,y,rfl,rfl,hy,hz,q8⟩) λ_ s9 ⟨_,H9,I9,_,q9⟩=>?_
       exact again I9 q9
 exact codeAny_compStart_list loop (T.self X.A 0 _ _ _ st₁ loop)
end
end L2
set_option Elab.async false
set_option linter.all false
set_option maxRecDepth 100000
set_option maxHeartbeats 4000000
namespace L2
open PySem PySem.Spec PyProof.Rows
section
variable {X:Cx} {CX:z9} {k:Nat} {f C:Addr} {fd:FuncData} {ps:List Str} {sp:Sp} {dvs:List V} {ds:List Value} {E:St->XK} {m:Str} {pos apos:Pos} {e o:Expr} {es:List Expr} {ta:TE} {t:TA}
end
end L2
set_option Elab.async false
set_option linter.all false
set_option maxRecDepth 100000
set_option maxHeartbeats 4000000
namespace L2
open PySem PySem.Spec PyProof.Rows
section
variable {X:Cx}
end
end L2
set_option Elab.async false
set_option linter.all false
set_option maxRecDepth 100000
set_option maxHeartbeats 4000000
namespace L2
open PySem PySem.Spec PyProof.Rows PySem.W
section
variable {X:Cx}
end
end L2
set_option Elab.async false
set_option linter.all false
set_option maxRecDepth 100000
set_option maxHeartbeats 4000000
namespace L2
open PySem PySem.Spec PyProof.Rows
section
variable {P:Program} {w:World} {K:PySem.W.Frag} {mg:Str->Option Value} {base:Heap} {CX:z9} {k:Nat} {f:Addr} {fd:FuncData} {ps:List Str} {sp sp':Sp}
theorem qz.toX (F:qz P w K mg base jc k f fd ps sp):qz P w K mg base CX k f fd ps sp:=
 ⟨F.len,λA outer s H args us vs Q E a b c d h=>codeAny_mono (F.run A outer s H args us vs Q E a b c d h) λz s' q=>by
   cases z with
   | error y=>exact(show False from q).elim
   | ok r=>
     cases r with
     | ret u=>exact q
     | _=>exact q⟩
theorem qz.either (F:qz P w K mg base CX k f fd ps sp) (G:qz P w K mg base CX k f fd ps sp'):qz P w K mg base CX k f fd ps (λvs H Q E=>sp vs H Q E\/sp' vs H Q E):=
 ⟨λvs H Q E h=>h.elim (F.len vs H Q E) (G.len vs H Q E),λA outer s H args us vs Q E a b c d h=>h.elim (F.run A outer s H args us vs Q E a b c d) (G.run A outer s H args us vs Q E a b c d)⟩
end
end L2
set_option Elab.async false
set_option linter.all false
set_option maxRecDepth 100000
set_option maxHeartbeats 4000000
namespace L2
open PySem PySem.Spec PyProof.Rows PySem.W
section
variable {X:Cx}
end
end L2
set_option Elab.async false
set_option linter.all false
set_option maxRecDepth 100000
set_option maxHeartbeats 4000000
namespace L2
open PySem PySem.Spec PyProof.Rows
def RawD (h:Heap) (d:Addr) (es:Array DictEntry) (ep:Nat):Prop:=∃o,h.get? d=some o/\o.ExactDict/\o.data=.dict es ep
section
variable {prog:Program} {w:World} {A:Around} {E:Value->Shared->Prop} {s:Shared} {it d:Addr} {es:Array DictEntry} {i ep:Nat}
end
end L2
set_option Elab.async false
set_option linter.all false
set_option maxRecDepth 100000
set_option maxHeartbeats 4000000
namespace L2
open PySem PySem.Spec PyProof.Rows
section
variable {X:Cx} {pins:List (Addr×Obj)} {σ:St} {H:Hp} {s:Shared} {tg:Expr}
end
section
variable {a:Addr} {o:Obj} {u:HO} {g:TG} {σ:St} {H:Hp}
end
end L2
set_option Elab.async false
set_option linter.all false
set_option maxRecDepth 100000
set_option maxHeartbeats 4000000
namespace L2
open PySem PySem.Spec PyProof.Rows PySem.W
section
variable {X:Cx}
end
end L2
set_option Elab.async false
set_option linter.all false
set_option maxRecDepth 100000
set_option maxHeartbeats 4000000
namespace L2
open PySem PySem.Spec PyProof.Rows
section
variable {prog:Program} {w:World} {KK:Type} [DecidableEq KK] {kd:HeapKind prog w KK} {A:Around} {E:Value->Shared->Prop} {s:Shared}
end
section
variable {X:Cx}
def Va (K:PySem.W.Frag) (bm:List Value):List V->Hp->VK->Prop:=λxs H Q=>∃(a p C dx:Addr) (hd:Value) (fs:List (Str×V)) (cs:List Addr) (b:Bool),xs=[.ref a,.ref p]/\H a=some (jB a C dx hd)/\H dx=some (.xd fs)/\ZO K C bm/\H p=some (.tup (cs.map V.ref))/\PySem.W.kitAny K (.ref C) (cs.map Value.ref)=some b/\Q (.bl b) H
theorem Z0 {bm:List Value} (hn:PySem.W.specialIn X.K (.builtin "object.__class__") "__get__"=some (some (.builtin "getset_descriptor.__get__"))) (htk:PySem.W.takesIn X.K (.builtin "object.__class__")=some true):jW X (.builtin "isinstance") (Va X.K bm):=by
 intro pins s σ H xs us Q I r h
 obtain⟨e,p,C,dx,hd,fs,cs,b,rfl,ha,hx,c,ep,ek,q⟩:=h
 obtain⟨u,w',rfl,ru,rw'⟩:=Xg r
 cases ru
 cases rw'
 obtain⟨⟨fl,he,_⟩,_,_⟩:=(show qJ X.prog X.w H s.heap e (jB e C dx hd) from I.hok e _ ha)
 obtain⟨mA,hns,hr⟩:=(show qJ X.prog X.w H s.heap dx (.xd fs) from I.hok dx _ hx)
 obtain⟨od,ho,hl⟩:=JF hns
 obtain⟨its,rv,⟨o,e1,c1,n1,d1⟩,_⟩:=I.tuple (.of ep:SqT X.K H p _)
 obtain rfl:=Ya rv
 obtain⟨oc,odd,oda,osl⟩:=o
 cases c1
 cases d1
 exact PySem.W.kia_tup (XF (ox:={cls:=.ref C,dict:=some dx,data:=.fields fl}) (odd:=od) c hn htk) I.kIn ⟨he,rfl,rfl,ho⟩ e1 ek (λz=>nomatch z) λtk=>⟨.bl b,H,I.tok tk,rfl,q⟩
end
end L2
set_option Elab.async false
set_option linter.all false
set_option maxRecDepth 100000
set_option maxHeartbeats 4000000
namespace L2
open PySem PySem.Spec PyProof.Rows
structure FnLd (P:Program) (w:World) (K:PySem.W.Frag) (mg:Str->Option Value) (base:Heap) (k:Nat) (f:Addr) (fd:FuncData) (ps:List Str) (sp:Sp):Prop where
 len:∀vs H Q E,sp vs H Q E->vs.length=ps.length
 run:∀(A:Around) (a:Value) (outer:List Env) (s:Shared) (H:Hp) (args:Args) (us:List Value) (vs:List V) (Q:VK) (E:XK),q5 k A->XX P w K mg base (A.mark (some a)) outer s H->BindsTo s fd args (ps.zip us)->qI vs us->sp vs H Q E->
   codeAny (model P w) (A.mark (some a)) (.call (.ref f) args) (CR jc outer P w H s Q E) s
section
variable {P:Program} {w:World} {K:PySem.W.Frag} {mg:Str->Option Value} {base:Heap}
end
section
variable {X:Cx} {k:Nat} {f:Addr} {fd:FuncData} {ps:List Str} {sp:Sp} {x:Str} {p pos:Pos} {e:Expr} {es:List Expr} {t:TA} {a:Value} {E:Value->Shared->Prop}
end
end L2
set_option Elab.async false
set_option linter.all false
set_option maxRecDepth 100000
set_option maxHeartbeats 4000000
namespace L2
open PySem PySem.Spec PyProof.Rows
section
variable {X:Cx}
end
end L2
set_option Elab.async false
set_option linter.all false
set_option maxRecDepth 100000
set_option maxHeartbeats 4000000
namespace L2
open PySem PySem.Spec PyProof.Rows
def UV (C:Addr) (sp:Sp) (dvs:List V) (E:St->XK) (t:TA):TE:=λσ H Q=>t σ H λvs H1=>∀x dx,H1 x=none->H1 dx=none->dx≠x->sp (.ref x::(vs++dvs)) (upd (upd H1 dx (.own x)) x (.ins C dx [])) (λv H2=>v=.non/\Q (.ref x) H2) (E σ)
section
variable {X:Cx} {CX:z9} {k:Nat} {f C:Addr} {fd:FuncData} {ps:List Str} {sp:Sp} {dvs:List V} {ds:List Value} {E:St->XK} {x m:Str} {p pos apos:Pos} {e o:Expr} {es:List Expr} {ta:TE} {t:TA}
theorem V2 {pins:List (Addr×Obj)} {σ:St} {H:Hp} {s:Shared} {Q:VK} {us:List Value} {vs:List V} (M:Mk X.K C f) (F:qz X.prog X.w X.K X.mg X.base CX k f fd ps sp) (hr:q5 (k+1) X.A) (hb:Qi X.K fd ps ds) (hd:qI dvs ds)
   (hx:zo CX X E) (I:qx X pins σ H s) (r:qI vs us)
   (h:∀x dx,H x=none->H dx=none->dx≠x->sp (.ref x::(vs++dvs)) (upd (upd H dx (.own x)) x (.ins C dx [])) (λv H2=>v=.non/\Q (.ref x) H2) (E σ)):
   wpAny (model X.prog X.w) X.A (call (.ref C) us) (EP X pins σ Q) X.xe s:=by
 have hq:=h (s.heap.objs.size+1) s.heap.objs.size (I.hok.fresh (Nat.le_succ _)) (I.hok.fresh (Nat.le_refl _)) (Nat.ne_of_lt (Nat.lt_succ_self _))
 have I2:=qx.made (C:=C) I
 have r2:qI (V.ref (s.heap.objs.size+1)::(vs++dvs)) (Value.ref (s.heap.objs.size+1)::(us++ds)):=.cons rfl (r.append hd)
 have hl:(Value.ref (s.heap.objs.size+1)::us++ds).length=ps.length:=by
   have e:=r2.length
   rw[F.len _ _ _ _ hq]at e
   exact e.symm
 refine wpAny_call (vO (f:=f) I.kIn M.makes M.init (beq_iff_eq.mp M.fn) (codeAny_mono (F.run _ X.stack _ _ ⟨Value.ref (s.heap.objs.size+1)::us,[]⟩ (Value.ref (s.heap.objs.size+1)::(us++ds)) _ _ (E σ) (hr.make C us [])
   (I2.env0.make C us []) (hb _ (Value.ref (s.heap.objs.size+1)::us) I2.kIn hl) r2 hq) λr s' hq'=>?_))
 cases r with
 | error e=>exact hx pins σ _ _ e s' I2 hq'
 | ok fl=>
   cases fl with
   | ret u=>
     obtain⟨v,H',I3,rv,ev,q3⟩:=I2.after hq'
     subst ev
     exact⟨rv,⟨V.ref (s.heap.objs.size+1),H',I3,rfl,q3⟩⟩
   | next=>exact False.elim hq'
   | brk=>exact False.elim hq'
   | cont=>exact False.elim hq'
theorem vY (M:Mk X.K C f) (F:qz X.prog X.w X.K X.mg X.base CX k f fd ps sp) (hr:q5 (k+1) X.A) (hg:Gl X x) (hm:X.mg x=some (.ref C)) (hb:Qi X.K fd ps ds) (hd:qI dvs ds) (hx:zo CX X E) (ha:JA X (e::es) t) (hdb:(x==("__debug__":Str))=false:=by decide) (he:starEach (e::es) X.env=(false,eval e X.env)::starEach es X.env:=by rfl) (hpl:(backTo pos (starEach es X.env)).any (·.1)=false:=by rfl):JE X (.Call (.Name x p) (e::es) [] pos) (UV C sp dvs E t):=.of (by
 have ha:=ha.to
 intro pins s σ H Q I h
 refine wpAny_Call_Name_kw (ze I hg hm ?_ hdb)
 refine PySem.W.callWith_K (h₀:=X.base) I.ok.mod.kin M.kp (ja (ha pos pins s σ H _ I h) λus s1 ⟨vs,H1,I1,r,q⟩=>⟨I1.kIn,?_⟩) he hpl
 exact V2 M F hr hb hd hx I1 r q)
end
section
variable {X:Cx}
theorem Qe:jW X (.type "list") (λxs H Q=>∃p ys,xs=[.ref p]/\(SqL X.K H p ys\/SqT X.K H p ys)/\∀l,H l=none->l≠sysModules->Q (.ref l) (upd H l (.lst ys))):=by
 intro pins s σ H xs us Q I r h
 obtain⟨p,ys,rfl,hq,q⟩:=h
 obtain⟨u,rfl,rx⟩:=Qo r
 cases rx
 have fin:∀(its:List Value),qI ys its->ys.length<=sizeLine->∀(h':Heap) (c':Nat),(∀b o',s.heap.get? b=some o'->h'.get? b=some o')->
     h'.get? s.heap.objs.size=some {cls:=.type "list",dict:=none,data:=.seq its.toArray c',slots:=#[]}->EP X pins σ Q (.ref s.heap.objs.size) {s with heap:=h'}:=λits r' hz h' c' kp e=>
   ⟨.ref s.heap.objs.size,_,I.laid (t':=s.toks) kp (Nat.le_refl _) (show qJ X.prog X.w _ h' _ (.lst ys) from⟨hz,its,c',r',e⟩),rfl,q _ (I.hok.fresh (Nat.le_refl _)) (Ne.symm (Nat.ne_of_lt I.big))⟩
 rcases hq with hq | hq
 . obtain⟨its,r',pl,hz⟩:=I.list hq
   have hlen:=r'.length
   obtain⟨o,ho,hc,n,hd⟩:=pl.isList
   exact call_list_seq p (.inl rfl) ho hc hd (λh' c' kp e=>fin its r' hz h' c' kp e) (by simp only[List.size_toArray]<;>omega)
 . obtain⟨its,r',pl,hz⟩:=I.tuple hq
   have hlen:=r'.length
   obtain⟨o,ho,hc,n,hd⟩:=pl
   exact call_list_seq p (.inr rfl) ho hc hd (λh' c' kp e=>fin its r' hz h' c' kp e) (by simp only[List.size_toArray]<;>omega)
end
mutual
def nl:PyData->Bool
 | .list _=>false
 | .dict _=>false
 | .tuple xs=>nlAll xs
 | _=>true
def nlAll:List PyData->Bool
 | []=>true
 | x::xs=>nl x&&nlAll xs
end
section
variable {X:Cx} {pins:List (Addr×Obj)} {σ:St} {H:Hp} {s:Shared}
mutual
theorem DV.readsN (I:qx X pins σ H s):∀{x:V} {d:PyData},DV X.K H x d->nl d=true->∀{u:Value},qQ x u->Reads s.heap u d []
 | _,_,.non,_,u,r=>by cases (show u=Value.none from r);exact .none
 | _,_,.bl b,_,u,r=>by cases (show u=Value.bool b from r);exact .bool b
 | _,_,.int i,_,u,r=>by obtain⟨t,q⟩:=(show ∃t,u=Value.int i t from r);subst q;exact .int i t
 | _,_,.str x,_,u,r=>by obtain⟨t,q⟩:=(show ∃t,u=Value.str x t from r);subst q;exact .str x t
 | _,_,.lst hq hs,n,u,r=>by cases n
 | _,_,.tup (a:=a) hq hs,n,u,r=>by
   cases (show u=Value.ref a from r)
   obtain⟨its,rv,⟨o,e,hc,n',hda⟩,hz⟩:=I.tuple hq
   exact .tuple e hc hda (by simpa using DVs.readsN I hs n rv)
theorem DVs.readsN (I:qx X pins σ H s):∀{xs:List V} {ds:List PyData},DVs X.K H xs ds->nlAll ds=true->∀{us:List Value},qI xs us->ReadsAll s.heap us ds []
 | _,_,.nil,_,_,.nil=>.nil
 | _,_,.cons h hs,n,_,.cons r rs=>by
   rw[nlAll,Bool.and_eq_true]at n
   exact .cons (as:=[]) (bs:=[]) (DV.readsN I h n.1 r) (DVs.readsN I hs n.2 rs)
end
end
def RV (K:PySem.W.Frag) (H:Hp) (v:V) (d:PyData):Prop:=(DV K H v d/\nl d=true)\/∃a,v=.ref a/\H a=some (.dK [])/\d=.dict []
inductive UL (K:PySem.W.Frag) (H:Hp):List V->List PyData->Prop
 | nil:UL K H [] []
 | cons {x:V} {xs:List V} {d:PyData} {ds:List PyData}:RV K H x d->UL K H xs ds->UL K H (x::xs) (d::ds)
theorem UL.reads {X:Cx} {pins:List (Addr×Obj)} {σ:St} {H:Hp} {s:Shared} (I:qx X pins σ H s):∀{xs:List V} {ds:List PyData},UL X.K H xs ds->∀{us:List Value},qI xs us->∃as,ReadsAll s.heap us ds as/\sysModules∉as
 | _,_,.nil,_,.nil=>⟨[],.nil,by simp⟩
 | _,_,.cons h hs,_,.cons r rs=>by
   obtain⟨bs,b,nb⟩:=UL.reads I hs rs
   rcases h with ⟨h,n⟩ | ⟨a,rfl,ha,rfl⟩
   . exact⟨[]++bs,.cons (h.readsN I n r) b,by simpa using nb⟩
   . cases r
     obtain⟨_,hna,vs,kv,dd⟩:=(show qJ X.prog X.w H s.heap a (.dK []) from I.hok a _ ha)
     cases kv
     obtain⟨o,es,ep,ho,hc,hdat,hk,hp,hn⟩:=dd
     have e0:es=#[]:=by
       have e1:=hp.length
       have e2:es.toList.length=es.size:=by simp
       exact Array.eq_empty_of_size_eq_zero (by rw[<-e2,e1];rfl)
     subst e0
     have n2:sysModules≠a:=λz=>by rw[<-z]at hna;exact absurd hna (by simp)
     exact⟨_,.cons (.dict ho hc.1 hdat .nil .nil) b,by simp [n2,nb]⟩
def YK (K:PySem.W.Frag):List V->Hp->VK->Prop:=λxs H Q=>xf K xs H Q\/∃l ys ds,xs=[.ref l]/\l≠sysModules/\H l=some (.lst ys)/\UL K H ys ds/\(PyData.list ds).showable=true/\(PyData.list ds).depth<=60/\(PyData.list ds).shown.length<=sizeLine/\Q (.str (PyData.list ds).shown) H
theorem jC {X:Cx} (hg:X.A.guards=some []) (hu:X.A.units+64 < cLine):jW X (.builtin "repr") (YK X.K):=by
 intro pins s σ H xs us Q I r h
 rcases h with h | ⟨l,ys,ds,rfl,nsl,hl,rv,h1,h3,h4,q⟩
 . exact UI hg hu pins s σ H xs us Q I r h
 . obtain⟨u,rfl,ru⟩:=Qo r
   cases ru
   obtain⟨_,its,n,rw',e⟩:=(show qJ X.prog X.w H s.heap l (.lst ys) from I.hok l _ hl)
   obtain⟨as,ra,na⟩:=rv.reads I rw'
   have rd:Reads s.heap (.ref l) (.list ds) (l::as):=.list e rfl rfl (by simpa using ra)
   exact repr_of_reads' rd h1 (λ_=>by simp [Ne.symm nsl,na]) hg (by omega) (λ_ _ e=>e) (λh' t tk k=>⟨.str _,H,I.kept (t':=tk) k,⟨t,rfl⟩,q⟩) h4
end L2
set_option Elab.async false
set_option linter.all false
set_option maxRecDepth 100000
set_option maxHeartbeats 4000000
namespace L2
open PySem PySem.Spec PyProof.Rows
section
variable {prog:Program} {w:World} {A:Around} {E:Value->Shared->Prop} {s:Shared}
theorem Yp {it t:Addr} {items:Array Value} (hne:t≠it):∀(n i:Nat) (s:Shared) (Q:List Value->Shared->Prop),s.heap.IsListIter it t i->s.heap.IsList t items->i+n<=items.size->
   (∀h',h'.IsListIter it t (i+n)->Heap.SameBut it s.heap h'->Q ((items.toList.drop i).take n) {s with heap:=h'})->wpAny (model prog w) A (draw (.ref it) n) Q E s
 | 0,i,s,Q,hit,_,_,hQ=>by
   show wpAny _ _ (pure []) Q E s
   exact wpAny_pure (by simpa using hQ s.heap hit (Heap.SameBut.refl ..))
 | n+1,i,s,Q,hit,ht,hle,hQ=>by
   have hlt:i < items.size:=by omega
   show wpAny _ _ (pyNext (.ref it) >>= _) Q E s
   refine wpAny_bind (wpAny_pyNext_list_item hit ht (x:=items[i]) (by simp [hlt]) λh₁ hit₁ hs₁=>?_)
   refine wpAny_bind (wpAny_holding (Yp hne n (i+1) _ _ hit₁ (ht.extBut hs₁.extBut hne) (by omega) λh₂ hit₂ hs₂=>wpAny_pure ?_))
   have hd:items.toList.drop i=items[i]::items.toList.drop (i+1):=by simp [List.drop_eq_getElem_cons,hlt]
   have:=hQ h₂ (by rw[show i+(n+1)=i+1+n by omega];exact hit₂) (hs₁.trans hs₂)
   rw[hd,List.take_succ_cons]at this
   exact this
theorem Zx {t:Addr} {items:Array Value} {Q:List Value->Shared->Prop} (hh:A.handled=none) (ht:s.heap.IsList t items)
   (hQ:∀h',Heap.ExtBut s.heap.objs.size s.heap h'->Q items.toList {s with heap:=h'}):wpAny (model prog w) A (unpackItems (.ref t) items.size none) Q E s:=by
 have hlt:t≠s.heap.objs.size:=by obtain⟨o,ho,_⟩:=ht;exact Nat.ne_of_lt (Heap.lt_size ho)
 unfold unpackItems
 refine wpAny_bind ?_
 unfold notIterableAtAll
 refine wpAny_bind (wpAny_specialOf ht.typeIs slot_list_iter.lookup ?_)
 refine wpAny_pure ?_
 simp only[Bool.false_eq_true,if_false]
 refine wpAny_bind (wpAny_holding (wpAny_pyIter_list ht ?_))
 refine wpAny_bind (wpAny_holding (Yp hlt items.size 0 _ _ ⟨_,Heap.get?_push_size _ rfl,rfl,rfl⟩ (ht.push _) (by omega) λh₁ hit₁ hs₁=>?_))
 have hall:List.take items.size (List.drop 0 items.toList)=items.toList:=by
   rw[List.drop_zero];exact List.take_of_length_le (by simp)
 rw[hall]
 rw[if_neg (by simp)]
 have ht₁:h₁.IsList t items:=(ht.push _).extBut hs₁.extBut hlt
 refine wpAny_bind (wpAny_holding (wpAny_pyNext_list_end hh hit₁ ht₁ (by simp) λh₂ he₂=>?_))
 simp only[Option.isSome_none,Bool.false_eq_true,if_false]
 exact wpAny_pure (hQ h₂ λb o hb e=>he₂ b o hb (hs₁.extBut b o hb (Heap.get?_push_of_some _ e)))
theorem Zu {env:Env} {elts:List Expr} {x1} {pos:Pos} {t:Addr} {items:Array Value} {Q:Unit->Shared->Prop} (hh:A.handled=none) (ht:s.heap.IsList t items)
   (hn:(assignEach elts env).length=items.size) (hstar:(assignEach elts env).findIdx? (·.1)=none)
   (h:∀h',Heap.ExtBut s.heap.objs.size s.heap h'->wpAny (model prog w) A (assignInOrder ((assignEach elts env).map (·.2)) items.toList) Q E {s with heap:=h'}):
   wpAny (model prog w) A (assign (.Tuple elts x1 pos) env (.ref t)) Q E s:=by
 rw[assign_Tuple]
 refine wpAny_bind (wpAny_standAt ?_)
 unfold unpack
 rw[hn,hstar]
 exact wpAny_bind (wpAny_holding (Zx hh ht h))
end
section
variable {X:Cx} {pos:Pos}
def Kd (K:PySem.W.Frag) (n:Nat) (t:UQ):TG:=λv σ H Q=>∃a xs,v=.ref a/\SqL K H a xs/\xs.length=n/\t xs σ H Q
theorem Q8 {es:List Expr} {k:Nat} {t:UQ} {n:Nat} (hc:X.calm=true) (h:kJ X es t) (hn:(assignEach es X.env).length=n:=by rfl) (hst:(assignEach es X.env).findIdx? (·.1)=none:=by rfl):JG X (.Tuple es k pos) (Kd X.K n t):=.of (by
 have h:=h.to
 intro pins s σ H v u Q I r hw
 obtain⟨a,xs,e1,hq,hl,hw⟩:=hw
 subst e1
 cases r
 obtain⟨its,rv,ht,hz⟩:=I.list hq
 refine Zu (I.ok.hd hc) ht.isList (by simp [hn,<-hl,rv.length]) hst λh' hx=>?_
 have I1:qx X pins σ H {s with heap:=h'}:=I.kept (t':=s.toks) λb o e=>hx b o (Nat.ne_of_lt (Heap.lt_size e)) e
 exact h pins _ σ H xs _ Q I1 (by simpa using rv) hw)
end
end L2
set_option Elab.async false
set_option linter.all false
set_option maxRecDepth 100000
set_option maxHeartbeats 4000000
namespace L2
open PySem PySem.Spec PyProof.Rows
section
variable {X:Cx}
theorem Xe {v:V} {a:Value} (r:qQ v a):∀n:Nat,qI (List.replicate n v) (List.replicate n [a]).flatten
 | 0=>.nil
 | n+1=>by
   rw[List.replicate_succ,List.replicate_succ]
   exact .cons r (Xe r n)
def uu (K:PySem.W.Frag):R2:=λx y H Q=>∃(a:Addr) (v:V) (n:Nat),x=.ref a/\y=.int (n:Int)/\SqL K H a [v]/\n<=200/\∀l,H l=none->Q (.ref l) (upd H l (.lst (List.replicate n v)))
theorem yi:Z1 X (binaryOp .Mult) (uu X.K):=by
 intro pins s σ H x y v u Q I rx ry h
 obtain⟨a,z,n,rfl,rfl,ha,hn,q⟩:=h
 cases rx
 obtain⟨t,rfl⟩:=(show ∃t,u=Value.int (n:Int) t from ry)
 obtain⟨its,rv,pl,_⟩:=I.list ha
 cases rv with
 | cons r1 rv=>
   cases rv
   obtain⟨⟨cls,d,data,sl⟩,ho,hcl,k,hd⟩:=id pl.isList
   simp only at hcl hd
   subst hcl hd
   rename_i b
   have hlo:-(2^63:Int)<=(n:Int):=by omega
   have hhi:(n:Int) < 2^63:=by omega
   have hsz':[b].toArray.size*(n:Int).toNat<=256:=by simp;omega
   have en:(n:Int).toNat=n:=by omega
   generalize (n:Int)=x at hlo hhi hsz' en
   refine wpAny_binaryOp_repeat_ref (T:="list") (U:="int") (by decide) ⟨_,ho,rfl⟩ (λs'=>typeIs_int s' x t) noFill_list_mul F.fills_int_mul F.slot_int_rmul repeat_list F.slot_int_index.lookup
     (call_meets F.slot_int_rmul (typeIs_int s x t) F.entry_int_rmul (F.args_int_rmul_2 _ _) (PySem.lm_int_rmul_list_any x t a [b].toArray k d sl)
       ⟨ho,rfl,⟨_,ho,rfl⟩,call_meets F.slot_list_mul ⟨_,ho,rfl⟩ F.entry_list_mul (F.args_list_mul_2 _ _)
         (PySem.lm_list_mul_any a [b].toArray k d sl x t (by simp [Builtin.List.listFitsIndex];omega) (by omega) (by simp [Builtin.List.listTooLong,sizeLine];omega))
         ⟨ho,?_⟩⟩)
   rw[listMul_foldl_if,en]
   exact⟨.ref s.heap.objs.size,_,I.laid (t':=s.toks) (o:=.lst (List.replicate n z)) (λb u h=>Heap.get?_push_of_some _ h) (Nat.le_refl _) ⟨by rw[List.length_replicate];exact Nat.le_trans hn (by decide),_,_,Xe r1 n,Heap.get?_push_size _ rfl⟩,rfl,q _ (I.hok.fresh (Nat.le_refl _))⟩
end
end L2
set_option Elab.async false
set_option linter.all false
set_option maxRecDepth 100000
set_option maxHeartbeats 4000000
namespace L2
open PySem PySem.Spec PyProof.Rows
section
variable {X:Cx} {N':List Str} {ix:List (Option Nat)} {scope:Scope}
theorem vv {i:Nat} {x:Str} {elt iter target:Expr} {ifs:List Expr} {pos spos px:Pos} {wi:TI} {g:TG} {tt:TT} {te:TE} (hN:X.N.Nodup) (hxi:X.N[i]?=some x) (hx:xy X.env.scope x) (hc:X.calm=true) (S:jS X N' ix scope) (hi:PI X target iter wi)
   (hb:∀C s₂ H₂ fp pins,PG (Yq X N' scope C s₂ H₂ fp pins) target g/\xx (Yq X N' scope C s₂ H₂ fp pins) ifs tt/\PE (Yq X N' scope C s₂ H₂ fp pins) elt te)
   (hsw:swapsWith (.ListComp elt [⟨target,iter,ifs,0⟩] scope pos) (some (.Name x px)) spos.line X.env=pure true:=by rfl)
   (hs:∀x,foldedSetIterable iter X.env x=pure x:=by intro _;rfl) (hf:X.fn x=true\/X.env.scope.names.lookup x=some .local:=by first | exact .inl rfl | exact .inr rfl | assumption):
   PS X (.Assign [.Name x px] (.ListComp elt [⟨target,iter,ifs,0⟩] scope pos) spos) (Xn (xC wi ix g tt te) (jH i)):=by
 intro pins s σ H D I h
 rw[exec_Assign_Name_used _ _ _ _ hsw]
 refine wpAny_bind (wpAny_standAt (wpAny_bind ?_))
 show wpAny _ X.A (do let _ <-comprehension (.ListComp elt [⟨target,iter,ifs,0⟩] scope pos) scope X.env _ (newList []) false (eval iter X.env) (some (assign (.Name x px) X.env))) _ _ s
 refine wpAny_bind (ja (wpAny_comprehension_free (use:=some (assign (.Name x px) X.env)) (Q:=λ_ s'=>SP X pins D .next s') rfl hs (QM (S.freeH I.ok)) S.kind S.locH ?_) λ_ s' hq=>wpAny_pure (wpAny_pure hq))
 refine ja (hi pins s σ H _ I h) λxv s1 h1=>ja h1 λitv s2 h2=>?_
 obtain⟨it,fp,tn,J,H2,e,I2,T,st2,f2,q2⟩:=h2
 subst e
 refine WE (RR:=λacc C=>compPost (model X.prog X.w) X.A X.xe (some (assign (.Name x px) X.env)) (λ_ s'=>SP X pins D .next s') acc C) (Q:=λD' H'=>jH i (.ref D') σ H' D.nx) hc S I2 T st2 f2 hb q2 ?_
 intro D' C H' s' m hC hn hm I' q
 show wpAny _ X.A (assign (.Name x px) X.env (.ref D')) _ _ _
 refine wpAny_assign_Name (Zy I' hN hxi hx (v:=.ref D') rfl (λs'' I'' hch=>?_) hf)
 obtain⟨a,sb,ha⟩:=hch
 have hCa:C≠a:=by
   rcases ha with z | z
   . rw[z];exact Nat.ne_of_gt (Nat.lt_of_lt_of_le I2.lt hC)
   . intro e
     obtain⟨v,qc⟩:=I2.cell x a z
     exact absurd (Nat.lt_of_lt_of_le qc.lt (by rw[<-e];exact hC)) (Nat.lt_irrefl _)
 refine⟨m,hm.sameBut sb hCa,λh' sb'=>?_⟩
 refine⟨_,H',?_,q⟩
 refine I''.turned (it:=C) (t':=s''.toks) (λb o hb e=>(sb'.2 b hb).trans e) hn (Nat.ne_of_gt (Nat.lt_of_lt_of_le I2.lt hC)) (.inr (Nat.le_trans I2.sz hC)) (λy c e z=>?_) λp hp z=>?_
 . obtain⟨v,qc⟩:=I2.cell y c e
   exact absurd (Nat.lt_of_lt_of_le qc.lt (by rw[z];exact hC)) (Nat.lt_irrefl _)
 . exact absurd (Nat.lt_of_lt_of_le (Heap.lt_size (I2.pin p hp).1) (by rw[z];exact hC)) (Nat.lt_irrefl _)
theorem vT {i:Nat} {x:Str} {elt iter target:Expr} {ifs:List Expr} {pos spos px:Pos} {wi:TI} {g:TG} {tt:TT} {te:TE} (hN:X.N.Nodup) (hxi:X.N[i]?=some x) (hx:xy X.env.scope x) (hc:X.calm=true) (S:jS X N' ix scope) (hi:JI X target iter wi)
   (hb:∀C s₂ H₂ fp pins,JG (Yq X N' scope C s₂ H₂ fp pins) target g/\kI (Yq X N' scope C s₂ H₂ fp pins) ifs tt/\JE (Yq X N' scope C s₂ H₂ fp pins) elt te)
   (hsw:swapsWith (.ListComp elt [⟨target,iter,ifs,0⟩] scope pos) (some (.Name x px)) spos.line X.env=pure true:=by rfl)
   (hs:∀x,foldedSetIterable iter X.env x=pure x:=by intro _;rfl) (hf:X.fn x=true\/X.env.scope.names.lookup x=some .local:=by first | exact .inl rfl | exact .inr rfl | assumption):
   JS X (.Assign [.Name x px] (.ListComp elt [⟨target,iter,ifs,0⟩] scope pos) spos) (Xn (xC wi ix g tt te) (jH i)):=
 .of (vv hN hxi hx hc S hi.to (λC s₂ H₂ fp pins=>⟨(hb C s₂ H₂ fp pins).1.to,(hb C s₂ H₂ fp pins).2.1.to,(hb C s₂ H₂ fp pins).2.2.to⟩) hsw hs hf)
end
end L2
set_option Elab.async false
set_option linter.all false
set_option maxRecDepth 100000
set_option maxHeartbeats 4000000
namespace Rh
open PySem L2
def top (i:Nat):Stmt:=PySem.Challenge.pw_ringheaps_k03_grounds_refused.main.body.getD i (.Pass ⟨0,0,0,0⟩)
abbrev Jl:Stmt:=top 10
abbrev W6:Stmt:=top 23
abbrev Z8:Stmt:=top 24
abbrev Qr:Stmt:=top 25
abbrev zx:Stmt:=top 26
abbrev zy:Stmt:=top 27
abbrev W4:Stmt:=top 28
abbrev YJ:Stmt:=top 39
end Rh
namespace Rh
open PySem L2 PyProof.Rows
structure jR (K:PySem.W.Frag) (mg:Str->Option Value) (x:Str) (st:Stmt) (ps:List Str) (f:Addr) (fd:FuncData):Prop where
 fn:Ql K x x st f fd
 ns:mg x=some (.ref f)
 bi:Qi K fd ps []
theorem qS {X:Cx} {x:Str} {st:Stmt} {ps:List Str} {f:Addr} {fd:FuncData} {k:Nat} {sp:Sp} {e:Expr} {es:List Expr} {t:TA} {p pos:Pos} (h:jR X.K X.mg x st ps f fd) (G:qz X.prog X.w X.K X.mg X.base jc k f fd ps sp) (hr:q5 k X.A)
   (hg:Gl X x) (ha:JA X (e::es) t) (hdb:(x==("__debug__":Str))=false:=by decide) (he:starEach (e::es) X.env=(false,eval e X.env)::starEach es X.env:=by rfl) (hpl:(backTo pos (starEach es X.env)).any (·.1)=false:=by rfl):
   JE X (.Call (.Name x p) (e::es) [] pos) (Xl sp [] E0 t):=.of (Vc G hr hg h.ns h.fn.kp h.bi .nil Zm ha.to hdb he hpl)
theorem qm {H:Hp} {b p:Addr} {o o':HO} (h:H b=some o) (hp:H p=none):upd H p o' b=some o:=by
 rw[qi (qt h hp)]
 exact h
theorem qg {H:Hp} {p:Addr} {o:HO} (hp:H p=none):Same H (upd H p o):=λb u h=>qm h hp
theorem Same.upd {H H':Hp} {p:Addr} {o:HO} (s:Same H H') (hp:H p=none):Same H (upd H' p o):=λb u h=>by
 rw[qi (qt h hp)]
 exact s b u h
def qN (n s t:Int):List (qW×V):=[(Sum.inr "number",.int n),(Sum.inr "seed",.int s),(Sum.inr "turn",.int t)]
theorem nns:¬(Str.ofString "number")=Str.ofString "seed":=by decide+kernel
theorem K7:¬(Str.ofString "number")=Str.ofString "turn":=by decide+kernel
theorem K6:¬(Str.ofString "seed")=Str.ofString "turn":=by decide+kernel
theorem nsn:¬(Str.ofString "seed")=Str.ofString "number":=by decide+kernel
theorem ntn:¬(Str.ofString "turn")=Str.ofString "number":=by decide+kernel
theorem nts:¬(Str.ofString "turn")=Str.ofString "seed":=by decide+kernel
theorem kh {a b:Str} (h:¬a=b):¬(Sum.inr a:qW)=Sum.inr b:=λe=>h (Sum.inr.inj e)
section
variable {H:Hp} {d:Addr} {n s t:Int}
theorem gN (h:H d=some (.dK (qN n s t))):Je H d (.str "number") (some (.int n)):=by
 have e:jz (qN n s t) (Sum.inr "number":qW)=some (.int n):=jk rfl
 have q:=Je.k (k:=(Sum.inr "number":qW)) h
 rw[e]at q
 exact q
theorem gS (h:H d=some (.dK (qN n s t))):Je H d (.str "seed") (some (.int s)):=by
 have e:jz (qN n s t) (Sum.inr "seed":qW)=some (.int s):=(jm (kh nns)).trans (jk rfl)
 have q:=Je.k (k:=(Sum.inr "seed":qW)) h
 rw[e]at q
 exact q
theorem gT (h:H d=some (.dK (qN n s t))):Je H d (.str "turn") (some (.int t)):=by
 have e:jz (qN n s t) (Sum.inr "turn":qW)=some (.int t):=(jm (kh K7)).trans ((jm (kh K6)).trans (jk rfl))
 have q:=Je.k (k:=(Sum.inr "turn":qW)) h
 rw[e]at q
 exact q
theorem uf:(qN n s t).length < sizeLine:=qp (by show 3<=1000;decide)
theorem pN (h:H d=some (.dK (qN n s t))) (v:Int):Ji H d (.str "number") (.int v) (upd H d (.dK (qN v s t))):=by
 have e:jJ (qN n s t) (Sum.inr "number":qW) (.int v)=qN v s t:=by
   unfold jJ qN
   simp [nsn,ntn]
 have q:=Ji.k (k:=(Sum.inr "number":qW)) (v:=.int v) h uf
 rw[e]at q
 exact q
theorem pT (h:H d=some (.dK (qN n s t))) (v:Int):Ji H d (.str "turn") (.int v) (upd H d (.dK (qN n s v))):=by
 have e:jJ (qN n s t) (Sum.inr "turn":qW) (.int v)=qN n s v:=by
   unfold jJ qN
   simp [K7,K6]
 have q:=Ji.k (k:=(Sum.inr "turn":qW)) (v:=.int v) h uf
 rw[e]at q
 exact q
end
def j7:Sp:=λvs H Q _=>∃(d:Addr) (m n s t:Int),vs=[.ref d,.int m]/\H d=some (.dK (qN n s t))/\0 < m/\m.natAbs < 2^200/\∀r n' t',0<=r->r < m->Q (.int r) (upd H d (.dK (qN n' s t')))
def Xq:Sp:=λvs H Q _=>∃c:Int,vs=[.int c]/\∀d n s,H d=none->Q (.ref d) (upd H d (.dK (qN n s 0)))
def U9 (K:PySem.W.Frag):Sp:=λvs H Q _=>∃(a:Addr) (ns:List Int) (k:Int),vs=[.ref a,.int k]/\SqL K H a (ns.map V.int)/\0<=k/\∀v,Q (.int v) H
section
variable {P:Program} {w:World} {K:PySem.W.Frag} {mg:Str->Option Value} {base:Heap}
theorem YI:qK ["_law_source_here","_law_many","_law_digit","_law_number"] ["_law_source_here","_law_many"] (qv Qr):=⟨rfl,rfl,rfl,by decide+kernel,rfl,by decide+kernel,by decide+kernel⟩
theorem jN {f:Addr} {fd:FuncData} (F:Ql K "_law_take" "_law_take" Qr f fd):qz P w K mg base jc 1 f fd ["_law_source_here","_law_many"] j7:=by
 refine F.okJ YI (λvs H Q E h=>?_) (λcdv A outer s H vs Q E hr h=>?_)
 . obtain⟨d,m,n,sd,t,rfl,_⟩:=h
   rfl
 . obtain⟨d,m,n,sd,t,rfl,hd,m0,m1,k⟩:=h
   have hu:=zO hr
   refine⟨_,qh (qR (qu JZ (Ja hu (jv 0) qE (λ_ _=>rfl)) qj (qC _))
       (qh (qB (i:=2) YI.nd rfl (Or.inl rfl) (qG jP (Ja hu (jv 0) qE (λ_ _=>rfl)) (jv 1)))
       (qh (jO hu (jv 0) qE (qG vE (Ja hu (jv 0) qE (λ_ _=>rfl)) (jv 1)) rfl)
       (qk (qL (jv 2))))) qD)
     (qh (jO hu (jv 0) qE (qG jx (Ja hu (jv 0) qE (λ_ _=>rfl)) qj) rfl)
     (qh (qB (i:=3) YI.nd rfl (Or.inl rfl) (qG jP (qG QH (qG jx (Ja hu (jv 0) qE (λ_ _=>rfl)) (qG QH qj (Ja hu (jv 0) qE (λ_ _=>rfl)))) qj) qj))
     (qh (qB (i:=3) YI.nd rfl (Or.inl rfl) (qG jP (qG QH (jv 3) (jv 3)) qj))
     (qk (qL (qG jP (qG Z9 (qG jP (qG QH (qG jx (jv 3) (Ja hu (jv 0) qE (λ_ _=>rfl))) (qG jx (jv 3) qj)) qj) qj) (jv 1))))))),?_⟩
   refine⟨_,rfl,d,_,rfl,gN hd,_,_,rfl,rfl,_,rfl,?_⟩
   refine QL (λ_=>?_) (λ_=>?_)
   . refine⟨_,rfl,d,_,rfl,gN hd,_,rfl,_,_,rfl,rfl,m0,?_⟩
     refine⟨_,rfl,d,_,rfl,gN hd,_,rfl,_,_,rfl,rfl,⟨m0,m1⟩,_,rfl,d,_,rfl,pN hd _,?_⟩
     exact⟨_,rfl,k _ _ _ (Int.emod_nonneg _ (by omega)) (Int.emod_lt_of_pos _ m0)⟩
   . refine⟨_,rfl,d,_,rfl,gT hd,_,_,rfl,rfl,_,rfl,d,_,rfl,pT hd _,?_⟩
     have h1:upd H d (.dK (qN n sd (t+1))) d=some (.dK (qN n sd (t+1))):=qd
     refine⟨_,rfl,d,_,rfl,gS h1,_,rfl,d,_,rfl,gT h1,_,_,rfl,rfl,.inl ⟨by decide,by decide⟩,_,_,rfl,rfl,_,_,rfl,rfl,.inr ⟨by decide,by decide⟩,_,_,rfl,rfl,(by show (0:Int) < 2147483647;decide),?_⟩
     generalize ha:((sd+7919*(t+1))*48271) % 2147483647=x
     have x0:0<=x:=by rw[<-ha];exact Int.emod_nonneg _ (by decide)
     have x1:x < 2147483647:=by rw[<-ha];exact Int.emod_lt_of_pos _ (by decide)
     refine⟨_,rfl,_,rfl,_,_,rfl,rfl,.inl ⟨by omega,by omega⟩,_,_,rfl,rfl,(by show (0:Int) < 2147483629;decide),?_⟩
     generalize hb:(x*x) % 2147483629=y
     have y0:0<=y:=by rw[<-hb];exact Int.emod_nonneg _ (by decide)
     have y1:y < 2147483629:=by rw[<-hb];exact Int.emod_lt_of_pos _ (by decide)
     refine⟨_,rfl,_,rfl,d,_,rfl,gT h1,_,_,rfl,rfl,_,rfl,_,_,rfl,rfl,_,_,rfl,rfl,.inr ⟨by omega,by omega⟩,_,_,rfl,rfl,(by show (0:Int) < 2147483587;decide),_,_,rfl,rfl,⟨by decide,by decide⟩,_,rfl,_,_,rfl,rfl,m0,?_⟩
     exact k _ _ _ (Int.emod_nonneg _ (by omega)) (Int.emod_lt_of_pos _ m0)
end
end Rh
namespace Rh
open PySem L2 PyProof.Rows
structure Zg (mg:Str->Option Value):Prop where
 len:mg "len"=none
 max:mg "max"=none
 min:mg "min"=none
 int:mg "int"=none
 rng:mg "range"=none
theorem Ul (n s t:Int):Zc [] (qN n s t)=qN n s t:=by
 unfold Zc qN
 simp only[List.foldl_cons,List.foldl_nil]
 unfold jJ
 simp [nns,K7,K6,nsn,ntn,nts]
section
variable {P:Program} {w:World} {K:PySem.W.Frag} {mg:Str->Option Value} {base:Heap}
theorem vd:qK ["_law_cell"] ["_law_cell"] (qv Z8):=⟨rfl,rfl,rfl,by decide+kernel,rfl,by decide+kernel,by decide+kernel⟩
theorem Ud {f:Addr} {fd:FuncData} (F:Ql K "_law_source" "_law_source" Z8 f fd) (B:Zg mg):qz P w K mg base jc 1 f fd ["_law_cell"] Xq:=by
 refine F.okJ vd (λvs H Q E h=>?_) (λcdv A outer s H vs Q E hr h=>?_)
 . obtain⟨c,rfl,_⟩:=h
   rfl
 . obtain⟨c,rfl,k⟩:=h
   refine⟨_,qk (qL (yE
     (zK qE (qG QH (ql (Yt rfl) (by rfl) B.max boot_max (qb qj (qb (jv 0) qf)))
       (ji Yu (by rfl) B.int boot_int (qb (Zo vD (jv 0) (qG xW qj qj) (qC _)) qf)))
     (zK qE (qG jP (jv 0) qj) (zK qE qj yD))) rfl rfl (by simp) (by decide))),?_⟩
   intro p hp
   refine⟨_,rfl,_,_,rfl,_,rfl,_,_,rfl,rfl,⟨by decide,by decide,by decide⟩,_,_,rfl,rfl,.inr ⟨_,rfl,_,_,rfl,rfl,.inr ?_,_,rfl,_,_,rfl,rfl,(by show (0:Int) < 2147483629;decide),?_⟩⟩
   . split<;>exact⟨by decide,by decide⟩
   . refine⟨qd,qN _ _ 0,rfl,(by show 3<=15;decide),?_⟩
     rw[Ul,qY]
     exact k p _ _ hp
theorem xM:qK ["_law_script","_law_k"] ["_law_script","_law_k"] (qv W6):=⟨rfl,rfl,rfl,by decide+kernel,rfl,by decide+kernel,by decide+kernel⟩
theorem yu {f:Addr} {fd:FuncData} (F:Ql K "_law_cell_at" "_law_cell_at" W6 f fd) (B:Zg mg):qz P w K mg base jc 1 f fd ["_law_script","_law_k"] (U9 K):=by
 refine F.okJ xM (λvs H Q E h=>?_) (λcdv A outer s H vs Q E hr h=>?_)
 . obtain⟨a,ns,k,rfl,_⟩:=h
   rfl
 . obtain⟨a,ns,k,rfl,hS,k0,q⟩:=h
   refine⟨_,qh (qR (qu jY (jv 1) (ql qy (by rfl) B.len boot_len (qb (jv 0) qf)) (qC _))
       (qk (qL (qP qO (jv 0) (jv 1) (λ_ _=>rfl)))) qD)
     (qk (qL (qG jx (qG QH qj (jv 1)) qj))),?_⟩
   refine⟨_,rfl,_,rfl,a,_,rfl,.inl hS,_,_,rfl,rfl,_,rfl,?_⟩
   refine QL (λh=>?_) (λ_=>?_)
   . have h1:k < ((ns.map V.int).length:Int):=of_decide_eq_true h
     rw[List.length_map]at h1
     have h2:k.toNat < ns.length:=by omega
     have h3:(ns.map V.int)[k.toNat]?=some (V.int ns[k.toNat]):=by rw[List.getElem?_map,List.getElem?_eq_getElem h2];rfl
     have h4:k=((k.toNat:Nat):Int):=by omega
     refine⟨_,rfl,_,rfl,a,_,k,V.int ns[k.toNat],rfl,rfl,hS,?_,q _⟩
     have h5:=jp h3
     rw[<-h4]at h5
     exact h5
   . exact⟨_,rfl,_,_,rfl,rfl,.inl ⟨by decide,by decide⟩,_,_,rfl,rfl,q _⟩
end
end Rh
set_option Elab.async false
set_option linter.all false
set_option maxRecDepth 100000
set_option maxHeartbeats 4000000
namespace Rh
open PySem L2 PyProof.Rows
def Fr (H:Hp) (d:Addr) (H':Hp):Prop:=∀b o,H b=some o->b≠d->H' b=some o
theorem Fr.refl {H:Hp} {d:Addr}:Fr H d H:=λ_ _ h _=>h
theorem Fr.at_d {H H':Hp} {d:Addr} {o:HO} (h:Fr H d H'):Fr H d (upd H' d o):=λb u hb hn=>by
 rw[qi hn]
 exact h b u hb hn
theorem Fr.new {H H':Hp} {d p:Addr} {o:HO} (h:Fr H d H') (hp:H' p=none):Fr H d (upd H' p o):=λb u hb hn=>qm (h b u hb hn) hp
theorem Fr.own {H H':Hp} {d p:Addr} {o:HO} (h:Fr H d H') (hp:H p=none):Fr H d (upd H' p o):=λb u hb hn=>by
 rw[qi (qt hb hp)]
 exact h b u hb hn
theorem Fr.trans {H H' H'':Hp} {d:Addr} (h:Fr H d H') (k:Fr H' d H''):Fr H d H'':=λb u hb hn=>k b u (h b u hb hn) hn
theorem Fr.fresh {H H':Hp} {d p:Addr} {o:HO} (h:Fr H d H') (hd:H' d=some o) (hp:H' p=none):H p=none:=by
 cases e:H p with
 | none=>rfl
 | some u=>
   by_cases n:p=d
   . subst n
     rw[hd]at hp
     cases hp
   . rw[h p u e n]at hp
     cases hp
def jq (c:Nat):Bool:=decide (97<=c)&&decide (c<=122)
def qw (z:Str):Bool:=(decide (1<=z.length)&&decide (z.length<=8))&&z.cps.toList.all jq
def WH:Str:="abcdefghijklmnopqrstuvwxyz"
theorem YA:WH.cps.toList=[97,98,99,100,101,102,103,104,105,106,107,108,109,110,111,112,113,114,115,116,117,118,119,120,121,122]:=by decide+kernel
theorem kC:WH.cps.toList=(List.range 26).map (97+·):=by rw[YA];rfl
theorem VH:WH.length<=sizeLine:=by
 show WH.cps.size<=sizeLine
 rw[<-Array.length_toList,YA]
 decide
theorem kD {r:Int} (h0:0<=r) (h1:r < 26):Xd WH.cps.toList r=some (97+r.toNat):=by
 have h2:WH.cps.toList[r.toNat]?=some (97+r.toNat):=by
   rw[kC,List.getElem?_map,List.getElem?_range (by omega)]
   rfl
 have h4:=jp h2
 have h5:r=((r.toNat:Nat):Int):=by omega
 rw[<-h5]at h4
 exact h4
theorem Yl {r:Int} (h0:0<=r) (h1:r < 26):jq (97+r.toNat)=true:=by
 unfold jq
 rw[decide_eq_true (by omega:97<=97+r.toNat),decide_eq_true (by omega:97+r.toNat<=122)]
 rfl
theorem wu (ws:List Nat):(Txt.join (Str.ofString "") (ws.map λk=>(⟨#[k]⟩:Str))).cps.toList=ws:=by
 show (Builtin.Str.glued (Str.ofString "") _).cps.toList=_
 rw[StrLaws.glued_eq_join]
 have e:(Str.ofString "")=⟨#[]⟩:=by decide+kernel
 rw[e,PyProof.Rows.join_ones]
theorem Us {z:Str} {A B:List Nat} {c:Nat} (e:z.cps.toList=A++[c]++B) (hA:A.all jq=true) (hc:jq c=true) (hB:B.all jq=true) (hl:A.length+B.length<=7):qw z=true:=by
 have l:z.length=A.length+1+B.length:=by
   show z.cps.size=_
   rw[<-Array.length_toList,e]
   simp
   omega
 unfold qw
 rw[decide_eq_true (by omega:1<=z.length),decide_eq_true (by omega:z.length<=8),e,List.all_append,List.all_append,hA,hB]
 simp [hc]
def XZ (f s:Int) (k:Nat):Nat:=97+((f+s*(k:Int)) % 26).toNat
theorem yy:∀s∈[(1:Int),3,5,7,9,11],∀k,k < 14->∀j,j < 14->(s*((k:Nat):Int) - s*((j:Nat):Int)) % 26=0->k=j:=by decide+kernel
theorem Ve {f s:Int} {k j:Nat} (hs:s=1\/s=3\/s=5\/s=7\/s=9\/s=11) (hk:k < 14) (hj:j < 14) (h:XZ f s k=XZ f s j):k=j:=by
 unfold XZ at h
 refine yy s (by simpa using hs) k hk j hj ?_
 generalize s*(k:Int)=x at h ⊢
 generalize s*(j:Int)=y at h ⊢
 omega
def Qg (A:List Nat) (f s:Int) (zs:List Str):Prop:=∀j z,zs[j]?=some z->∃B,z.cps.toList=A++[XZ f s j]++B/\B.all jq=true/\A.length+B.length<=7
theorem Qg.snoc {A:List Nat} {f s:Int} {zs:List Str} (h:Qg A f s zs) {z:Str} {B:List Nat} (e:z.cps.toList=A++[XZ f s zs.length]++B) (hB:B.all jq=true) (hl:A.length+B.length<=7):Qg A f s (zs++[z]):=by
 intro j y hy
 by_cases hj:j < zs.length
 . rw[List.getElem?_append_left hj]at hy
   exact h j y hy
 . have hj':j=zs.length:=by
     have:=(List.getElem?_eq_some_iff.mp hy).1
     rw[List.length_append,List.length_singleton]at this
     omega
   subst hj'
   rw[List.getElem?_append_right (Nat.le_refl _),Nat.sub_self]at hy
   obtain rfl:=(Option.some.inj hy).symm
   exact⟨B,e,hB,hl⟩
theorem Qg.names {A:List Nat} {f s:Int} {zs:List Str} (h:Qg A f s zs) (hA:A.all jq=true):∀z∈zs,qw z=true:=λz hz=>by
 obtain⟨j,hj⟩:=List.getElem?_of_mem hz
 obtain⟨B,e,hB,hl⟩:=h j z hj
 refine Us e hA ?_ hB hl
 unfold XZ
 exact Yl (Int.emod_nonneg _ (by decide)) (Int.emod_lt_of_pos _ (by decide))
theorem Qg.nodup {A:List Nat} {f s:Int} {zs:List Str} (h:Qg A f s zs) (hs:s=1\/s=3\/s=5\/s=7\/s=9\/s=11) (hz:zs.length<=14):zs.Nodup:=by
 refine List.pairwise_iff_getElem.mpr λi j hi hj hij e=>?_
 obtain⟨B,b1,_⟩:=h j _ (List.getElem?_eq_getElem hj)
 obtain⟨C,c1,_⟩:=h i _ (List.getElem?_eq_getElem hi)
 rw[e]at c1
 have e2:(A++[XZ f s j]++B)[A.length]?=(A++[XZ f s i]++C)[A.length]?:=by rw[<-b1,<-c1]
 rw[List.append_assoc,List.append_assoc,List.getElem?_append_right (Nat.le_refl _),List.getElem?_append_right (Nat.le_refl _),Nat.sub_self]at e2
 have e3:XZ f s j=XZ f s i:=Option.some.inj e2
 exact absurd (Ve hs (by omega) (by omega) e3) (by omega)
def Zf (zs:List Str):Prop:=¬(Str.ofString "none"∈zs/\Str.ofString "nowhere"∈zs/\Str.ofString "q"∈zs)
theorem Qg.four {A:List Nat} {f s:Int} {zs:List Str} (h:Qg A f s zs) (hs:s=1\/s=3\/s=5\/s=7\/s=9\/s=11) (hz:zs.length<=14):Zf zs:=λ⟨h1,h2,h3⟩=>by
 obtain⟨i,ei⟩:=List.getElem?_of_mem h1
 obtain⟨j,ej⟩:=List.getElem?_of_mem h2
 obtain⟨k,ek⟩:=List.getElem?_of_mem h3
 obtain⟨B,b1,_⟩:=h i _ ei
 obtain⟨C,c1,_⟩:=h j _ ej
 obtain⟨D,d1,_⟩:=h k _ ek
 have n1:(Str.ofString "none").cps.toList=[110,111,110,101]:=by decide+kernel
 have n2:(Str.ofString "nowhere").cps.toList=[110,111,119,104,101,114,101]:=by decide+kernel
 have n3:(Str.ofString "q").cps.toList=[113]:=by decide+kernel
 rw[n1]at b1
 rw[n2]at c1
 rw[n3]at d1
 have hA:A=[]:=by
   have:=congrArg List.length d1
   simp at this
   exact List.eq_nil_of_length_eq_zero (by omega)
 subst hA
 have e1:XZ f s i=110:=by simpa using (List.cons.inj b1).1.symm
 have e2:XZ f s j=110:=by simpa using (List.cons.inj c1).1.symm
 have hi:=(List.getElem?_eq_some_iff.mp ei).1
 have hj:=(List.getElem?_eq_some_iff.mp ej).1
 have:i=j:=Ve hs (by omega) (by omega) (e1.trans e2.symm)
 subst this
 rw[ei]at ej
 have:Str.ofString "none"=Str.ofString "nowhere":=Option.some.inj ej
 exact absurd this (by decide+kernel)
theorem XS {A:List Nat} (h:A.all jq=true) (n:Nat):(A.take n).all jq=true:=by
 rw[List.all_eq_true]at h ⊢
 exact λx hx=>h x (List.mem_of_mem_take hx)
theorem xK {r:Int} (h0:0<=r) (h1:r < 6):∃m:Int,(m=1\/m=3\/m=5\/m=7\/m=9\/m=11)/\Xd [V.int 1,V.int 3,V.int 5,V.int 7,V.int 9,V.int 11] r=some (.int m):=by
 have:r=0\/r=1\/r=2\/r=3\/r=4\/r=5:=by omega
 rcases this with rfl | rfl | rfl | rfl | rfl | rfl
 . exact⟨1,by decide,rfl⟩
 . exact⟨3,by decide,rfl⟩
 . exact⟨5,by decide,rfl⟩
 . exact⟨7,by decide,rfl⟩
 . exact⟨9,by decide,rfl⟩
 . exact⟨11,by decide,rfl⟩
def WX:Sp:=λvs H Q _=>∃(d:Addr) (m:Nat) (n s t:Int),vs=[.ref d,.int m]/\H d=some (.dK (qN n s t))/\m<=14/\
 ∀(l:Addr) (zs:List Str) (n' t':Int) (H':Hp),H l=none->H' l=some (.lst (zs.map V.str))->zs.length=m->(∀z∈zs,qw z=true)->zs.Nodup->Zf zs->H' d=some (.dK (qN n' s t'))->Fr H d H'->Q (.ref l) H'
theorem Xp:∀zs:List Str,(zs.map λ_=>1).sum=zs.length
 | []=>rfl
 | z::zs=>by rw[List.map_cons,List.sum_cons,Xp zs,List.length_cons];omega
section
variable {P:Program} {w:World} {K:PySem.W.Frag} {mg:Str->Option Value} {base:Heap}
abbrev wj:List Str:=["_law_source_here","_law_many","_law_letters","_law_word","_law_ahead","_law_first","_law_step","_law_names_here","_law_k","_law_behind"]
theorem Qm:qK wj ["_law_source_here","_law_many"] (qv zx):=⟨rfl,rfl,rfl,by decide+kernel,rfl,by decide+kernel,by decide+kernel⟩
theorem vG {f fT:Addr} {fd fdT:FuncData} (F:Ql K "_law_names" "_law_names" zx f fd) (B:Zg mg) (hT:jR K mg "_law_take" Qr ["_law_source_here","_law_many"] fT fdT):qz P w K mg base jc 2 f fd ["_law_source_here","_law_many"] WX:=by
 have GT:qz P w K mg base jc 1 fT fdT ["_law_source_here","_law_many"] j7:=jN hT.fn
 refine F.okJ Qm (λvs H Q E h=>?_) (λcdv A outer s H vs Q E hr h=>?_)
 . obtain⟨d,m,n,sd,t,rfl,_⟩:=h
   rfl
 . obtain⟨d,m,n,sd,t,rfl,hd,hm,q⟩:=h
   refine⟨_,qh (qB (i:=2) Qm.nd rfl (Or.inr rfl) qE)
     (qh (qB (i:=3) Qm.nd rfl (Or.inl rfl) (ka PySem.F.plainAttrs_str PySem.F.slot_str_join PySem.F.type_str_join yz qE (qb
       (QS (N':=["_law_k","_law_letters","_law_source_here"]) (ix:=[none,some 2,some 0]) rfl ⟨rfl,rfl,rfl,rfl,rfl⟩
         (jG (by rfl) B.rng (qb qj qf))
         (λC s2 H2 fp pins=>⟨qr (i:=0) (show (["_law_k","_law_letters","_law_source_here"]:List Str).Nodup by decide+kernel) rfl (Or.inl rfl),jr,
           qP zN (jv 1) (qS hT GT hr (by rfl) (qb (jv 2) (qb qj qf))) (λ_ _=>rfl)⟩)) qf)))
     (qh (qB (i:=4) Qm.nd rfl (Or.inl rfl) (jK Wd (jv 3) Qc (Qb (qG QH (qS hT GT hr (by rfl) (qb (jv 0) (qb qj qf))) (qS hT GT hr (by rfl) (qb (jv 0) (qb qj qf)))))))
     (qh (qB (i:=5) Qm.nd rfl (Or.inl rfl) (qS hT GT hr (by rfl) (qb (jv 0) (qb qj qf))))
     (qh (qB (i:=6) Qm.nd rfl (Or.inl rfl) (qP qO (qA (qb qj (qb qj (qb qj (qb qj (qb qj (qb qj qf))))))) (qS hT GT hr (by rfl) (qb (jv 0) (qb qj qf))) (λ_ _=>rfl)))
     (qh (qB (i:=7) Qm.nd rfl (Or.inl rfl) (qA qf))
     (qh (jQ PassesOwn.never rfl (jG (by rfl) B.rng (qb (jv 1) qf)) (qr (i:=8) Qm.nd rfl (Or.inl rfl))
       (qh (qB (i:=9) Qm.nd rfl (Or.inl rfl) (jK Wd (jv 3) Qc (Qb (qS hT GT hr (by rfl) (qb (jv 0) (qb (qG zD qj (ql j6 (by rfl) B.len boot_len (qb (jv 4) qf))) qf))))))
       (qk (jF (ka PySem.F.plainAttrs_list PySem.F.slot_list_append PySem.F.type_list_append JD (jv 7) (qb
         (qG Q5 (qG Q5 (jv 4) (qP zN (jv 2) (qG jP (qG jx (jv 5) (qG QH (jv 6) (jv 8))) qj) (λ_ _=>rfl))) (jv 9)) qf))))))
     (qk (qL (jv 7))))))))),?_⟩
   refine⟨rfl,7,rfl,by decide,by decide,λD hD=>?_⟩
   have nDd:D≠d:=λe=>by rw[e,hd]at hD;cases hD
   refine QV (λi σ' H'=>∃(v:Option V) (n' t':Int) (ws:List Nat),σ'=[v,some (.str WH),some (.ref d)]/\H' d=some (.dK (qN n' sd t'))/\H' D=some (.lst ((ws.map λk=>(⟨#[k]⟩:Str)).map V.str))/\ws.length=i/\ws.all jq=true/\Fr H d H')
     ⟨none,n,t,[],rfl,qm hd hD,qd,rfl,rfl,Fr.refl.new hD⟩ ?_ ?_
   . rintro i σ' H' hi ⟨v,n',t',ws,rfl,hd',hD',hl,ha,fr⟩
     refine⟨_,rfl,_,rfl,d,26,n',sd,t',rfl,hd',by decide,by decide,λr n3 t3 r0 r1=>?_⟩
     refine⟨WH,r,_,rfl,rfl,VH,kD r0 r1,_,(by rw[qi nDd];exact hD'),?_,?_⟩
     . rw[List.length_map,List.length_map,hl]
       exact qp (by omega)
     . refine⟨_,n3,t3,ws++[97+r.toNat],rfl,?_,?_,?_,?_,?_⟩
       . rw[qi (Ne.symm nDd)];exact qd
       . rw[List.map_append,List.map_append];exact qd
       . rw[List.length_append,hl];rfl
       . rw[List.all_append,ha]
         simp [Yl r0 r1]
       . exact(fr.at_d).own hD
   rintro σ' H1 ⟨v,n1,t1,ws,rfl,hd1,hD1,hl1,ha1,fr1⟩
   have hl1:ws.length=7:=hl1
   refine⟨Str.ofString "",D,_,rfl,rfl,.of hD1,?_,?_⟩
   . have e1:((ws.map λk=>(⟨#[k]⟩:Str)).map (·.length))=(ws.map λk=>(⟨#[k]⟩:Str)).map λ_=>1:=by
       refine List.map_congr_left λz hz=>?_
       obtain⟨c,_,rfl⟩:=List.mem_map.mp hz
       rfl
     have e2:(Str.ofString "").length=0:=by decide+kernel
     rw[e1,e2,Xp,List.length_map,hl1]
     decide
   generalize hw:Txt.join (Str.ofString "") (ws.map λk=>(⟨#[k]⟩:Str))=wd
   have hW:wd.cps.toList=ws:=by rw[<-hw];exact wu ws
   have hWl:wd.length=7:=by
     show wd.cps.size=7
     rw[<-Array.length_toList,hW,hl1]
   refine⟨_,rfl,_,rfl,d,2,n1,sd,t1,rfl,hd1,by decide,by decide,λr2 n2 t2 r20 r21=>?_⟩
   refine⟨_,rfl,d,5,n2,sd,t2,rfl,qd,by decide,by decide,λr3 n3 t3 r30 r31=>?_⟩
   rw[qY]
   have e4:∃j:Nat,r2*r3=(j:Int)/\j<=4:=by
     have h2:r2=0\/r2=1:=by omega
     rcases h2 with rfl | rfl
     . exact⟨0,by omega,by omega⟩
     . exact⟨r3.toNat,by omega,by omega⟩
   obtain⟨j,ej,hj⟩:=e4
   refine⟨_,_,rfl,rfl,.inl ⟨by omega,by omega⟩,_,rfl,wd,r2*r3,rfl,rfl,rfl,by omega,?_⟩
   rw[ej]
   generalize ha:Txt.slice wd none (some (j:Int))=ah
   have hA:ah.cps.toList=ws.take j:=by rw[<-ha,Q0,hW]
   have hAl:ah.length=j:=by
     show ah.cps.size=j
     rw[<-Array.length_toList,hA,List.length_take,hl1]
     omega
   refine⟨_,rfl,d,26,n3,sd,t3,rfl,qd,by decide,by decide,λf n4 t4 f0 f1=>?_⟩
   rw[qY]
   refine⟨by show 6<=sizeLine;decide,λp hp=>?_⟩
   have npd:p≠d:=λe=>by rw[e,qd]at hp;cases hp
   refine⟨_,rfl,d,6,n4,sd,t4,rfl,(by rw[qi (Ne.symm npd)];exact qd),by decide,by decide,λr5 n5 t5 r50 r51=>?_⟩
   obtain⟨st,hst,hsa⟩:=xK r50 r51
   refine⟨p,_,r5,.int st,rfl,rfl,.of (by rw[qi npd];exact qd),hsa,?_⟩
   have fr5:Fr H d (upd (upd (upd H1 d (.dK (qN n4 sd t4))) p (.lst [V.int 1,V.int 3,V.int 5,V.int 7,V.int 9,V.int 11])) d (.dK (qN n5 sd t5))):=(fr1.at_d.new hp).at_d
   generalize hH5:upd (upd (upd H1 d (.dK (qN n4 sd t4))) p (.lst [V.int 1,V.int 3,V.int 5,V.int 7,V.int 9,V.int 11])) d (.dK (qN n5 sd t5))=H5 at fr5
   have hd5:H5 d=some (.dK (qN n5 sd t5)):=by rw[<-hH5];exact qd
   refine⟨by show 0<=sizeLine;decide,λl hl=>⟨_,rfl,m,rfl,by omega,by omega,?_⟩⟩
   have hHl:H l=none:=fr5.fresh hd5 hl
   have nld:l≠d:=λe=>by rw[e,hd5]at hl;cases hl
   refine JM (lo:=0) (n:=m) (λi σ' H'=>∃(v1 v2:Option V) (n' t':Int) (zs:List Str),σ'=[some (.ref d),some (.int m),some (.str WH),some (.str wd),some (.str ah),some (.int f),some (.int st),some (.ref l),v1,v2]/\
     H' d=some (.dK (qN n' sd t'))/\H' l=some (.lst (zs.map V.str))/\zs.length=i/\Qg (ws.take j) f st zs/\Fr H d H')
     ⟨none,none,n5,t5,[],rfl,qm hd5 hl,qd,rfl,λj z hz=>(nomatch hz),fr5.new hl⟩ ?_ ?_
   . rintro i σ' H' hi ⟨v1,v2,n',t',zs,rfl,hd',hl',hz,hN,fr⟩
     rw[Int.zero_add]
     refine⟨_,rfl,_,rfl,_,rfl,ah,rfl,(by rw[hAl];exact Nat.le_of_lt (qp (by omega))),_,_,rfl,rfl,d,8 - (ah.length:Int),n',sd,t',rfl,hd',by omega,by omega,λr n6 t6 r0 r1=>?_⟩
     have er:r=((r.toNat:Nat):Int):=by omega
     refine⟨_,rfl,wd,r,rfl,rfl,rfl,by omega,?_⟩
     generalize hb:Txt.slice wd none (some r)=bh
     have hB:bh.cps.toList=ws.take r.toNat:=by rw[<-hb,er,Q0,hW];rfl
     have hBl:bh.length<=r.toNat:=by
       show bh.cps.size<=r.toNat
       rw[<-Array.length_toList,hB,List.length_take]
       omega
     refine⟨_,rfl,.inl ⟨rfl,_,.of (by rw[qi nld];exact hl')⟩,_,rfl,_,rfl,_,rfl,_,rfl,_,rfl,_,_,rfl,rfl,.inl ⟨by omega,by omega⟩,_,_,rfl,rfl,_,_,rfl,rfl,(by show (0:Int) < 26;decide),?_⟩
     refine⟨WH,_,_,rfl,rfl,VH,kD (Int.emod_nonneg _ (by decide)) (Int.emod_lt_of_pos _ (by decide)),?_⟩
     have e26:97+((f+st*(i:Int)) % 26).toNat=XZ f st i:=rfl
     rw[e26]
     have l1:(ah++(⟨#[XZ f st i]⟩:Str)).length=j+1:=by
       show (ah++(⟨#[XZ f st i]⟩:Str)).cps.size=_
       rw[Str.cps_append,Array.size_append]
       show ah.length+1=_
       rw[hAl]
     refine⟨_,_,rfl,rfl,Nat.le_of_lt (qp (by show ah.length+1<=1000;omega)),_,rfl,_,_,rfl,rfl,Nat.le_of_lt (qp (by rw[l1];omega)),?_⟩
     refine⟨l,_,_,rfl,rfl,(by rw[qi nld];exact hl'),(by rw[List.length_map,hz];exact qp (by omega)),?_⟩
     refine⟨_,_,n6,t6,zs++[ah++(⟨#[XZ f st i]⟩:Str)++bh],rfl,?_,?_,?_,?_,?_⟩
     . rw[qi (Ne.symm nld)];exact qd
     . rw[List.map_append];exact qd
     . rw[List.length_append,hz];rfl
     . refine hN.snoc (B:=ws.take r.toNat) ?_ (XS ha1 _) ?_
       . rw[Str.cps_append,Str.cps_append,Array.toList_append,Array.toList_append,hA,hB,hz]
       . rw[List.length_take,List.length_take]
         omega
     . exact fr.at_d.own hHl
   . rintro σ' H' ⟨v1,v2,n',t',zs,rfl,hd',hl',hz,hN,fr⟩
     exact⟨_,rfl,q l zs n' t' H' hHl hl' hz (hN.names (XS ha1 _)) (hN.nodup hst (by omega)) (hN.four hst (by omega)) hd' fr⟩
end
end Rh
set_option Elab.async false
set_option linter.all false
set_option maxRecDepth 100000
set_option maxHeartbeats 4000000
namespace Rh
open PySem L2 PyProof.Rows
def WI (t:TT) (σ:L2.St) (H:Hp):Prop:=∀Q:Bool->Hp->Prop,(∀b,Q b H)->t σ H Q
theorem WI.and {t u:TT} {σ:L2.St} {H:Hp} (h:WI t σ H) (k:WI u σ H):WI (ud t u) σ H:=λQ q=>h _ λb=>by
 cases b
 . exact jL (q false)
 . exact Jb (k _ q)
theorem WI.or {t u:TT} {σ:L2.St} {H:Hp} (h:WI t σ H) (k:WI u σ H):WI (tOr t u) σ H:=λQ q=>h _ λb=>by
 cases b
 . exact jL (k _ q)
 . exact Jb (q true)
theorem kj {tc:TT} {tp:TS} {D:QX} {σ:L2.St} {H0:Hp} (G:Hp->Prop) (h:G H0) (ht:WI tc σ H0) (hp:∀D:QX,(∀H',G H'->D.nx σ H')->tp D σ H0) (k:∀H',G H'->D.nx σ H'):Xk tc tp ZP D σ H0:=
 ht _ λb=>by
   cases b
   . exact jL (k _ h)
   . exact Jb (hp D k)
theorem zj {tc:TT} {tp u:TS} {D:QX} {σ:L2.St} {H0:Hp} (G:Hp->Prop) (h:G H0) (ht:WI tc σ H0) (hp:∀D:QX,(∀H',G H'->D.nx σ H')->tp D σ H0) (k:∀H',G H'->u D σ H'):VR (Xk tc tp ZP) u D σ H0:=kj G h ht hp k
theorem zP {i:Nat} {v:V} {σ:L2.St} {H:Hp} {Q:L2.St->Hp->Prop} (h:Q (σ.set i (some v)) H):jH i v σ H Q:=h
abbrev up (k:Nat×Nat):Int×Int:=((k.1:Int),(k.2:Int))
def xo (a b:Nat×Nat):Prop:=a.1 < b.1\/(a.1=b.1/\a.2 < b.2)
abbrev ZK (ks:List (Nat×Nat)):List (List qW):=ks.map λk=>ZT (up k)
theorem Ub {a b:Nat×Nat} (h:ZT (up a)=ZT (up b)):a=b:=by
 unfold ZT at h
 simp only[List.cons.injEq,Sum.inl.injEq,and_true]at h
 exact Prod.ext (by have:=h.1;omega) (by have:=h.2;omega)
structure Jf (m i j:Nat) (ks:List (Nat×Nat)):Prop where
 ord:ks.Pairwise xo
 lt:∀x∈ks,x.2 < m/\(x.1 < i\/(x.1=i/\x.2 < j))
 len:ks.length<=i*m+j
theorem Jf.more {m i j:Nat} {ks:List (Nat×Nat)} (h:Jf m i j ks):Jf m i (j+1) ks:=⟨h.ord,λx hx=>by have:=h.lt x hx;omega,by have:=h.len;omega⟩
theorem Jf.snoc {m i j:Nat} {ks:List (Nat×Nat)} (h:Jf m i j ks) (hj:j < m):Jf m i (j+1) (ks++[(i,j)]):=by
 refine⟨List.pairwise_append.mpr ⟨h.ord,List.pairwise_singleton _ _,λa ha b hb=>?_⟩,λx hx=>?_,?_⟩
 . rw[List.mem_singleton.mp hb]
   have:=h.lt a ha
   unfold xo
   omega
 . rcases List.mem_append.mp hx with hx | hx
   . have:=h.lt x hx
     omega
   . rw[List.mem_singleton.mp hx]
     exact⟨hj,.inr ⟨rfl,Nat.lt_succ_self _⟩⟩
 . rw[List.length_append]
   have:=h.len
   show ks.length+1<=_
   omega
theorem Jf.row {m i:Nat} {ks:List (Nat×Nat)} (h:Jf m i m ks):Jf m (i+1) 0 ks:=⟨h.ord,λx hx=>by have:=h.lt x hx;omega,by have:=h.len;rw[Nat.succ_mul];omega⟩
def wR (m i j:Nat) (kvs:List (List qW×V)):Prop:=∃ks,Jf m i j ks/\(kvs.map (·.1)=ZK ks\/kvs.map (·.1)=ZK (ks++[(i,j)]))
theorem VG (kvs:List (List qW×V)) (k:List qW):((kvs.any λkv=>decide (kv.1=k))=true)↔k∈kvs.map (·.1):=by
 rw[List.any_eq_true,List.mem_map]
 simp
theorem yB {kvs:List (List qW×V)} {k:List qW} (v:V) (h:k∈kvs.map (·.1)):(jJ kvs k v).map (·.1)=kvs.map (·.1):=by
 unfold jJ
 rw[if_pos ((VG kvs k).mpr h),List.map_map]
 refine List.map_congr_left λx _=>?_
 show (if x.1=k then (x.1,v) else x).1=x.1
 split<;>rfl
theorem vS {kvs:List (List qW×V)} {k:List qW} (v:V) (h:¬k∈kvs.map (·.1)):(jJ kvs k v).map (·.1)=kvs.map (·.1)++[k]:=by
 unfold jJ
 rw[if_neg (λz=>h ((VG kvs k).mp z)),List.map_append]
 rfl
theorem wR.put {m i j:Nat} {kvs:List (List qW×V)} (h:wR m i j kvs) (v:V):wR m i j (jJ kvs (ZT (up (i,j))) v):=by
 obtain⟨ks,ha,h⟩:=h
 refine⟨ks,ha,.inr ?_⟩
 rcases h with h | h
 . rw[vS,h,ZK,ZK,List.map_append]
   . rfl
   . rw[h]
     intro z
     obtain⟨x,hx,e⟩:=List.mem_map.mp z
     have e':=Ub e
     have:=ha.lt x hx
     rw[e']at this
     omega
 . rw[yB,h]
   rw[h]
   exact List.mem_map.mpr ⟨(i,j),by simp,rfl⟩
theorem wR.len {m i j:Nat} {kvs:List (List qW×V)} (h:wR m i j kvs):kvs.length<=i*m+j+1:=by
 obtain⟨ks,ha,h⟩:=h
 have hl:=ha.len
 rcases h with h | h
 . have:=congrArg List.length h
   simp only[List.length_map]at this
   omega
 . have:=congrArg List.length h
   simp only[List.length_map,List.length_append,List.length_singleton]at this
   omega
theorem y8 {i m:Nat} (hi:i<=m) (hm:m<=14):i*m<=196:=Nat.le_trans (Nat.mul_le_mul (Nat.le_trans hi hm) hm) (by decide)
theorem Ki (xs:List V):cutV xs none (some 40)=xs.take 40:=by
 unfold cutV
 have e1:HT.sIx xs.length 0 none=0:=rfl
 have e2:HT.sIx xs.length xs.length (some 40)=min 40 xs.length:=by
   simp [HT.sIx]
 rw[e1,e2,List.drop_zero,Nat.sub_zero]
 by_cases h:40<=xs.length
 . rw[Nat.min_eq_left h]
 . rw[Nat.min_eq_right (by omega),List.take_of_length_le (Nat.le_refl _),List.take_of_length_le (by omega)]
def Qf (H:Hp) (ps:List Addr) (ks:List (Nat×Nat)):Prop:=ps.length=ks.length/\∀(i:Nat) (p:Addr) (k:Nat×Nat),ps[i]?=some p->ks[i]?=some k->H p=some (.tup [.int (k.1:Nat),.int (k.2:Nat)])
def WY:Sp:=λvs H Q _=>∃(d:Addr) (m:Nat) (n s t sh lo:Int),vs=[.ref d,.int m,.int sh,.int lo]/\H d=some (.dK (qN n s t))/\m<=14/\
 ∀(l:Addr) (ps:List Addr) (ks:List (Nat×Nat)) (n' t':Int) (H':Hp),H l=none->H' l=some (.lst (ps.map V.ref))->Qf H' ps ks->ks.Pairwise xo->(∀x∈ks,x.1 < m/\x.2 < m)->ks.length<=40->H' d=some (.dK (qN n' s t'))->Fr H d H'->Q (.ref l) H'
section
variable {P:Program} {w:World} {K:PySem.W.Frag} {mg:Str->Option Value} {base:Heap}
abbrev wk:List Str:=["_law_source_here","_law_many","_law_shape","_law_low","_law_pairs","_law_k","_law_j","_law_way"]
abbrev zC:List Str:=["_law_source_here","_law_many","_law_shape","_law_low"]
theorem Zj:qK wk zC (qv zy):=⟨rfl,rfl,rfl,by decide+kernel,rfl,by decide+kernel,by decide+kernel⟩
theorem vH {f fT:Addr} {fd fdT:FuncData} (F:Ql K "_law_leads" "_law_leads" zy f fd) (B:Zg mg) (hso:mg "sorted"=none) (hT:jR K mg "_law_take" Qr ["_law_source_here","_law_many"] fT fdT):qz P w K mg base jc 2 f fd zC WY:=by
 have GT:qz P w K mg base jc 1 fT fdT ["_law_source_here","_law_many"] j7:=jN hT.fn
 refine F.okJ Zj (λvs H Q E h=>?_) (λcdv A outer s H vs Q E hr h=>?_)
 . obtain⟨d,m,n,sd,t,sh,lo,rfl,_⟩:=h
   rfl
 . obtain⟨d,m,n,sd,t,sh,lo,rfl,hd,hm,q⟩:=h
   have hu:=zO hr
   refine⟨_,qh (qB (i:=4) Zj.nd rfl (Or.inl rfl) vZ)
     (qh (jQ PassesOwn.never rfl (jG (by rfl) B.rng (qb (jv 1) qf)) (qr (i:=5) Zj.nd rfl (Or.inl rfl))
       (qk (jQ PassesOwn.never rfl (jG (by rfl) B.rng (qb (jv 1) qf)) (qr (i:=6) Zj.nd rfl (Or.inl rfl))
         (qh (qB (i:=7) Zj.nd rfl (Or.inl rfl) (qS hT GT hr (by rfl) (qb (jv 0) (qb qj qf))))
         (qh (qR (Qk (qu jU (jv 2) qj (qC _)) (jZ (Jr (Qk (qu jY (jv 6) (jv 5) (qC _)) (jZ (qu jY (jv 7) qj (qC _)))).pt (Qs (Qk (qu vD (jv 6) (jv 5) (qC _)) (jZ (qu jY (jv 7) qj (qC _)))).pt)).pt)).pt
           (qk (jO hu (jv 4) (qM (qb (jv 5) (qb (jv 6) qf))) je rfl)) qD)
         (qh (qR (Qk (qu jU (jv 2) qj (qC _)) (jZ (qu jY (jv 7) qj (qC _)))).pt
           (qk (jO hu (jv 4) (qM (qb (jv 5) (qb (jv 6) qf))) je rfl)) qD)
         (qh (qR (Qk (qu jU (jv 2) qj (qC _)) (jZ (Jr (Qk (qu jU (jv 6) (qG jP (qG jx (jv 5) qj) (jv 1)) (qC _)) (jZ (qu jY (jv 7) qj (qC _)))).pt (Qs (qu jY (jv 7) qj (qC _)))).pt)).pt
           (qk (jO hu (jv 4) (qM (qb (jv 5) (qb (jv 6) qf))) je rfl)) qD)
         (qh (qR (Qk (qu jU (jv 2) qj (qC _)) (Qk (qu jY (jv 6) (jv 5) (qC _)) (jZ (Jr (qu jY (jv 6) (jv 3) (qC _)) (Qs (qu jY (jv 7) qj (qC _)))).pt))).pt
           (qk (jO hu (jv 4) (qM (qb (jv 5) (qb (jv 6) qf))) je rfl)) qD)
         (qk (qR (Qk (qu jU (jv 2) qj (qC _)) (jZ (Jr (Qk (qu jY (jv 6) (jv 3) (qC _)) (jZ (qu jY (jv 6) (jv 5) (qC _)))).pt (Qs (Qk (qu vD (jv 5) (jv 3) (qC _)) (jZ (qu jY (jv 7) qj (qC _)))).pt)).pt)).pt
           (qk (jO hu (jv 4) (qM (qb (jv 5) (qb (jv 6) qf))) je rfl)) qD)))))))))
       )
     (qk (qL (jK Zi (ql (WD rfl) (by rfl) hso boot_sorted (qb (jv 4) qf)) Qc (Qb qj))))),?_⟩
   intro D hD
   have nDd:D≠d:=λe=>by rw[e,hd]at hD;cases hD
   refine⟨_,rfl,m,rfl,by omega,by omega,?_⟩
   refine JM (lo:=0) (n:=m) (λi σ' H'=>∃(v1 v2 v3:Option V) (n' t':Int) (kvs:List (List qW×V)) (ks:List (Nat×Nat)),σ'=[some (.ref d),some (.int m),some (.int sh),some (.int lo),some (.ref D),v1,v2,v3]/\
     H' d=some (.dK (qN n' sd t'))/\H' D=some (.dT kvs)/\kvs.map (·.1)=ZK ks/\Jf m i 0 ks/\Fr H d H')
     ⟨none,none,none,n,t,[],[],rfl,qm hd hD,qd,rfl,⟨.nil,λx hx=>(nomatch hx),Nat.zero_le _⟩,Fr.refl.new hD⟩ ?_ ?_
   . rintro i σ' H' hi ⟨v1,v2,v3,n',t',kvs,ks,rfl,hd',hD',ek,ha,fr⟩
     rw[Int.zero_add]
     refine⟨_,rfl,m,rfl,by omega,by omega,?_⟩
     refine JM (lo:=0) (n:=m) (λj σ' H'=>∃(v2 v3:Option V) (n' t':Int) (kvs:List (List qW×V)) (ks:List (Nat×Nat)),σ'=[some (.ref d),some (.int m),some (.int sh),some (.int lo),some (.ref D),some (.int i),v2,v3]/\
       H' d=some (.dK (qN n' sd t'))/\H' D=some (.dT kvs)/\kvs.map (·.1)=ZK ks/\Jf m i j ks/\Fr H d H')
       ⟨_,_,n',t',kvs,ks,rfl,hd',hD',ek,ha,fr⟩ ?_ ?_
     . rintro j σ' H2 hj ⟨v2,v3,n2,t2,kvs,ks,rfl,hd2,hD2,ek,ha,fr⟩
       rw[Int.zero_add]
       refine⟨_,rfl,d,12,n2,sd,t2,rfl,hd2,by decide,by decide,λr n3 t3 r0 r1=>?_⟩
       have hsq:=y8 (Nat.le_of_lt hi) hm
       let G:Hp->Prop:=λH'=>∃(kvs:List (List qW×V)),H' d=some (.dK (qN n3 sd t3))/\H' D=some (.dT kvs)/\wR m i j kvs/\Fr H d H'
       have g0:G (upd H2 d (.dK (qN n3 sd t3))):=⟨kvs,qd,(by rw[qi nDd];exact hD2),⟨ks,ha,.inl ek⟩,fr.at_d⟩
       have put:∀H',G H'->∀E:QX,(∀H',G H'->E.nx [some (.ref d),some (.int m),some (.int sh),some (.int lo),some (.ref D),some (.int i),some (.int j),some (.int r)] H')->
           W5 (qZ 4) (kS (jd (qZ 5) (jd (qZ 6) Qh))) (tC (.bl true)) E [some (.ref d),some (.int m),some (.int sh),some (.int lo),some (.ref D),some (.int i),some (.int j),some (.int r)] H':=by
         rintro H' ⟨kvs,h1,h2,h3,h4⟩ E k
         refine⟨_,rfl,_,rfl,_,rfl,by show 2<=sizeLine;decide,λp hp=>?_⟩
         have npd:p≠d:=λe=>by rw[e,h1]at hp;cases hp
         have npD:p≠D:=λe=>by rw[e,h2]at hp;cases hp
         refine⟨D,_,rfl,Ji.t (k:=ZT (up (i,j))) (kvs:=kvs) (by rw[qi (Ne.symm npD)];exact h2) qd (qp (by have:=h3.len;omega)),?_⟩
         refine k _ ⟨_,?_,qd,h3.put _,?_⟩
         . rw[qi (Ne.symm nDd),qi (Ne.symm npd)]
           exact h1
         . exact(h4.new hp).own hD
       refine zP ?_
       dsimp only[List.set]
       refine zj G g0 ?_ (put _ g0) λH3 g3=>?_
       . exact WI.and (λQ q=>⟨_,rfl,rfl,_,rfl,q _⟩) (.or (.and (λQ q=>⟨_,rfl,_,rfl,_,_,rfl,rfl,_,rfl,q _⟩) (λQ q=>⟨_,rfl,_,_,rfl,rfl,_,rfl,q _⟩)) (.and (λQ q=>⟨_,rfl,_,rfl,_,_,rfl,rfl,_,rfl,q _⟩) (λQ q=>⟨_,rfl,_,_,rfl,rfl,_,rfl,q _⟩)))
       refine zj G g3 ?_ (put _ g3) λH4 g4=>?_
       . exact WI.and (λQ q=>⟨_,rfl,rfl,_,rfl,q _⟩) (λQ q=>⟨_,rfl,_,_,rfl,rfl,_,rfl,q _⟩)
       refine zj G g4 ?_ (put _ g4) λH5 g5=>?_
       . exact WI.and (λQ q=>⟨_,rfl,rfl,_,rfl,q _⟩) (.or (.and (λQ q=>⟨_,rfl,_,rfl,_,_,rfl,rfl,_,rfl,_,_,rfl,rfl,(by show (0:Int) < m;omega),rfl,_,rfl,q _⟩) (λQ q=>⟨_,rfl,_,_,rfl,rfl,_,rfl,q _⟩)) (λQ q=>⟨_,rfl,_,_,rfl,rfl,_,rfl,q _⟩))
       refine zj G g5 ?_ (put _ g5) λH6 g6=>?_
       . exact WI.and (λQ q=>⟨_,rfl,rfl,_,rfl,q _⟩) (.and (λQ q=>⟨_,rfl,_,rfl,_,_,rfl,rfl,_,rfl,q _⟩) (.or (λQ q=>⟨_,rfl,_,rfl,_,_,rfl,rfl,_,rfl,q _⟩) (λQ q=>⟨_,rfl,_,_,rfl,rfl,_,rfl,q _⟩)))
       refine kj G g6 ?_ (put _ g6) λH7 g7=>?_
       . exact WI.and (λQ q=>⟨_,rfl,rfl,_,rfl,q _⟩) (.or (.and (λQ q=>⟨_,rfl,_,rfl,_,_,rfl,rfl,_,rfl,q _⟩) (λQ q=>⟨_,rfl,_,rfl,_,_,rfl,rfl,_,rfl,q _⟩)) (.and (λQ q=>⟨_,rfl,_,rfl,_,_,rfl,rfl,_,rfl,q _⟩) (λQ q=>⟨_,rfl,_,_,rfl,rfl,_,rfl,q _⟩)))
       obtain⟨kvs,h1,h2,⟨ks,ha,h3⟩,h4⟩:=g7
       rcases h3 with h3 | h3
       . exact⟨_,_,n3,t3,kvs,ks,rfl,h1,h2,h3,ha.more,h4⟩
       . exact⟨_,_,n3,t3,kvs,_,rfl,h1,h2,h3,ha.snoc hj,h4⟩
     . rintro σ' H2 ⟨v2,v3,n2,t2,kvs,ks,rfl,hd2,hD2,ek,ha,fr⟩
       exact⟨_,_,_,n2,t2,kvs,ks,rfl,hd2,hD2,ek,ha.row,fr⟩
   . rintro σ' H1 ⟨v1,v2,v3,n1,t1,kvs,ks,rfl,hd1,hD1,ek,ha,fr⟩
     have hl:kvs.length=ks.length:=by simpa using congrArg List.length ek
     have hsq:=y8 (Nat.le_refl m) hm
     have hal:=ha.len
     refine⟨_,rfl,D,kvs,ks.map up,rfl,hD1,?_,?_,by omega,λl ps hfl lps tup=>?_⟩
     . rw[ek,List.map_map]
       rfl
     . intro i k k' e1 e2
       rw[List.getElem?_map]at e1 e2
       cases e3:ks[i]? with
       | none=>rw[e3]at e1;cases e1
       | some a=>
         cases e4:ks[i+1]? with
         | none=>rw[e4]at e2;cases e2
         | some b=>
           rw[e3]at e1
           rw[e4]at e2
           obtain rfl:=(Option.some.inj e1).symm
           obtain rfl:=(Option.some.inj e2).symm
           have h5:=List.pairwise_iff_getElem.mp ha.ord i (i+1) (List.getElem?_eq_some_iff.mp e3).1 (List.getElem?_eq_some_iff.mp e4).1 (Nat.lt_succ_self _)
           rw[(List.getElem?_eq_some_iff.mp e3).2,(List.getElem?_eq_some_iff.mp e4).2]at h5
           unfold xo at h5
           show zJ _ _
           unfold zJ
           show (a.1:Int) < b.1\/((a.1:Int)=b.1/\(a.2:Int) < b.2)
           omega
     . refine⟨40,rfl,l,_,rfl,.of qd,λl2 hl2=>?_⟩
       rw[Ki,<-List.map_take]
       have n2d:l2≠d:=λe=>by
         rw[e,qm hd1 hfl]at hl2
         cases hl2
       have hl1:H1 l2=none:=by
         by_cases e:l2=l
         . rw[e];exact hfl
         . rw[qi e]at hl2;exact hl2
       have fr2:=(fr.new (o:=.lst (ps.map V.ref)) hfl).new (o:=.lst ((ps.take 40).map V.ref)) hl2
       refine q l2 (ps.take 40) (ks.take 40) n1 t1 _ (fr.fresh hd1 hl1) qd ⟨?_,λi p k e1 e2=>?_⟩ ?_ ?_ ?_ ?_ fr2
       . rw[List.length_take,List.length_take,lps,List.length_map]
       . have i40:i < 40:=by
           have:=(List.getElem?_eq_some_iff.mp e1).1
           rw[List.length_take]at this
           omega
         rw[List.getElem?_take_of_lt i40]at e1 e2
         have h1:=tup i p (up k) e1 (by rw[List.getElem?_map,e2];rfl)
         exact qm (qm h1 hfl) hl2
       . exact ha.ord.sublist (List.take_sublist _ _)
       . intro x hx
         have:=ha.lt x (List.mem_of_mem_take hx)
         omega
       . rw[List.length_take]
         omega
       . exact qm (qm hd1 hfl) hl2
end
end Rh
set_option Elab.async false
set_option linter.all false
set_option maxRecDepth 100000
set_option maxHeartbeats 4000000
namespace Rh
open PySem L2 PyProof.Rows
structure jM (rs:List (Str×List Str)):Prop where
 nm:∀r∈rs,qw r.1=true
 nd:(rs.map (·.1)).Nodup
 to:∀r∈rs,∀z∈r.2,z∈rs.map (·.1)
 rd:∀r∈rs,r.2.Nodup
 few:(rs.map λr=>r.2.length).sum<=40
def Xb (zs:List Str) (j:Nat):Str:=zs.getD j ⟨#[]⟩
theorem WO {zs:List Str} {j:Nat} (h:j < zs.length):Xb zs j∈zs:=by
 unfold Xb
 rw[List.getD_eq_getElem?_getD,List.getElem?_eq_getElem h]
 exact List.getElem_mem h
theorem YC {zs:List Str} {j:Nat} (h:j < zs.length):zs[j]?=some (Xb zs j):=by
 unfold Xb
 rw[List.getD_eq_getElem?_getD,List.getElem?_eq_getElem h]
 rfl
theorem WP {zs:List Str} (hn:zs.Nodup) {i j:Nat} (hi:i < zs.length) (hj:j < zs.length) (h:Xb zs i=Xb zs j):i=j:=by
 have h1:=YC hi
 have h2:=YC hj
 rw[h,<-h2,List.getElem?_eq_getElem hi,List.getElem?_eq_getElem hj]at h1
 have e:zs[i]=zs[j]:=Option.some.inj h1
 rcases Nat.lt_trichotomy i j with l | l | l
 . exact absurd e (List.pairwise_iff_getElem.mp hn i j hi hj l)
 . exact l
 . exact absurd e.symm (List.pairwise_iff_getElem.mp hn j i hj hi l)
theorem ZG {α β:Type} {f:α->β}:∀{l:List α},l.Nodup->(∀a∈l,∀b∈l,f a=f b->a=b)->(l.map f).Nodup
 | [],_,_=>List.nodup_nil
 | a::l,h,k=>by
   rw[List.map_cons,List.nodup_cons]
   rw[List.nodup_cons]at h
   refine⟨λz=>?_,ZG h.2 λx hx y hy=>k x (List.mem_cons_of_mem _ hx) y (List.mem_cons_of_mem _ hy)⟩
   obtain⟨b,hb,e⟩:=List.mem_map.mp z
   have:=k b (List.mem_cons_of_mem _ hb) a (List.mem_cons_self) e
   subst this
   exact h.1 hb
def Yd (ks:List (Nat×Nat)) (k:Nat):List Nat:=(ks.filter λx=>decide (x.1=k)).map (·.2)
theorem VQ {ks:List (Nat×Nat)} (h:ks.Pairwise xo) (k:Nat):(Yd ks k).Nodup:=by
 have h1:(ks.filter λx=>decide (x.1=k)).Pairwise xo:=h.sublist (List.filter_sublist)
 refine List.pairwise_map.mpr (List.Pairwise.imp_of_mem (λ{a b} ha hb r=>?_) h1)
 have e1:a.1=k:=of_decide_eq_true (List.mem_filter.mp ha).2
 have e2:b.1=k:=of_decide_eq_true (List.mem_filter.mp hb).2
 unfold xo at r
 omega
theorem X5 {ks:List (Nat×Nat)} {m:Nat} (h:∀x∈ks,x.1 < m/\x.2 < m) (k:Nat):∀j∈Yd ks k,j < m:=λj hj=>by
 obtain⟨x,hx,e⟩:=List.mem_map.mp hj
 have:=(h x (List.mem_filter.mp hx).1).2
 omega
theorem kZ (os:List Nat) (f g:Nat->Nat):(os.map λk=>f k+g k).sum=(os.map f).sum+(os.map g).sum:=by
 induction os with
 | nil=>rfl
 | cons a os ih=>
   simp only[List.map_cons,List.sum_cons,ih]
   omega
theorem kY {os:List Nat} (h:os.Nodup) (a:Nat):(os.map λk=>if a=k then 1 else 0).sum<=1:=by
 induction os with
 | nil=>exact Nat.zero_le _
 | cons b os ih=>
   rw[List.nodup_cons]at h
   rw[List.map_cons,List.sum_cons]
   by_cases e:a=b
   . subst e
     have z:(os.map λk=>if a=k then 1 else 0)=os.map λ_=>0:=List.map_congr_left λk hk=>by
       rw[if_neg]
       intro e
       subst e
       exact h.1 hk
     rw[z,if_pos rfl]
     have:(os.map λ_=>0).sum=0:=by
       clear z ih h
       induction os with
       | nil=>rfl
       | cons c os ih=>rw[List.map_cons,List.sum_cons,ih]
     omega
   . rw[if_neg e]
     have:=ih h.2
     omega
theorem WS {os:List Nat} (h:os.Nodup):∀ks:List (Nat×Nat),(os.map λk=>(Yd ks k).length).sum<=ks.length
 | []=>by
   have:(os.map λk=>(Yd [] k).length).sum=0:=by
     clear h
     induction os with
     | nil=>rfl
     | cons c os ih=>rw[List.map_cons,List.sum_cons,ih];rfl
   omega
 | x::ks=>by
   have e:(os.map λk=>(Yd (x::ks) k).length)=os.map λk=>(if x.1=k then 1 else 0)+(Yd ks k).length:=List.map_congr_left λk _=>by
     unfold Yd
     rw[List.filter_cons]
     by_cases z:x.1=k
     . rw[if_pos (decide_eq_true z),if_pos z]
       simp only[List.map_cons,List.length_cons]
       omega
     . rw[if_neg (by simpa using z),if_neg z,Nat.zero_add]
   rw[e,kZ,List.length_cons]
   have:=kY h x.1
   have:=WS h ks
   omega
def QD (zs:List Str) (ks:List (Nat×Nat)) (ab:Bool) (k:Nat):Str×List Str:=
 (Xb zs k,if ab=true then ((Yd ks k).map (Xb zs)).reverse else (Yd ks k).map (Xb zs))
theorem V4 {zs:List Str} {ks:List (Nat×Nat)} {ab:Bool} {k:Nat} {z:Str}:z∈(QD zs ks ab k).2↔z∈(Yd ks k).map (Xb zs):=by
 unfold QD
 cases ab
 . rw[if_neg Bool.false_ne_true]
 . rw[if_pos rfl,List.mem_reverse]
theorem V5 {zs:List Str} {ks:List (Nat×Nat)} {ab:Bool} {k:Nat}:(QD zs ks ab k).2.length=(Yd ks k).length:=by
 unfold QD
 cases ab
 . rw[if_neg Bool.false_ne_true,List.length_map]
 . rw[if_pos rfl,List.length_reverse,List.length_map]
structure XW (m:Nat) (os:List Nat):Prop where
 len:os.length=m
 nd:os.Nodup
 lt:∀k∈os,k < m
 all:∀j,j < m->j∈os
theorem Uz {zs:List Str} {ks:List (Nat×Nat)} {os:List Nat} {m:Nat} (ab:Bool) (hz:zs.length=m) (hN:∀z∈zs,qw z=true) (hd:zs.Nodup) (hk:ks.Pairwise xo) (hl:∀x∈ks,x.1 < m/\x.2 < m) (h40:ks.length<=40) (ho:XW m os):
   jM (os.map (QD zs ks ab)):=by
 have e1:(os.map (QD zs ks ab)).map (·.1)=os.map (Xb zs):=by rw[List.map_map];rfl
 have inj:∀a∈os,∀b∈os,Xb zs a=Xb zs b->a=b:=λa ha b hb e=>WP hd (by rw[hz];exact ho.lt a ha) (by rw[hz];exact ho.lt b hb) e
 refine⟨λr hr=>?_,?_,λr hr z hz'=>?_,λr hr=>?_,?_⟩
 . obtain⟨k,hk',rfl⟩:=List.mem_map.mp hr
   exact hN _ (WO (by rw[hz];exact ho.lt k hk'))
 . rw[e1]
   exact ZG ho.nd inj
 . obtain⟨k,hk',rfl⟩:=List.mem_map.mp hr
   rw[V4]at hz'
   obtain⟨j,hj,rfl⟩:=List.mem_map.mp hz'
   rw[e1]
   exact List.mem_map.mpr ⟨j,ho.all j (X5 hl k j hj),rfl⟩
 . obtain⟨k,hk',rfl⟩:=List.mem_map.mp hr
   have h1:((Yd ks k).map (Xb zs)).Nodup:=ZG (VQ hk k) λa ha b hb e=>WP hd (by rw[hz];exact X5 hl k a ha) (by rw[hz];exact X5 hl k b hb) e
   show (if ab=true then _ else _:List Str).Nodup
   cases ab
   . rw[if_neg Bool.false_ne_true]
     exact h1
   . rw[if_pos rfl]
     exact List.pairwise_reverse.mpr (h1.imp λh=>Ne.symm h)
 . have e2:((os.map (QD zs ks ab)).map λr=>r.2.length)=os.map λk=>(Yd ks k).length:=by
     rw[List.map_map]
     exact List.map_congr_left λk _=>V5
   rw[e2]
   exact Nat.le_trans (WS ho.nd ks) h40
theorem vC (m:Nat):XW m (List.range m):=⟨List.length_range,List.nodup_range,λk h=>List.mem_range.mp h,λj h=>List.mem_range.mpr h⟩
theorem Wk (m:Nat):XW m (Zr m):=⟨by rw[Zr,List.length_reverse,List.length_range],List.pairwise_reverse.mpr (List.nodup_range.imp λh=>Ne.symm h),λk h=>List.mem_range.mp (List.mem_reverse.mp h),λj h=>List.mem_reverse.mpr (List.mem_range.mpr h)⟩
def ZX (m:Nat):List Nat:=(List.range m).map λk=>k*5 % m
theorem UD:∀m,m < 15->(ZX m).Nodup->∀j,j < m->j∈ZX m:=by decide+kernel
theorem Xy {m:Nat} (hm:m<=14) (h0:0 < m) (h:(ZX m).Nodup):XW m (ZX m):=
 ⟨by rw[ZX,List.length_map,List.length_range],h,λk hk=>by obtain⟨x,_,rfl⟩:=List.mem_map.mp hk;exact Nat.mod_lt _ h0,UD m (by omega) h⟩
theorem Yk (val:Nat->Int):∀i,(firstMet val i).length=i->((List.range i).map val).Nodup
 | 0,_=>List.nodup_nil
 | i+1,h=>by
   have h1:=firstMet_any val i (val i)
   have h2:=firstMet_length_le val i
   rw[firstMet_succ]at h
   unfold step_dedup at h
   split at h
   . omega
   . rename_i z
     rw[List.length_append,List.length_singleton]at h
     rw[List.range_succ,List.map_append,List.nodup_append]
     refine⟨Yk val i (by omega),by simp,λa ha b hb e=>?_⟩
     have eb:b=val i:=by simpa using hb
     subst eb
     subst e
     refine z ?_
     rw[h1,List.any_eq_true]
     exact⟨_,ha,by simp⟩
theorem wm {os:List Nat} (h:¬(firstMet (λi=>(os.map λk=>((k:Nat):Int)).getD i 0) (os.map λk=>((k:Nat):Int)).length).length < os.length):os.Nodup:=by
 have h1:=firstMet_length_le (λi=>(os.map λk=>((k:Nat):Int)).getD i 0) (os.map λk=>((k:Nat):Int)).length
 have h2:=Yk (λi=>(os.map λk=>((k:Nat):Int)).getD i 0) (os.map λk=>((k:Nat):Int)).length (by rw[List.length_map]at h1 h ⊢;omega)
 have e:(List.range (os.map λk=>((k:Nat):Int)).length).map (λi=>(os.map λk=>((k:Nat):Int)).getD i 0)=os.map λk=>((k:Nat):Int):=by
   refine List.ext_getElem? λi=>?_
   rw[List.getElem?_map]
   by_cases hi:i < (os.map λk=>((k:Nat):Int)).length
   . rw[List.getElem?_range hi,List.getElem?_eq_getElem hi]
     simp only[Option.map_some,List.getD_eq_getElem?_getD,List.getElem?_eq_getElem hi,Option.getD_some]
   . rw[List.getElem?_eq_none (by rw[List.length_range];omega),List.getElem?_eq_none (by omega)]
     rfl
 rw[e]at h2
 refine(List.pairwise_map.mp h2).imp λh e=>h (by rw[e])
end Rh
set_option Elab.async false
set_option linter.all false
set_option maxRecDepth 100000
set_option maxHeartbeats 4000000
namespace Rh
open PySem L2 PyProof.Rows
def qH (H:Hp) (ps:List Addr) (rs:List (Str×List Str)):Prop:=ps.length=rs.length/\∀(i:Nat) (p:Addr) (r:Str×List Str),ps[i]?=some p->rs[i]?=some r->∃q,H p=some (.tup [.str r.1,.ref q])/\H q=some (.tup (r.2.map V.str))
def U3:Sp:=λvs H Q _=>∃(d:Addr) (mo:Nat) (n s t:Int),vs=[.ref d,.int mo]/\H d=some (.dK (qN n s t))/\0 < mo/\mo<=14/\
 ∀(l:Addr) (ps:List Addr) (rs:List (Str×List Str)) (n' t':Int) (H':Hp),H l=none->H' l=some (.lst (ps.map V.ref))->qH H' ps rs->jM rs->0 < rs.length->rs.length<=mo->Zf (rs.map (·.1))->H' d=some (.dK (qN n' s t'))->Fr H d H'->Q (.ref l) H'
structure QA (mg:Str->Option Value):Prop where
 srt:mg "sorted"=none
 lst:mg "list"=none
 rev:mg "reversed"=none
 set:mg "set"=none
 tup:mg "tuple"=none
theorem qH.mono {H H':Hp} {ps:List Addr} {rs:List (Str×List Str)} (h:qH H ps rs) (s:Same H H'):qH H' ps rs:=⟨h.1,λi p r e1 e2=>let ⟨q,a,b⟩:=h.2 i p r e1 e2;⟨q,s _ _ a,s _ _ b⟩⟩
theorem Qf.mono {H H':Hp} {ps:List Addr} {ks:List (Nat×Nat)} (h:Qf H ps ks) (s:Same H H'):Qf H' ps ks:=⟨h.1,λi p k e1 e2=>s _ _ (h.2 i p k e1 e2)⟩
theorem Fr.same {H H' H'':Hp} {d:Addr} (h:Fr H d H') (s:Same H' H''):Fr H d H'':=λb u hb hn=>s _ _ (h b u hb hn)
theorem qH.snoc {H:Hp} {ps:List Addr} {rs:List (Str×List Str)} (h:qH H ps rs) {p q:Addr} {r:Str×List Str} (hp:H p=some (.tup [.str r.1,.ref q])) (hq:H q=some (.tup (r.2.map V.str))):qH H (ps++[p]) (rs++[r]):=by
 refine⟨by rw[List.length_append,List.length_append,h.1];rfl,λi p' r' e1 e2=>?_⟩
 by_cases hi:i < ps.length
 . rw[List.getElem?_append_left hi]at e1
   rw[List.getElem?_append_left (by rw[<-h.1];exact hi)]at e2
   exact h.2 i p' r' e1 e2
 . have hi':i=ps.length:=by
     have:=(List.getElem?_eq_some_iff.mp e1).1
     rw[List.length_append,List.length_singleton]at this
     omega
   subst hi'
   rw[List.getElem?_append_right (Nat.le_refl _),Nat.sub_self]at e1
   rw[h.1,List.getElem?_append_right (Nat.le_refl _),Nat.sub_self]at e2
   obtain rfl:=(Option.some.inj e1).symm
   obtain rfl:=(Option.some.inj e2).symm
   exact⟨q,hp,hq⟩
theorem qH.upd_lst {H:Hp} {ps:List Addr} {rs:List (Str×List Str)} {l:Addr} {xs:List V} {o:HO} (h:qH H ps rs) (hl:H l=some (.lst xs)):qH (upd H l o) ps rs:=by
 refine⟨h.1,λi p r e1 e2=>?_⟩
 obtain⟨q,a,b⟩:=h.2 i p r e1 e2
 refine⟨q,?_,?_⟩
 . rw[qi (λe=>by rw[e,hl]at a;cases a)]
   exact a
 . rw[qi (λe=>by rw[e,hl]at b;cases b)]
   exact b
theorem Ww {tc:TT} {tp u:TS} {D:QX} {σ:L2.St} {H0:Hp} (R:Bool->Hp->Prop) (G:L2.St->Hp->Prop) (ht:∀Q:Bool->Hp->Prop,(∀b H1,R b H1->Q b H1)->tc σ H0 Q)
   (hT:∀H1,R true H1->∀D':QX,(∀σ' H',G σ' H'->D'.nx σ' H')->tp D' σ H1) (hF:∀H1,R false H1->G σ H1) (k:∀σ' H',G σ' H'->u D σ' H'):VR (Xk tc tp ZP) u D σ H0:=
 ht _ λb H1 r=>by
   cases b
   . exact jL (k _ _ (hF _ r))
   . exact Jb (hT _ r _ k)
theorem yV {zs:List Str} {j:Nat} (h:j < zs.length):Xd (zs.map V.str) ((j:Nat):Int)=some (V.str (Xb zs j)):=jp (by rw[List.getElem?_map,YC h];rfl)
theorem UT {ks:List (Nat×Nat)} {j:Nat} {x:Nat×Nat} (k:Nat) (h:ks[j]?=some x):Yd (ks.take (j+1)) k=Yd (ks.take j) k++if x.1=k then [x.2] else []:=by
 unfold Yd
 rw[List.take_add_one,h,List.filter_append,List.map_append]
 congr 1
 by_cases e:x.1=k
 . rw[if_pos e]
   simp [e]
 . rw[if_neg e]
   simp [e]
abbrev oL (os:List Nat):List V:=os.map λk=>V.int ((k:Nat):Int)
theorem yx (os:List Nat):oL os=(os.map λk=>((k:Nat):Int)).map V.int:=by rw[List.map_map];rfl
section
variable {P:Program} {w:World} {K:PySem.W.Frag} {mg:Str->Option Value} {base:Heap}
abbrev uS:List Str:=["_law_source_here","_law_most","_law_many","_law_names_here","_law_shape","_law_pairs","_law_about","_law_order","_law_rows_here","_law_k","_law_leads_here"]
theorem Qj:qK uS ["_law_source_here","_law_most"] (qv W4):=⟨rfl,rfl,rfl,by decide+kernel,rfl,by decide+kernel,by decide+kernel⟩
abbrev Kj:List Str:=["_law_one","_law_j","_law_k","_law_names_here"]
theorem VD:Kj.Nodup:=by decide+kernel
theorem ym {f fT fN fL:Addr} {fd fdT fdN fdL:FuncData} (F:Ql K "_law_rows" "_law_rows" W4 f fd) (B:Zg mg) (G:QA mg) (hT:jR K mg "_law_take" Qr ["_law_source_here","_law_many"] fT fdT)
   (hN:jR K mg "_law_names" zx ["_law_source_here","_law_many"] fN fdN) (hL:jR K mg "_law_leads" zy zC fL fdL):qz P w K mg base jc 3 f fd ["_law_source_here","_law_most"] U3:=by
 have GT:qz P w K mg base jc 1 fT fdT ["_law_source_here","_law_many"] j7:=jN hT.fn
 have GN:qz P w K mg base jc 2 fN fdN ["_law_source_here","_law_many"] WX:=vG hN.fn B hT
 have GL:qz P w K mg base jc 2 fL fdL zC WY:=vH hL.fn B G.srt hT
 refine F.okJ Qj (λvs H Q E h=>?_) (λcdv A outer s H vs Q E hr h=>?_)
 . obtain⟨d,m,n,sd,t,rfl,_⟩:=h
   rfl
 . obtain⟨d,mo,n,sd,t,rfl,hd,hmo,hm14,q⟩:=h
   have r1:q5 1 _:=hr.mono (by decide)
   refine⟨_,qh (qB (i:=2) Qj.nd rfl (Or.inr rfl) (qG jx qj (qS hT GT r1 (by rfl) (qb (jv 0) (qb (jv 1) qf)))))
     (qh (qB (i:=3) Qj.nd rfl (Or.inr rfl) (qS hN GN hr (by rfl) (qb (jv 0) (qb (jv 2) qf))))
     (qh (qB (i:=4) Qj.nd rfl (Or.inl rfl) (qS hT GT r1 (by rfl) (qb (jv 0) (qb qj qf))))
     (qh (qB (i:=5) Qj.nd rfl (Or.inl rfl) (qS hL GL hr (by rfl) (qb (jv 0) (qb (jv 2) (qb (jv 4) (qb (qG jx qj (qS hT GT r1 (by rfl) (qb (jv 0) (qb qj qf)))) qf))))))
     (qh (qB (i:=6) Qj.nd rfl (Or.inl rfl) (Zo jU (qS hT GT r1 (by rfl) (qb (jv 0) (qb qj qf))) qj (qC _)))
     (qh (qB (i:=7) Qj.nd rfl (Or.inl rfl) (u0 rfl (by rfl) G.lst (by rfl) B.rng (jv 2)))
     (qh (qR (QK (jv 6)) (qk (Qt (i:=7) (N':=["_law_k","_law_many"]) (ix:=[none,some 2]) Qj.nd rfl (Or.inl rfl) rfl ⟨rfl,rfl,rfl,rfl,rfl⟩ (jG (by rfl) B.rng (qb (jv 2) qf))
         (λC s2 H2 fp pins=>⟨qr (i:=0) (show (["_law_k","_law_many"]:List Str).Nodup by decide+kernel) rfl (Or.inl rfl),jr,qG jP (qG QH (jv 0) qj) (jv 1)⟩))) qD)
     (qh (qR (qu jY (ql XQ (by rfl) B.len boot_len (qb (ji (UH rfl) (by rfl) G.set boot_set (qb (jv 7) qf)) qf)) (jv 2) (qC _))
         (qk (qB (i:=7) Qj.nd rfl (Or.inl rfl) (wv rfl (by rfl) G.lst (by rfl) G.rev (by rfl) B.rng (jv 2)))) qD)
     (qh (qB (i:=8) Qj.nd rfl (Or.inl rfl) (qA qf))
     (qh (jQ PassesOwn.never rfl (jf (jv 7)) (qr (i:=9) Qj.nd rfl (Or.inr rfl))
       (qh (Qt (i:=10) (N':=Kj) (ix:=[none,none,some 9,some 3]) (g:=ko K 2 (Zp (jH 0) (Zp (jH 1) kq))) (te:=YD (uw K) (qZ 3) (qZ 1)) Qj.nd rfl (Or.inl rfl) rfl ⟨rfl,rfl,rfl,rfl,rfl⟩ (jf (jv 5))
           (λC s2 H2 fp pins=>⟨Q9 rfl (qF (qr (i:=0) VD rfl (Or.inl rfl)) (qF (qr (i:=1) VD rfl (Or.inl rfl)) js)),
             Zn (qu jU (jv 0) (jv 2) (qC _)),qP qO (jv 3) (jv 1) (λ_ _=>rfl)⟩))
       (qh (qR (QK (jv 6)) (qk (jF (ww PySem.F.plainAttrs_list PySem.F.slot_list_reverse PySem.F.type_list_reverse Wm (jv 10)))) qD)
       (qk (jF (ka PySem.F.plainAttrs_list PySem.F.slot_list_append PySem.F.type_list_append JD (jv 8) (qb
         (qM (qb (qP qO (jv 3) (jv 9) (λ_ _=>rfl)) (qb (ji QN (by rfl) G.tup boot_tuple (qb (jv 10) qf)) qf))) qf)))))))
     (qk (qL (jv 8)))))))))))),?_⟩
   refine⟨_,rfl,_,rfl,d,mo,n,sd,t,rfl,hd,by omega,by omega,λr n1 t1 r0 r1=>⟨_,_,rfl,rfl,?_⟩⟩
   obtain⟨m,em,m0,m1⟩:∃m:Nat,1+r=(m:Int)/\0 < m/\m<=mo:=⟨(1+r).toNat,by omega,by omega,by omega⟩
   have em':(λi j:Int=>V.int (i+j)) 1 r=V.int (m:Int):=congrArg V.int em
   rw[em']
   refine⟨_,rfl,_,rfl,d,m,n1,sd,t1,rfl,qd,by omega,λlz zs n2 t2 H2 hlz hlz' zl zn znd z4 hd2 fr2=>?_⟩
   have fr2:Fr H d H2:=Fr.refl.at_d.trans fr2
   refine⟨_,rfl,d,5,n2,sd,t2,rfl,hd2,by decide,by decide,λsh n3 t3 _ _=>?_⟩
   refine⟨_,rfl,_,rfl,_,rfl,_,rfl,d,5,n3,sd,t3,rfl,qd,by decide,by decide,λlw n4 t4 _ _=>⟨_,_,rfl,rfl,d,m,n4,sd,t4,sh,1+lw,rfl,qd,by omega,λlp ps ks n5 t5 H5 hlp hlp' pat kord klt k40 hd5 fr5=>?_⟩⟩
   have nzd:lz≠d:=λe=>by rw[e,qd]at hlz;cases hlz
   have hz5:H5 lz=some (.lst (zs.map V.str)):=fr5 _ _ (by rw[qi nzd,qi nzd];exact hlz') nzd
   have fr5:Fr H d H5:=fr2.at_d.at_d.trans fr5
   refine⟨_,rfl,d,2,n5,sd,t5,rfl,hd5,by decide,by decide,λab n6 t6 _ _=>⟨rfl,?_⟩⟩
   generalize decide (V.int ab=V.int 1)=b
   have npd:lp≠d:=λe=>by rw[e,qd]at hlp;cases hlp
   have fr6:Fr H d (upd H5 d (.dK (qN n6 sd t6))):=fr5.at_d
   have hd6:upd H5 d (.dK (qN n6 sd t6)) d=some (.dK (qN n6 sd t6)):=qd
   have hz6:upd H5 d (.dK (qN n6 sd t6)) lz=some (.lst (zs.map V.str)):=by rw[qi nzd];exact hz5
   have hp6:upd H5 d (.dK (qN n6 sd t6)) lp=some (.lst (ps.map V.ref)):=by rw[qi npd];exact hlp'
   have pat6:Qf (upd H5 d (.dK (qN n6 sd t6))) ps ks:=⟨pat.1,λi p k e1 e2=>by
     have h1:=pat.2 i p k e1 e2
     have:p≠d:=λe=>by rw[e,hd5]at h1;cases h1
     rw[qi this]
     exact h1⟩
   generalize upd H5 d (.dK (qN n6 sd t6))=H6 at fr6 hd6 hz6 hp6 pat6
   refine⟨_,rfl,m,rfl,by omega,λlo hlo=>?_⟩
   refine zP ?_
   dsimp only[List.set]
   refine Ww (λc H'=>c=b/\H'=upd H6 lo (.lst (yW m))) (λσ' H'=>∃lo os,σ'=[some (.ref d),some (.int mo),some (.int m),some (.ref lz),some (.int sh),some (.ref lp),some (.bl b),some (.ref lo),none,none,none]/\Same H6 H'/\H6 lo=none/\H' lo=some (.lst (oL os))/\(os=List.range m\/os=ZX m))
     (λQ k=>⟨_,rfl,b,rfl,k _ _ ⟨rfl,rfl⟩⟩) ?_ ?_ ?_
   . rintro H1 ⟨rfl,rfl⟩ D' k
     refine⟨_,rfl,m,rfl,by omega,by omega,λD hD=>?_⟩
     refine QV (λi σ' H'=>∃v:Option V,σ'=[v,some (.int m)]/\H'=upd (upd H6 lo (.lst (yW m))) D (.lst (oL ((List.range i).map λk=>k*5 % m)))) ⟨none,rfl,rfl⟩ ?_ ?_
     . rintro i σ' H' hi ⟨v,rfl,rfl⟩
       rw[Int.zero_add]
       have hi:i < m:=by simpa using hi
       refine⟨_,rfl,_,_,rfl,rfl,.inl ⟨by omega,by omega⟩,_,rfl,_,_,rfl,rfl,(by show (0:Int) < m;omega),_,qd,?_,_,rfl,?_⟩
       . rw[List.length_map,List.length_map,List.length_range]
         exact qp (by omega)
       . rw[qY,List.range_succ,List.map_append,oL,oL,List.map_append]
         rfl
     . rintro σ' H' ⟨v,rfl,rfl⟩
       have hD6:H6 D=none:=by
         by_cases e:D=lo
         . rw[e];exact hlo
         . rw[qi e]at hD;exact hD
       exact k _ _ ⟨D,ZX m,rfl,λa u h=>qm (qm h hlo) hD,hD6,qd,.inr rfl⟩
   . rintro H1 ⟨rfl,rfl⟩
     exact⟨lo,List.range m,rfl,qg hlo,hlo,qd,.inl rfl⟩
   rintro σ' H7 ⟨lo,os,rfl,s7,hlo6,hlo7,hos⟩
   have los:os.length=m:=by
     rcases hos with rfl | rfl
     . exact List.length_range
     . rw[ZX,List.length_map,List.length_range]
   refine Ww (λc H'=>Same H7 H'/\(c=true\/os.Nodup)) (λσ' H'=>∃lo os,σ'=[some (.ref d),some (.int mo),some (.int m),some (.ref lz),some (.int sh),some (.ref lp),some (.bl b),some (.ref lo),none,none,none]/\Same H6 H'/\H' lo=some (.lst (oL os))/\XW m os)
     ?_ ?_ ?_ ?_
   . intro Q k
     refine⟨_,rfl,lo,os.map (λk=>((k:Nat):Int)),rfl,.of (by rw[<-yx];exact hlo7),by rw[List.length_map,los];omega,λl S hl=>?_⟩
     refine⟨l,S,_,rfl,qd,_,rfl,_,_,rfl,rfl,_,rfl,k _ _ ⟨qg hl,?_⟩⟩
     by_cases h:(((firstMet (λi=>(os.map λk=>((k:Nat):Int)).getD i 0) (os.map λk=>((k:Nat):Int)).length).length:Nat):Int) < (m:Int)
     . exact .inl (decide_eq_true h)
     . exact .inr (wm (by rw[los];omega))
   . rintro H1 ⟨s1,_⟩ D' k
     refine⟨_,rfl,m,rfl,by omega,λl hl=>?_⟩
     exact k _ _ ⟨l,Zr m,rfl,λa u h=>qm (s1 _ _ (s7 _ _ h)) hl,qd,Wk m⟩
   . rintro H1 ⟨s1,h⟩
     have h:os.Nodup:=h.resolve_left (by decide)
     refine⟨lo,os,rfl,λa u h=>s1 _ _ (s7 _ _ h),s1 _ _ hlo7,?_⟩
     rcases hos with rfl | rfl
     . exact vC m
     . exact Xy (by omega) m0 h
   rintro σ' H8 ⟨lo,os,rfl,s8,hlo8,ho⟩
   refine⟨by show 0<=sizeLine;decide,λlr hlr=>⟨_,rfl,lo,rfl,⟨_,.of (qm hlo8 hlr)⟩,?_⟩⟩
   refine j3 (K:=K) (a:=lo) (xs:=oL os) (λi σ' H'=>∃(v9 v10:Option V) (qs:List Addr),σ'=[some (.ref d),some (.int mo),some (.int m),some (.ref lz),some (.int sh),some (.ref lp),some (.bl b),some (.ref lo),some (.ref lr),v9,v10]/\
     Same H8 H'/\H' lr=some (.lst (qs.map V.ref))/\qH H' qs ((os.take i).map (QD zs ks b)))
     ⟨none,none,[],rfl,qg hlr,qd,rfl,λi p r e=>(nomatch e)⟩ (λi σ' H' _ ⟨_,_,_,_,s,_⟩=>.of (s _ _ hlo8)) ?_ ?_
   . rintro i x σ' H' hx ⟨v9,v10,qs,rfl,s9,hlr9,rat⟩
     have hix:i < os.length:=by
       have:=(List.getElem?_eq_some_iff.mp hx).1
       rwa [List.length_map]at this
     obtain⟨k,hk⟩:∃k,os[i]?=some k:=⟨_,List.getElem?_eq_getElem hix⟩
     have ex:x=V.int ((k:Nat):Int):=by
       rw[List.getElem?_map,hk]at hx
       exact(Option.some.inj hx).symm
     subst ex
     have hkm:k < m:=ho.lt k (List.mem_of_getElem? hk)
     refine⟨_,rfl,lp,rfl,⟨_,.of (s9 _ _ (s8 _ _ hp6))⟩,λD hD=>?_⟩
     have nDr:D≠lr:=λe=>by rw[e,hlr9]at hD;cases hD
     have hz9:H' lz=some (.lst (zs.map V.str)):=s9 _ _ (s8 _ _ hz6)
     have pat9:Qf H' ps ks:=pat6.mono λa u h=>s9 _ _ (s8 _ _ h)
     refine jD (K:=K) (a:=lp) (xs:=ps.map V.ref) (λj σ'' H''=>∃v0 v1:Option V,σ''=[v0,v1,some (.int k),some (.ref lz)]/\H''=upd H' D (.lst (((Yd (ks.take j) k).map (Xb zs)).map V.str))) ⟨none,none,rfl,rfl⟩
       (λj σ'' G _ ⟨_,_,_,e⟩=>e▸.of (qm (s9 _ _ (s8 _ _ hp6)) hD)) ?_ ?_
     . rintro j y σ'' G hy ⟨v0,v1,rfl,rfl⟩
       have hj:j < ps.length:=by
         have:=(List.getElem?_eq_some_iff.mp hy).1
         rwa [List.length_map]at this
       obtain⟨p,hp⟩:∃p,ps[j]?=some p:=⟨_,List.getElem?_eq_getElem hj⟩
       obtain⟨kk,hkk⟩:∃p,ks[j]?=some p:=⟨_,List.getElem?_eq_getElem (by rw[<-pat9.1];exact hj)⟩
       have ey:y=V.ref p:=by
         rw[List.getElem?_map,hp]at hy
         exact(Option.some.inj hy).symm
       subst ey
       have hpt:=pat9.2 j p kk hp hkk
       have hk2:kk.2 < zs.length:=by rw[zl];exact(klt kk (List.mem_of_getElem? hkk)).2
       refine⟨p,_,rfl,.of (qm hpt hD),rfl,_,_,rfl,_,_,rfl,rfl,_,rfl,_,rfl,rfl,_,rfl,?_⟩
       rw[UT k hkk]
       by_cases e:kk.1=k
       . have e1:decide (V.int ((kk.1:Nat):Int)=V.int ((k:Nat):Int))=true:=decide_eq_true (by rw[e])
         rw[e1,if_pos e]
         refine Jb ⟨_,rfl,_,rfl,lz,_,_,_,rfl,rfl,.of (qm hz9 hD),yV hk2,_,qd,?_,_,_,rfl,?_⟩
         . rw[List.length_map,List.length_map]
           refine qp ?_
           have h1:(Yd (ks.take j) k).length<=(ks.take j).length:=by
             unfold Yd
             rw[List.length_map]
             exact List.length_filter_le _ _
           rw[List.length_take]at h1
           omega
         . rw[qY,List.map_append,List.map_append]
           rfl
       . have e1:decide (V.int ((kk.1:Nat):Int)=V.int ((k:Nat):Int))=false:=decide_eq_false (by
           intro z
           have:=V.int.inj z
           omega)
         rw[e1,if_neg e,List.append_nil]
         exact jL ⟨_,_,rfl,rfl⟩
     . rintro σ'' G ⟨v0,v1,rfl,rfl⟩
       rw[List.length_map,pat9.1,List.take_of_length_le (Nat.le_refl _)]
       refine zP ?_
       dsimp only[List.set]
       refine Ww (λc G=>c=b/\G=upd H' D (.lst (((Yd ks k).map (Xb zs)).map V.str)))
         (λσ' G=>σ'=[some (.ref d),some (.int mo),some (.int m),some (.ref lz),some (.int sh),some (.ref lp),some (.bl b),some (.ref lo),some (.ref lr),some (.int k),some (.ref D)]/\G=upd H' D (.lst ((QD zs ks b k).2.map V.str)))
         (λQ k=>⟨_,rfl,b,rfl,k _ _ ⟨rfl,rfl⟩⟩) ?_ ?_ ?_
       . rintro H1 ⟨rfl,rfl⟩ D' kk
         refine⟨_,rfl,.inl ⟨rfl,_,.of qd⟩,D,_,rfl,rfl,qd,?_⟩
         refine kk _ _ ⟨rfl,?_⟩
         rw[qY,QD,if_pos rfl,List.map_reverse]
       . rintro H1 ⟨rfl,rfl⟩
         exact⟨rfl,rfl⟩
       rintro σ' G ⟨rfl,rfl⟩
       have hlrG:upd H' D (.lst ((QD zs ks b k).2.map V.str)) lr=some (.lst (qs.map V.ref)):=by rw[qi (Ne.symm nDr)];exact hlr9
       have sG:Same H' (upd H' D (.lst ((QD zs ks b k).2.map V.str))):=qg hD
       refine⟨_,rfl,.inl ⟨rfl,_,.of hlrG⟩,_,rfl,_,rfl,lz,_,_,_,rfl,rfl,.of (sG _ _ hz9),yV (by rw[zl];exact hkm),_,rfl,D,_,rfl,.inl ⟨.of qd,λlq hq=>⟨by show 2<=sizeLine;decide,λlt hlt=>?_⟩⟩⟩
       have hqlr:=qm (o':=HO.tup ((QD zs ks b k).2.map V.str)) hlrG hq
       have htlr:=qm (o':=HO.tup [V.str (Xb zs k),V.ref lq]) hqlr hlt
       refine⟨lr,_,_,rfl,rfl,htlr,?_,_,_,qs++[lt],rfl,?_,?_,?_⟩
       . rw[List.length_map,rat.1,List.length_map,List.length_take]
         refine qp ?_
         have:=ho.len
         omega
       . exact Same.upd (λa u h=>qm (qm (sG _ _ (s9 _ _ h)) hq) hlt) hlr
       . rw[List.map_append]
         exact qd
       . have e:os.take (i+1)=os.take i++[k]:=by rw[List.take_add_one,hk];rfl
         rw[e,List.map_append]
         refine qH.upd_lst ?_ htlr
         exact qH.snoc (q:=lq) (rat.mono λa u h=>qm (qm (sG _ _ h) hq) hlt) qd (qm qd hlt)
   . rintro σ' H' ⟨v9,v10,qs,rfl,s9,hlr9,rat⟩
     have e:(oL os).length=os.length:=List.length_map ..
     rw[e,List.take_of_length_le (Nat.le_refl _)]at rat
     have h8:H6 lr=none:=by
       cases z:H6 lr with
       | none=>rfl
       | some u=>rw[s8 _ _ z]at hlr;cases hlr
     refine⟨_,rfl,q lr qs _ n6 t6 H' (fr6.fresh hd6 h8) hlr9 rat (Uz b zl zn znd kord klt k40 ho) ?_ ?_ ?_ (s9 _ _ (s8 _ _ hd6)) (fr6.same λa u h=>s9 _ _ (s8 _ _ h))⟩
     . rw[List.length_map,ho.len];exact m0
     . rw[List.length_map,ho.len];exact m1
     . have su:∀z∈(os.map (QD zs ks b)).map (·.1),z∈zs:=λz hz=>by
         rw[List.map_map]at hz
         obtain⟨k,hk,rfl⟩:=List.mem_map.mp hz
         exact WO (by rw[zl];exact ho.lt k hk)
       exact λ⟨h1,h2,h3⟩=>z4 ⟨su _ h1,su _ h2,su _ h3⟩
end
end Rh
set_option Elab.async false
set_option linter.all false
set_option maxRecDepth 100000
set_option maxHeartbeats 4000000
namespace Rh
open PySem L2 PyProof.Rows
abbrev Zk:Stmt:=top 14
abbrev Za:Stmt:=top 15
abbrev Xs:Stmt:=top 16
abbrev vh:Stmt:=top 17
abbrev Xt:Stmt:=top 18
abbrev vi:Stmt:=top 19
abbrev ZS:Stmt:=top 20
theorem Vj (x:Str):[x].Nodup:=by simp
structure Jx (K:PySem.W.Frag) (mg:Str->Option Value):Prop where
 isi:mg "isinstance"=none
 str:mg "str"=none
 all:mg "all"=none
 enu:mg "enumerate"=none
 sum:mg "sum"=none
 lets:∃t,mg "LETTERS"=some (.str WH t)
 lgst:∃t,mg "LONGEST_NAME"=some (.int 8 t)
 mp:∃t,mg "MOST_PLACES"=some (.int 14 t)
 mr:∃t,mg "MOST_ROADS"=some (.int 40 t)
 kss:PySem.W.kitOne K (.type "str") (.type "str")=some true
 ktt:PySem.W.kitOne K (.type "tuple") (.type "tuple")=some true
 kll:PySem.W.kitOne K (.type "list") (.type "list")=some true
theorem ki (c:Nat):(!(Builtin.Str.occurrences WH ⟨#[c]⟩ 0 WH.length 1).isEmpty)=jq c:=by
 rw[StrLaws.found_one,kC]
 unfold jq
 rw[Bool.eq_iff_iff]
 simp only[decide_eq_true_eq,Bool.and_eq_true,List.mem_map,List.mem_range]
 constructor
 . rintro⟨k,hk,rfl⟩
   omega
 . intro h
   exact⟨c - 97,by omega,by omega⟩
theorem XT (f:Nat->Bool) (l:List Nat) (i c:Nat) (h:l[i]?=some c):(l.take i).map f++[f c]=(l.take (i+1)).map f:=by
 rw[List.take_add_one,h]
 simp
def xG:Sp:=λvs H Q _=>∃z,vs=[.str z]/\qw z=true/\∀H',Same H H'->Q (.bl true) H'
def ug:Sp:=λvs H Q _=>∃(q:Addr) (zs:List Str),vs=[.ref q]/\H q=some (.tup (zs.map V.str))/\(∀z∈zs,qw z=true)/\zs.length<=1000/\∀H',Same H H'->Q (.bl true) H'
def y9:Sp:=λvs H Q _=>∃(p q:Addr) (r:Str×List Str),vs=[.ref p]/\H p=some (.tup [.str r.1,.ref q])/\H q=some (.tup (r.2.map V.str))/\qw r.1=true/\(∀z∈r.2,qw z=true)/\r.2.length<=1000/\∀H',Same H H'->Q (.bl true) H'
structure qX (H:Hp) (l:Addr) (ps:List Addr) (rs:List (Str×List Str)):Prop where
 at_:H l=some (.lst (ps.map V.ref))
 rows:qH H ps rs
 good:jM rs
 pos:0 < rs.length
 le:rs.length<=14
theorem qX.mono {H H':Hp} {l:Addr} {ps:List Addr} {rs:List (Str×List Str)} (h:qX H l ps rs) (s:Same H H'):qX H' l ps rs:=⟨s _ _ h.at_,h.rows.mono s,h.good,h.pos,h.le⟩
theorem jM.names {rs:List (Str×List Str)} (h:jM rs):∀r∈rs,∀z∈r.2,qw z=true:=λr hr z hz=>by
 obtain⟨r',hr',rfl⟩:=List.mem_map.mp (h.to r hr z hz)
 exact h.nm r' hr'
theorem jM.len {rs:List (Str×List Str)} (h:jM rs):∀r∈rs,r.2.length<=40:=λr hr=>by
 refine Nat.le_trans ?_ h.few
 have:∀(rs:List (Str×List Str)),r∈rs->r.2.length<=(rs.map λr=>r.2.length).sum:=by
   intro rs
   induction rs with
   | nil=>intro h;cases h
   | cons a rs ih=>
     intro h
     rw[List.map_cons,List.sum_cons]
     rcases List.mem_cons.mp h with rfl | h
     . omega
     . have:=ih h
       omega
 exact this rs hr
theorem qH.item {H:Hp} {ps:List Addr} {rs:List (Str×List Str)} (h:qH H ps rs) {i:Nat} {x:V} (hx:(ps.map V.ref)[i]?=some x):∃p q r,x=.ref p/\rs[i]?=some r/\r∈rs/\H p=some (.tup [.str r.1,.ref q])/\H q=some (.tup (r.2.map V.str)):=by
 rw[List.getElem?_map]at hx
 cases e:ps[i]? with
 | none=>rw[e]at hx;cases hx
 | some p=>
   rw[e]at hx
   have hi:i < rs.length:=by
     have:=(List.getElem?_eq_some_iff.mp e).1
     rw[h.1]at this
     exact this
   obtain⟨q,a,b⟩:=h.2 i p _ e (List.getElem?_eq_getElem hi)
   exact⟨p,q,_,(Option.some.inj hx).symm,List.getElem?_eq_getElem hi,List.getElem_mem hi,a,b⟩
def Zz:Sp:=λvs H Q _=>∃(l:Addr) (ps:List Addr) (rs:List (Str×List Str)),vs=[.ref l]/\qX H l ps rs/\∀H',Same H H'->Q .non H'
def xa:Sp:=λvs H Q _=>∃(l:Addr) (zs:List Str),vs=[.ref l]/\H l=some (.lst (zs.map V.str))/\zs.Nodup/\zs.length<=1000/\∀H',Same H H'->Q .non H'
def U8:Sp:=λvs H Q _=>∃(q l:Addr) (es zs:List Str),vs=[.ref q,.ref l]/\H q=some (.tup (es.map V.str))/\H l=some (.lst (zs.map V.str))/\es.Nodup/\(∀z∈es,z∈zs)/\es.length<=900/\∀H',Same H H'->Q .non H'
theorem Zh {kvs:List (qW×V)} {k:qW} (h:¬k∈kvs.map (·.1)):jz kvs k=none:=by
 cases e:jz kvs k with
 | none=>rfl
 | some v=>exact absurd (kQ e) h
theorem QU (zs:List Str):(zs.map V.str).all Zq=true:=by
 rw[List.all_map,List.all_eq_true]
 intro z _
 rfl
theorem JK {z:Str} {zs:List Str} (h:z∈zs):YS (.str z) (zs.map V.str)=true:=by
 unfold YS
 rw[List.any_eq_true]
 exact⟨.str z,List.mem_map.mpr ⟨z,h,rfl⟩,by show (z==z)=true;simp⟩
section
variable {P:Program} {w:World} {K:PySem.W.Frag} {mg:Str->Option Value} {base:Heap}
theorem vf:qK ["thing"] ["thing"] (qv Jl):=⟨rfl,rfl,rfl,by decide+kernel,rfl,by decide+kernel,by decide+kernel⟩
theorem Vd {f:Addr} {fd:FuncData} (F:Ql K "is_name" "is_name" Jl f fd) (B:Zg mg) (T:Jx K mg):qz P w K mg base jc 1 f fd ["thing"] xG:=by
 refine F.okJ vf (λvs H Q E h=>?_) (λcdv A outer s H vs Q E hr h=>?_)
 . obtain⟨x,rfl,_⟩:=h
   rfl
 . obtain⟨z,rfl,hz,q⟩:=h
   obtain⟨tl,hlets⟩:=T.lets
   obtain⟨tg,hlg⟩:=T.lgst
   refine⟨_,qh (qR (Js (QK (ql jt (by rfl) T.isi boot_isinstance (qb (jv 0) (qb (Qn (v:=.ty "str") (by rfl) T.str boot_str rfl) qf))))) (qk (qL je)) qD)
     (qh (qR (Jr (qu jY (ql j6 (by rfl) B.len boot_len (qb (jv 0) qf)) qj (qC _))
         (Qs (qu JZ (ql j6 (by rfl) B.len boot_len (qb (jv 0) qf)) (jg (v:=.int 8) (by rfl) hlg ⟨_,rfl⟩) (qC _)))).pt (qk (qL je)) qD)
     (qk (qL (ql (JP rfl) (by rfl) T.all boot_all (qb (QS (N':=["sign"]) (ix:=[none]) rfl ⟨rfl,rfl,rfl,rfl,rfl⟩ (vV (jv 0)) (λC s2 H2 fp pins=>
       ⟨qr (i:=0) (Vj _) rfl (Or.inl rfl),jr,Zo Yj (jv 0) (jg (v:=.str WH) (by rfl) hlets ⟨_,rfl⟩) (by with_unfolding_all rfl)⟩)) qf))))),?_⟩
   have hn:=hz
   unfold qw at hn
   simp only[Bool.and_eq_true,decide_eq_true_eq]at hn
   obtain⟨⟨n1,n8⟩,na⟩:=hn
   have hz':z.length<=sizeLine:=Nat.le_of_lt (qp (by omega))
   refine⟨_,rfl,_,_,_,_,rfl,rfl,.str z,T.kss,_,rfl,jL ?_⟩
   refine⟨_,rfl,z,rfl,hz',_,_,rfl,rfl,_,rfl,?_⟩
   refine QL (λh=>?_) (λh=>?_)
   . exact absurd (of_decide_eq_true h) (by omega)
   . refine⟨_,rfl,z,rfl,hz',_,_,rfl,rfl,_,rfl,?_⟩
     refine QL (λh2=>?_) (λh2=>?_)
     . exact absurd (of_decide_eq_true h2) (by show ¬(8:Int) < (z.length:Int);omega)
     . refine⟨_,rfl,z,rfl,λD hD=>?_⟩
       refine VE (λi σ' H'=>∃v,σ'=[v]/\H'=upd H D (.lst (((z.cps.toList.take i).map jq).map V.bl))) ⟨none,rfl,rfl⟩ ?_ ?_
       . rintro i c σ' H' hc ⟨v,rfl,rfl⟩
         refine⟨_,rfl,_,_,rfl,rfl,_,qd,?_,?_⟩
         . rw[List.length_map,List.length_map,List.length_take]
           exact Nat.lt_of_le_of_lt (Nat.min_le_right _ _) (qp (show z.cps.toList.length<=1000 by rw[Array.length_toList];exact Nat.le_trans n8 (by decide)))
         . refine⟨_,rfl,?_⟩
           rw[qY,ki]
           have hc':z.cps.toList[i]?=some c:=by simpa using hc
           rw[<-XT jq z.cps.toList i c hc',List.map_append]
           rfl
       . rintro σ' H' ⟨v,rfl,rfl⟩
         refine⟨D,_,rfl,.of qd,?_⟩
         have e0:z.cps.toList.take z.cps.size=z.cps.toList:=List.take_of_length_le (by simp)
         have e1:(z.cps.toList.map jq).all id=true:=by rw[List.all_map];exact na
         rw[e0,e1]
         exact q _ (qg hD)
theorem vc:qK ["thing"] ["thing"] (qv Zk):=⟨rfl,rfl,rfl,by decide+kernel,rfl,by decide+kernel,by decide+kernel⟩
theorem yj {f fN:Addr} {fd fdN:FuncData} (F:Ql K "is_tuple_of_names" "is_tuple_of_names" Zk f fd) (B:Zg mg) (G:QA mg) (T:Jx K mg) (hN:jR K mg "is_name" Jl ["thing"] fN fdN):qz P w K mg base jc 2 f fd ["thing"] ug:=by
 have GN:qz P w K mg base jc 1 fN fdN ["thing"] xG:=Vd hN.fn B T
 refine F.okJ vc (λvs H Q E h=>?_) (λcdv A outer s H vs Q E hr h=>?_)
 . obtain⟨x,zs,rfl,_⟩:=h
   rfl
 . obtain⟨x,zs,rfl,hx,hz,hl,q⟩:=h
   refine⟨_,qk (qL (Ju (ql jt (by rfl) T.isi boot_isinstance (qb (jv 0) (qb (Qn (v:=.ty "tuple") (by rfl) G.tup boot_tuple rfl) qf)))
     (Jt (ql (JP rfl) (by rfl) T.all boot_all (qb (QS (N':=["part"]) (ix:=[none]) rfl ⟨rfl,rfl,rfl,rfl,rfl⟩ (zL (jv 0)) (λC s2 H2 fp pins=>
       ⟨qr (i:=0) (Vj _) rfl (Or.inl rfl),jr,qS hN GN hr (by rfl) (qb (jv 0) qf)⟩)) qf))))),?_⟩
   refine⟨_,rfl,_,_,_,_,rfl,rfl,.tup hx,T.ktt,_,rfl,Jb ⟨_,rfl,x,rfl,⟨_,.of hx⟩,λD hD=>?_⟩⟩
   refine Y0 (K:=K) (a:=x) (xs:=zs.map V.str) (λi σ' H'=>∃v,σ'=[v]/\Same H H'/\H' D=some (.lst ((List.replicate i true).map V.bl))) ⟨none,rfl,qg hD,qd⟩ (λi σ' H' _ ⟨_,_,s,_⟩=>.of (s _ _ hx)) ?_ ?_
   . rintro i y σ' H' hy ⟨v,rfl,s1,hD1⟩
     rw[List.getElem?_map]at hy
     cases e:zs[i]? with
     | none=>rw[e]at hy;cases hy
     | some z=>
       rw[e]at hy
       obtain rfl:=(Option.some.inj hy).symm
       have hi:=(List.getElem?_eq_some_iff.mp e).1
       refine⟨_,rfl,z,rfl,hz z (List.mem_of_getElem? e),λH2 s2=>⟨_,s2 _ _ hD1,?_,_,rfl,?_,?_⟩⟩
       . rw[List.length_map,List.length_replicate]
         exact qp (by omega)
       . exact Same.upd (s1.trans s2) hD
       . rw[qd,List.replicate_succ',List.map_append]
         rfl
   . rintro σ' H' ⟨v,rfl,s1,hD1⟩
     refine⟨D,_,rfl,.of hD1,?_⟩
     have e:(List.replicate (zs.map V.str).length true).all id=true:=by simp
     rw[e]
     exact q _ s1
theorem W2:qK ["thing"] ["thing"] (qv Za):=⟨rfl,rfl,rfl,by decide+kernel,rfl,by decide+kernel,by decide+kernel⟩
theorem vI {f fN fP:Addr} {fd fdN fdP:FuncData} (F:Ql K "is_row" "is_row" Za f fd) (B:Zg mg) (G:QA mg) (T:Jx K mg) (hN:jR K mg "is_name" Jl ["thing"] fN fdN) (hP:jR K mg "is_tuple_of_names" Zk ["thing"] fP fdP):qz P w K mg base jc 3 f fd ["thing"] y9:=by
 have GN:qz P w K mg base jc 1 fN fdN ["thing"] xG:=Vd hN.fn B T
 have GP:qz P w K mg base jc 2 fP fdP ["thing"] ug:=yj hP.fn B G T hN
 refine F.okJ W2 (λvs H Q E h=>?_) (λcdv A outer s H vs Q E hr h=>?_)
 . obtain⟨p,x,r,rfl,_⟩:=h
   rfl
 . obtain⟨p,x,r,rfl,hp,hx,hn,hz,hl,q⟩:=h
   refine⟨_,qh (qR (Jr (Js (QK (ql jt (by rfl) T.isi boot_isinstance (qb (jv 0) (qb (Qn (v:=.ty "tuple") (by rfl) G.tup boot_tuple rfl) qf)))))
       (Qs (qu zE (ql qy (by rfl) B.len boot_len (qb (jv 0) qf)) qj (qC _)))).pt jh qD)
     (qk (qL (Ju (qS hN GN (hr.mono (by decide)) (by rfl) (qb (qP j2 (jv 0) qj (λ_ _=>rfl)) qf)) (Jt (qS hP GP hr (by rfl) (qb (qP j2 (jv 0) qj (λ_ _=>rfl)) qf)))))),?_⟩
   refine⟨_,rfl,_,_,_,_,rfl,rfl,.tup hp,T.ktt,_,rfl,jL ⟨_,rfl,p,_,rfl,.inr (.of hp),rfl,_,rfl,jL ?_⟩⟩
   refine⟨_,rfl,p,_,0,_,rfl,rfl,.of hp,rfl,r.1,rfl,hn,λH1 s1=>⟨_,rfl,Jb ?_⟩⟩
   exact⟨_,rfl,p,_,1,_,rfl,rfl,.of (s1 _ _ hp),rfl,x,r.2,rfl,s1 _ _ hx,hz,hl,λH2 s2=>q H2 (s1.trans s2)⟩
end
end Rh
set_option Elab.async false
set_option linter.all false
set_option maxRecDepth 100000
set_option maxHeartbeats 4000000
namespace Rh
open PySem L2 PyProof.Rows
section
variable {P:Program} {w:World} {K:PySem.W.Frag} {mg:Str->Option Value} {base:Heap}
abbrev uU:List Str:=["rows","number","row"]
theorem ZB:qK uU ["rows"] (qv Xs):=⟨rfl,rfl,rfl,by decide+kernel,rfl,by decide+kernel,by decide+kernel⟩
theorem yq {f fN fP fR:Addr} {fd fdN fdP fdR:FuncData} (F:Ql K "need_form" "need_form" Xs f fd) (B:Zg mg) (G:QA mg) (T:Jx K mg) (hN:jR K mg "is_name" Jl ["thing"] fN fdN) (hP:jR K mg "is_tuple_of_names" Zk ["thing"] fP fdP)
   (hR:jR K mg "is_row" Za ["thing"] fR fdR):qz P w K mg base jc 4 f fd ["rows"] Zz:=by
 have GR:qz P w K mg base jc 3 fR fdR ["thing"] y9:=vI hR.fn B G T hN hP
 obtain⟨tm,hmp⟩:=T.mp
 refine F.okJ ZB (λvs H Q E h=>?_) (λcdv A outer s H vs Q E hr h=>?_)
 . obtain⟨l,ps,rs,rfl,_⟩:=h
   rfl
 . obtain⟨l,ps,rs,rfl,g,q⟩:=h
   refine⟨_,qh (qR (Jr (Js (QK (ql jt (by rfl) T.isi boot_isinstance (qb (jv 0) (qb (Qn (v:=.ty "list") (by rfl) G.lst boot_list rfl) qf)))))
       (Qs (qu jU (ql qy (by rfl) B.len boot_len (qb (jv 0) qf)) qj (qC _)))).pt jh qD)
     (qh (qR (qu JZ (ql qy (by rfl) B.len boot_len (qb (jv 0) qf)) (jg (v:=.int 14) (by rfl) hmp ⟨_,rfl⟩) (qC _)) jh qD)
     (qk (jQ PassesOwn.never rfl (Vm (by rfl) T.enu (qb (jv 0) qf)) (Q9 rfl (qF (qr (i:=1) ZB.nd rfl (Or.inl rfl)) (qF (qr (i:=2) ZB.nd rfl (Or.inl rfl)) js)))
       (qk (qR (Js (QK (qS hR GR hr (by rfl) (qb (jv 2) qf)))) jh qD))))),?_⟩
   have lp:(ps.map V.ref).length=rs.length:=by rw[List.length_map,g.rows.1]
   refine⟨_,rfl,_,_,_,_,rfl,rfl,.lst g.at_,T.kll,_,rfl,jL ⟨_,rfl,l,_,rfl,.inl (.of g.at_),rfl,_,rfl,?_⟩⟩
   have e0:decide (V.int (((ps.map V.ref).length:Nat):Int)=V.int 0)=false:=decide_eq_false (by
     intro z
     have:=V.int.inj z
     have:=g.pos
     omega)
   rw[e0]
   refine jL ⟨_,rfl,l,_,rfl,.inl (.of g.at_),_,_,rfl,rfl,_,rfl,?_⟩
   have e1:decide ((14:Int) < (((ps.map V.ref).length:Nat):Int))=false:=decide_eq_false (by
     have:=g.le
     omega)
   refine QL (λz=>absurd z (by rw[e1];decide)) (λ_=>?_)
   refine⟨_,rfl,l,rfl,⟨_,.of g.at_⟩,?_⟩
   refine zQ (K:=K) (a:=l) (xs:=ps.map V.ref) (λi σ' H'=>∃v1 v2,σ'=[some (.ref l),v1,v2]/\Same H H') ⟨none,none,rfl,Same.refl H⟩ (λi σ' H' _ ⟨_,_,_,s⟩=>.of (s _ _ g.at_)) ?_ ?_
   . rintro i x σ' H' p hx hp ⟨v1,v2,rfl,s1⟩
     have g1:=g.mono (s1.trans (qg (o:=.tup [.int (i:Nat),x]) hp))
     obtain⟨p',q',r,rfl,_,hr',a,b⟩:=g1.rows.item hx
     refine⟨p,_,rfl,.of qd,rfl,_,_,rfl,_,_,rfl,rfl,_,rfl,p',q',r,rfl,a,b,g.good.nm r hr',g.good.names r hr',Nat.le_trans (g.good.len r hr') (by decide),λH2 s2=>⟨_,rfl,jL ⟨_,_,rfl,?_⟩⟩⟩
     exact(s1.trans (qg hp)).trans s2
   . rintro σ' H' ⟨v1,v2,rfl,s1⟩
     exact q H' s1
abbrev Gb:List Str:=["order","ahead","name"]
theorem Yg:qK Gb ["order"] (qv vh):=⟨rfl,rfl,rfl,by decide+kernel,rfl,by decide+kernel,by decide+kernel⟩
theorem ZF {zs:List Str} (hn:zs.Nodup) {i:Nat} {z:Str} (e:zs[i]?=some z):¬(Sum.inr z:qW)∈(zs.take i).map Sum.inr:=λh=>by
 obtain⟨y,hy,ey⟩:=List.mem_map.mp h
 have ey':y=z:=Sum.inr.inj ey
 subst ey'
 obtain⟨j,hj⟩:=List.getElem?_of_mem hy
 have hj1:=(List.getElem?_eq_some_iff.mp hj).1
 rw[List.length_take]at hj1
 have hji:j < i:=by omega
 rw[List.getElem?_take_of_lt hji]at hj
 have h1:=(List.getElem?_eq_some_iff.mp hj)
 have h2:=(List.getElem?_eq_some_iff.mp e)
 exact absurd (h1.2.trans h2.2.symm) (List.pairwise_iff_getElem.mp hn j i h1.1 h2.1 hji)
theorem Q2 {kvs:List (qW×V)} {k:qW} (v:V) (h:jz kvs k=none):(jJ kvs k v).map (·.1)=kvs.map (·.1)++[k]:=by
 rw[vt v h,List.map_append]
 rfl
theorem xY {f:Addr} {fd:FuncData} (F:Ql K "need_own_names" "need_own_names" vh f fd):qz P w K mg base jc 1 f fd ["order"] xa:=by
 refine F.okJ Yg (λvs H Q E h=>?_) (λcdv A outer s H vs Q E hr h=>?_)
 . obtain⟨l,zs,rfl,_⟩:=h
   rfl
 . obtain⟨l,zs,rfl,hl,hn,hz,q⟩:=h
   have hu:=zO hr
   refine⟨_,qh (qB (i:=1) Yg.nd rfl (Or.inl rfl) Qw)
     (qk (jQ PassesOwn.never rfl (jf (jv 0)) (qr (i:=2) Yg.nd rfl (Or.inl rfl))
       (qh (qR (YN (YQ hu (jv 2) (jv 1))) jh qD) (qk (jO hu (jv 1) (jv 2) je rfl))))),?_⟩
   intro D hD
   refine⟨_,rfl,l,rfl,⟨_,.of (qm hl hD)⟩,?_⟩
   refine j3 (K:=K) (a:=l) (xs:=zs.map V.str) (λi σ' H'=>∃v kvs,σ'=[some (.ref l),some (.ref D),v]/\Same H H'/\H' D=some (.dK kvs)/\kvs.map (·.1)=(zs.take i).map Sum.inr) ⟨none,[],rfl,qg hD,qd,rfl⟩ (λi σ' H' _ ⟨_,_,_,s,_⟩=>.of (s _ _ hl)) ?_ ?_
   . rintro i x σ' H' hx ⟨v,kvs,rfl,s1,hD1,ek⟩
     rw[List.getElem?_map]at hx
     cases e:zs[i]? with
     | none=>rw[e]at hx;cases hx
     | some z=>
       rw[e]at hx
       obtain rfl:=(Option.some.inj hx).symm
       have hi:=(List.getElem?_eq_some_iff.mp e).1
       have ez:jz kvs (Sum.inr z:qW)=none:=Zh (by rw[ek];exact ZF hn e)
       have gz:Je H' D (.str z) none:=by
         have:=Je.k (k:=(Sum.inr z:qW)) hD1
         rw[ez]at this
         exact this
       have lk:kvs.length < sizeLine:=by
         have:=congrArg List.length ek
         rw[List.length_map,List.length_map,List.length_take]at this
         exact qp (by omega)
       refine⟨_,rfl,_,rfl,D,none,rfl,gz,_,rfl,jL ?_⟩
       refine⟨_,rfl,_,rfl,D,_,rfl,Ji.k (k:=(Sum.inr z:qW)) hD1 lk,_,_,rfl,Same.upd s1 hD,qd,?_⟩
       rw[Q2 _ ez,ek,List.take_add_one,e,List.map_append]
       rfl
   . rintro σ' H' ⟨v,kvs,rfl,s1,_⟩
     exact q H' s1
abbrev uV:List Str:=["ends","order","ahead","name"]
theorem ZC:qK uV ["ends","order"] (qv Xt):=⟨rfl,rfl,rfl,by decide+kernel,rfl,by decide+kernel,by decide+kernel⟩
theorem yt {f:Addr} {fd:FuncData} (F:Ql K "need_ends" "need_ends" Xt f fd):qz P w K mg base jc 1 f fd ["ends","order"] U8:=by
 refine F.okJ ZC (λvs H Q E h=>?_) (λcdv A outer s H vs Q E hr h=>?_)
 . obtain⟨x,l,es,zs,rfl,_⟩:=h
   rfl
 . obtain⟨x,l,es,zs,rfl,hx,hl,hn,hin,hz,q⟩:=h
   have hu:=zO hr
   refine⟨_,qh (qB (i:=2) ZC.nd rfl (Or.inl rfl) Qw)
     (qk (jQ PassesOwn.never rfl (zL (jv 0)) (qr (i:=3) ZC.nd rfl (Or.inl rfl))
       (qh (qR (qu Q4 (jv 3) (jv 1) (by with_unfolding_all rfl)) jh qD)
       (qh (qR (YN (YQ hu (jv 3) (jv 2))) jh qD) (qk (jO hu (jv 2) (jv 3) je rfl)))))),?_⟩
   intro D hD
   refine⟨_,rfl,x,rfl,⟨_,.of (qm hx hD)⟩,?_⟩
   refine YU (K:=K) (a:=x) (xs:=es.map V.str) (λi σ' H'=>∃v kvs,σ'=[some (.ref x),some (.ref l),some (.ref D),v]/\Same H H'/\H' D=some (.dK kvs)/\kvs.map (·.1)=(es.take i).map Sum.inr) ⟨none,[],rfl,qg hD,qd,rfl⟩ (λi σ' H' _ ⟨_,_,_,s,_⟩=>.of (s _ _ hx)) ?_ ?_
   . rintro i y σ' H' hy ⟨v,kvs,rfl,s1,hD1,ek⟩
     rw[List.getElem?_map]at hy
     cases e:es[i]? with
     | none=>rw[e]at hy;cases hy
     | some z=>
       rw[e]at hy
       obtain rfl:=(Option.some.inj hy).symm
       have hi:=(List.getElem?_eq_some_iff.mp e).1
       have ez:jz kvs (Sum.inr z:qW)=none:=Zh (by rw[ek];exact ZF hn e)
       have gz:Je H' D (.str z) none:=by
         have:=Je.k (k:=(Sum.inr z:qW)) hD1
         rw[ez]at this
         exact this
       have lk:kvs.length < sizeLine:=by
         have:=congrArg List.length ek
         rw[List.length_map,List.length_map,List.length_take]at this
         exact qp (by omega)
       refine⟨_,rfl,_,rfl,l,_,rfl,.inl (.of (s1 _ _ hl)),rfl,QU zs,_,rfl,?_⟩
       rw[JK (hin z (List.mem_of_getElem? e))]
       refine jL ⟨_,rfl,_,rfl,D,none,rfl,gz,_,rfl,jL ?_⟩
       refine⟨_,rfl,_,rfl,D,_,rfl,Ji.k (k:=(Sum.inr z:qW)) hD1 lk,_,_,rfl,Same.upd s1 hD,qd,?_⟩
       rw[Q2 _ ez,ek,List.take_add_one,e,List.map_append]
       rfl
   . rintro σ' H' ⟨v,kvs,rfl,s1,_⟩
     exact q H' s1
abbrev Gd:List Str:=["rows","many"]
theorem W3:qK Gd ["rows"] (qv vi):=⟨rfl,rfl,rfl,by decide+kernel,rfl,by decide+kernel,by decide+kernel⟩
theorem x9 {f:Addr} {fd:FuncData} (F:Ql K "need_few_roads" "need_few_roads" vi f fd) (B:Zg mg) (T:Jx K mg):qz P w K mg base jc 1 f fd ["rows"] Zz:=by
 obtain⟨tm,hmr⟩:=T.mr
 refine F.okJ W3 (λvs H Q E h=>?_) (λcdv A outer s H vs Q E hr h=>?_)
 . obtain⟨l,ps,rs,rfl,_⟩:=h
   rfl
 . obtain⟨l,ps,rs,rfl,g,q⟩:=h
   refine⟨_,qh (qB (i:=1) W3.nd rfl (Or.inl rfl) (ql (Ys rfl) (by rfl) T.sum boot_sum (qb (QS (N':=["row"]) (ix:=[none]) (te:=yZ (λxs H Q=>∃p ys,xs=[.ref p]/\(SqL K H p ys\/SqT K H p ys)/\Q (.int ys.length) H) (jd (YD (Xw K) (qZ 0) (tC (.int 1))) Qh)) rfl ⟨rfl,rfl,rfl,rfl,rfl⟩ (jf (jv 0)) (λC s2 H2 fp pins=>
       ⟨qr (i:=0) (Vj _) rfl (Or.inl rfl),jr,ql qy (by rfl) B.len boot_len (qb (qP j2 (jv 0) qj (λ_ _=>rfl)) qf)⟩)) qf)))
     (qk (qR (qu JZ (jv 1) (jg (v:=.int 40) (by rfl) hmr ⟨_,rfl⟩) (qC _)) jh qD)),?_⟩
   refine⟨_,rfl,l,rfl,⟨_,.of g.at_⟩,λD hD=>?_⟩
   refine jD (K:=K) (a:=l) (xs:=ps.map V.ref) (λi σ' H'=>∃v,σ'=[v]/\H'=upd H D (.lst (((rs.take i).map λr=>r.2.length).map λn=>V.int ((n:Nat):Int)))) ⟨none,rfl,rfl⟩ (λi σ' H' _ ⟨_,_,e⟩=>e▸.of (qm g.at_ hD)) ?_ ?_
   . rintro i x σ' H' hx ⟨v,rfl,rfl⟩
     obtain⟨p',q',r,rfl,er,hr',a,b⟩:=g.rows.item hx
     have hi:=(List.getElem?_eq_some_iff.mp er).1
     refine⟨_,rfl,p',_,1,_,rfl,rfl,.of (qm a hD),rfl,q',_,rfl,.inr (.of (qm b hD)),_,qd,?_,_,rfl,?_⟩
     . rw[List.length_map,List.length_map,List.length_take]
       have:=g.le
       exact qp (by omega)
     . rw[qY,List.take_add_one,er,List.map_append,List.map_append,List.length_map]
       rfl
   . rintro σ' H' ⟨v,rfl,rfl⟩
     have e:rs.take (ps.map V.ref).length=rs:=List.take_of_length_le (by rw[List.length_map,g.rows.1];exact Nat.le_refl _)
     rw[e]
     refine⟨D,_,rfl,.of qd,Nat.lt_of_le_of_lt g.good.few (by decide),?_⟩
     refine⟨_,rfl,_,_,rfl,rfl,_,rfl,?_⟩
     have:=g.good.few
     refine QL (λz=>absurd (of_decide_eq_true z) ?_) (λ_=>q _ (qg hD))
     show ¬(40:Int) < _
     omega
abbrev uT:List Str:=["rows","order","row"]
theorem ZA:qK uT ["rows"] (qv ZS):=⟨rfl,rfl,rfl,by decide+kernel,rfl,by decide+kernel,by decide+kernel⟩
structure WM (K:PySem.W.Frag) (mg:Str->Option Value):Prop where
 nm:∃f fd,jR K mg "is_name" Jl ["thing"] f fd
 tn:∃f fd,jR K mg "is_tuple_of_names" Zk ["thing"] f fd
 rw:∃f fd,jR K mg "is_row" Za ["thing"] f fd
 fo:∃f fd,jR K mg "need_form" Xs ["rows"] f fd
 ow:∃f fd,jR K mg "need_own_names" vh ["order"] f fd
 en:∃f fd,jR K mg "need_ends" Xt ["ends","order"] f fd
 fw:∃f fd,jR K mg "need_few_roads" vi ["rows"] f fd
theorem yp {f:Addr} {fd:FuncData} (F:Ql K "need_rows" "need_rows" ZS f fd) (B:Zg mg) (G:QA mg) (T:Jx K mg) (N:WM K mg):qz P w K mg base jc 5 f fd ["rows"] Zz:=by
 obtain⟨fN,fdN,hN⟩:=N.nm
 obtain⟨fP,fdP,hP⟩:=N.tn
 obtain⟨fR,fdR,hR⟩:=N.rw
 obtain⟨fF,fdF,hF⟩:=N.fo
 obtain⟨fO,fdO,hO⟩:=N.ow
 obtain⟨fE,fdE,hE⟩:=N.en
 obtain⟨fW,fdW,hW⟩:=N.fw
 have GF:qz P w K mg base jc 4 fF fdF ["rows"] Zz:=yq hF.fn B G T hN hP hR
 have GO:qz P w K mg base jc 1 fO fdO ["order"] xa:=xY hO.fn
 have GE:qz P w K mg base jc 1 fE fdE ["ends","order"] U8:=yt hE.fn
 have GW:qz P w K mg base jc 1 fW fdW ["rows"] Zz:=x9 hW.fn B T
 refine F.okJ ZA (λvs H Q E h=>?_) (λcdv A outer s H vs Q E hr h=>?_)
 . obtain⟨l,ps,rs,rfl,_⟩:=h
   rfl
 . obtain⟨l,ps,rs,rfl,g,q⟩:=h
   refine⟨_,qh (jF (qS hF GF hr (by rfl) (qb (jv 0) qf)))
     (qh (Qt (i:=1) (N':=["row"]) (ix:=[none]) (te:=YD (Xw K) (qZ 0) (tC (.int 0))) ZA.nd rfl (Or.inl rfl) rfl ⟨rfl,rfl,rfl,rfl,rfl⟩ (jf (jv 0)) (λC s2 H2 fp pins=>
       ⟨qr (i:=0) (Vj _) rfl (Or.inl rfl),jr,qP j2 (jv 0) qj (λ_ _=>rfl)⟩))
     (qh (jF (qS hO GO (hr.mono (by decide)) (by rfl) (qb (jv 1) qf)))
     (qh (jQ PassesOwn.never rfl (jf (jv 0)) (qr (i:=2) ZA.nd rfl (Or.inl rfl))
       (qk (jF (qS hE GE (hr.mono (by decide)) (by rfl) (qb (qP j2 (jv 2) qj (λ_ _=>rfl)) (qb (jv 1) qf))))))
     (qk (jF (qS hW GW (hr.mono (by decide)) (by rfl) (qb (jv 0) qf))))))),?_⟩
   refine⟨_,rfl,l,ps,rs,rfl,g,λH1 s1=>?_⟩
   have g1:=g.mono s1
   refine⟨_,rfl,l,rfl,⟨_,.of g1.at_⟩,λD hD=>?_⟩
   refine jD (K:=K) (a:=l) (xs:=ps.map V.ref) (λi σ' H'=>∃v,σ'=[v]/\H'=upd H1 D (.lst (((rs.take i).map (·.1)).map V.str))) ⟨none,rfl,rfl⟩ (λi σ' H' _ ⟨_,_,e⟩=>e▸.of (qm g1.at_ hD)) ?_ ?_
   . rintro i x σ' H' hx ⟨v,rfl,rfl⟩
     obtain⟨p',q',r,rfl,er,hr',a,b⟩:=g1.rows.item hx
     have hi:=(List.getElem?_eq_some_iff.mp er).1
     refine⟨_,rfl,p',_,0,_,rfl,rfl,.of (qm a hD),rfl,_,qd,?_,_,rfl,?_⟩
     . rw[List.length_map,List.length_map,List.length_take]
       have:=g.le
       exact qp (by omega)
     . rw[qY,List.take_add_one,er,List.map_append,List.map_append]
       rfl
   . rintro σ' H' ⟨v,rfl,rfl⟩
     have e:rs.take (ps.map V.ref).length=rs:=List.take_of_length_le (by rw[List.length_map,g.rows.1];exact Nat.le_refl _)
     rw[e]
     refine⟨_,rfl,D,rs.map (·.1),rfl,qd,g.good.nd,by rw[List.length_map];have:=g.le;omega,λH2 s2=>?_⟩
     have sD:Same H1 H2:=(qg hD).trans s2
     have hD2:H2 D=some (.lst ((rs.map (·.1)).map V.str)):=s2 _ _ qd
     have g2:=g1.mono sD
     refine⟨_,rfl,l,rfl,⟨_,.of g2.at_⟩,?_⟩
     refine j3 (K:=K) (a:=l) (xs:=ps.map V.ref) (λi σ' H'=>∃v,σ'=[some (.ref l),some (.ref D),v]/\Same H2 H') ⟨none,rfl,Same.refl H2⟩ (λi σ' H' _ ⟨_,_,s⟩=>.of (s _ _ g2.at_)) ?_ ?_
     . rintro i x σ' H' hx ⟨v,rfl,s3⟩
       obtain⟨p',q',r,rfl,er,hr',a,b⟩:=(g2.mono s3).rows.item hx
       refine⟨_,rfl,p',_,1,_,rfl,rfl,.of a,rfl,_,rfl,q',D,r.2,rs.map (·.1),rfl,b,s3 _ _ hD2,g.good.rd r hr',g.good.to r hr',Nat.le_trans (g.good.len r hr') (by decide),λH4 s4=>⟨_,rfl,s3.trans s4⟩⟩
     . rintro σ' H' ⟨v,rfl,s3⟩
       exact⟨_,rfl,l,ps,rs,rfl,g2.mono s3,λH4 s4=>q H4 (((s1.trans sD).trans s3).trans s4)⟩
end
end Rh
set_option Elab.async false
set_option linter.all false
set_option maxRecDepth 100000
set_option maxHeartbeats 4000000
namespace Rh
open PySem L2 PyProof.Rows
abbrev Wg:Stmt:=JL (top 21) 0
abbrev Jz:Stmt:=JL (top 21) 1
def xP (rs:List (Str×List Str)) (r:Str×List Str):List Str:=(rs.map (·.1)).filter λz=>YS (.str z) (r.2.map V.str)
def kK (CG:Addr) (H:Hp) (a:Addr) (rs:List (Str×List Str)):Prop:=∃(dx lo rd:Addr) (kvs:List (qW×V)),H a=some (.ins CG dx [("order",.ref lo),("roads",.ref rd)])/\H lo=some (.lst ((rs.map (·.1)).map V.str))/\H rd=some (.dK kvs)/\
 ∀r∈rs,∃q,jz kvs (Sum.inr r.1)=some (.ref q)/\H q=some (.lst ((xP rs r).map V.str))
theorem qX.fr {H H':Hp} {l x C dx:Addr} {fs:List (Str×V)} {ps:List Addr} {rs:List (Str×List Str)} (h:qX H l ps rs) (hx:H x=some (.ins C dx fs)) (s:Fr H x H'):qX H' l ps rs:=by
 refine⟨s _ _ h.at_ (λe=>?_),⟨h.rows.1,λi p r e1 e2=>?_⟩,h.good,h.pos,h.le⟩
 . have:=h.at_
   rw[e,hx]at this
   cases this
 . obtain⟨q,a,b⟩:=h.rows.2 i p r e1 e2
   exact⟨q,s _ _ a (λe=>by rw[e,hx]at a;cases a),s _ _ b (λe=>by rw[e,hx]at b;cases b)⟩
structure wU (K:PySem.W.Frag) (mg:Str->Option Value) (CG f:Addr) (fd:FuncData):Prop where
 cl:UR K CG
 mkr:Mk K CG f
 ns:mg "Ground"=some (.ref CG)
 no:Qa K CG "order"
 nr:Qa K CG "roads"
 fn:Ql K "__init__" "Ground.__init__" Wg f fd
 bi:Qi K fd ["self","rows"] []
theorem nor:¬(Str.ofString "order")=Str.ofString "roads":=by decide+kernel
theorem K3 (v:V):Q3 (Str.ofString "order") v []=[(Str.ofString "order",v)]:=rfl
theorem K2 (v u:V):Q3 (Str.ofString "roads") u [(Str.ofString "order",v)]=[(Str.ofString "order",v),(Str.ofString "roads",u)]:=by
 unfold Q3
 rw[if_neg nor]
 rfl
theorem lkO (v u:V):([(Str.ofString "order",v),(Str.ofString "roads",u)]:List (Str×V)).lookup (Str.ofString "order")=some v:=by simp [List.lookup]
theorem lkR (v u:V):([(Str.ofString "order",v),(Str.ofString "roads",u)]:List (Str×V)).lookup (Str.ofString "roads")=some u:=by
 have e:((Str.ofString "roads")==(Str.ofString "order"))=false:=by decide+kernel
 simp [List.lookup,e]
def Z7 (CG:Addr):Sp:=λvs H Q _=>∃(x dx l:Addr) (ps:List Addr) (rs:List (Str×List Str)),vs=[.ref x,.ref l]/\qX H l ps rs/\H x=some (.ins CG dx [])/\∀H',kK CG H' x rs->Fr H x H'->Q .non H'
def zr (CG:Addr):Sp:=λvs H Q _=>∃(a:Addr) (rs:List (Str×List Str)),vs=[.ref a]/\kK CG H a rs/\∀l,H l=none->Q (.ref l) (upd H l (.lst ((rs.map (·.1)).map V.str)))
section
variable {P:Program} {w:World} {K:PySem.W.Frag} {mg:Str->Option Value} {base:Heap}
abbrev nGI:List Str:=["self","rows","row"]
theorem xL:qK nGI ["self","rows"] (qv Wg):=⟨rfl,rfl,rfl,by decide+kernel,rfl,by decide+kernel,by decide+kernel⟩
theorem vJ {f fW CG:Addr} {fd fdW:FuncData} (C:wU K mg CG f fd) (B:Zg mg) (G:QA mg) (T:Jx K mg) (N:WM K mg) (hW:jR K mg "need_rows" ZS ["rows"] fW fdW):qz P w K mg base jc 6 f fd ["self","rows"] (Z7 CG):=by
 have GW:qz P w K mg base jc 5 fW fdW ["rows"] Zz:=yp hW.fn B G T N
 refine C.fn.okJ xL (λvs H Q E h=>?_) (λcdv A outer s H vs Q E hr h=>?_)
 . obtain⟨x,dx,l,ps,rs,rfl,_⟩:=h
   rfl
 . obtain⟨x,dx,l,ps,rs,rfl,g,hx,q⟩:=h
   have hu:=zO hr
   refine⟨_,qh (jF (qS hW GW hr (by rfl) (qb (jv 1) qf)))
     (qh (vU (jv 0) (QS (N':=["row"]) (ix:=[none]) (te:=YD (Xw K) (qZ 0) (tC (.int 0))) rfl ⟨rfl,rfl,rfl,rfl,rfl⟩ (jf (jv 1)) (λC s2 H2 fp pins=>
       ⟨qr (i:=0) (Vj _) rfl (Or.inl rfl),jr,qP j2 (jv 0) qj (λ_ _=>rfl)⟩)) rfl)
     (qh (vU (jv 0) Qw rfl)
     (qk (jQ PassesOwn.never rfl (jf (jv 1)) (qr (i:=2) xL.nd rfl (Or.inr rfl))
       (qk (jO hu (Ws (jv 0) rfl) (qP j2 (jv 2) qj (λ_ _=>rfl))
         (QS (N':=["name","row"]) (ix:=[none,some 2]) (tt:=Ye (YD (uy K false) (qZ 0) (YD (Xw K) (qZ 1) (tC (.int 1))))) rfl ⟨rfl,rfl,rfl,rfl,rfl⟩ (jf (Ws (jv 0) rfl)) (λC s2 H2 fp pins=>
           ⟨qr (i:=0) (show (["name","row"]:List Str).Nodup by decide+kernel) rfl (Or.inl rfl),Zn (qu Uc (jv 0) (qP j2 (jv 1) qj (λ_ _=>rfl)) (by with_unfolding_all rfl)),jv 0⟩)) rfl)))))),?_⟩
   refine⟨_,rfl,l,ps,rs,rfl,g,λH1 s1=>?_⟩
   have g1:=g.mono s1
   have fr1:Fr H x H1:=λb u h _=>s1 _ _ h
   have hx1:=s1 _ _ hx
   refine⟨_,rfl,l,rfl,⟨_,.of g1.at_⟩,λlo hlo=>?_⟩
   have nlx:lo≠x:=λe=>by rw[e,hx1]at hlo;cases hlo
   refine jD (K:=K) (a:=l) (xs:=ps.map V.ref) (λi σ' H'=>∃v,σ'=[v]/\H'=upd H1 lo (.lst (((rs.take i).map (·.1)).map V.str))) ⟨none,rfl,rfl⟩ (λi σ' H' _ ⟨_,_,e⟩=>e▸.of (qm g1.at_ hlo)) ?_ ?_
   . rintro i y σ' H' hy ⟨v,rfl,rfl⟩
     obtain⟨p',q',r,rfl,er,hr',a,b⟩:=g1.rows.item hy
     have hi:=(List.getElem?_eq_some_iff.mp er).1
     refine⟨_,rfl,p',_,0,_,rfl,rfl,.of (qm a hlo),rfl,_,qd,?_,_,rfl,?_⟩
     . rw[List.length_map,List.length_map,List.length_take]
       have:=g.le
       exact qp (by omega)
     . rw[qY,List.take_add_one,er,List.map_append,List.map_append]
       rfl
   rintro σ' H' ⟨v,rfl,rfl⟩
   have e:rs.take (ps.map V.ref).length=rs:=List.take_of_length_le (by rw[List.length_map,g.rows.1];exact Nat.le_refl _)
   rw[e]
   have fr2:Fr H x (upd H1 lo (.lst ((rs.map (·.1)).map V.str))):=fr1.new hlo
   have hlo2:upd H1 lo (.lst ((rs.map (·.1)).map V.str)) lo=some (.lst ((rs.map (·.1)).map V.str)):=qd
   have hx2:upd H1 lo (.lst ((rs.map (·.1)).map V.str)) x=some (.ins CG dx []):=qm hx1 hlo
   generalize upd H1 lo (.lst ((rs.map (·.1)).map V.str))=H2 at fr2 hlo2 hx2
   refine⟨_,rfl,x,CG,dx,[],rfl,hx2,C.cl,C.no,by decide,?_⟩
   rw[K3]
   intro rd hrd
   have nrx:rd≠x:=λe=>by rw[e,qd]at hrd;cases hrd
   have hrd2:H2 rd=none:=by rw[qi nrx]at hrd;exact hrd
   have nrl:rd≠lo:=λe=>by rw[e,hlo2]at hrd2;cases hrd2
   have hHr:H rd=none:=fr2.fresh hx2 hrd2
   refine⟨_,rfl,x,CG,dx,_,rfl,qm qd hrd,C.cl,C.nr,by show 1 < 1000;decide,?_⟩
   rw[K2]
   have fr5:Fr H x (upd (upd (upd H2 x (.ins CG dx [("order",.ref lo)])) rd (.dK [])) x (.ins CG dx [("order",.ref lo),("roads",.ref rd)])):=((fr2.at_d).own hHr).at_d
   have g5:=g.fr hx fr5
   refine⟨_,rfl,l,rfl,⟨_,.of g5.at_⟩,?_⟩
   refine j3 (K:=K) (a:=l) (xs:=ps.map V.ref) (λi σ' H'=>∃v kvs,σ'=[some (.ref x),some (.ref l),v]/\H' x=some (.ins CG dx [("order",.ref lo),("roads",.ref rd)])/\H' lo=some (.lst ((rs.map (·.1)).map V.str))/\H' rd=some (.dK kvs)/\
     kvs.map (·.1)=((rs.map (·.1)).take i).map Sum.inr/\(∀r∈rs.take i,∃q,jz kvs (Sum.inr r.1)=some (.ref q)/\H' q=some (.lst ((xP rs r).map V.str)))/\Fr H x H')
     ⟨none,[],rfl,qd,?_,?_,rfl,λr h=>(nomatch h),fr5⟩ (λi σ' H' _ ⟨_,_,_,_,_,_,_,_,fr⟩=>.of (g.fr hx fr).at_) ?_ ?_
   . rw[qi nlx,qi (Ne.symm nrl),qi nlx]
     exact hlo2
   . rw[qi nrx]
     exact qd
   . rintro i y σ' H' hy ⟨v,kvs,rfl,hx',hlo',hrd',ek,hv,fr⟩
     have g':=g.fr hx fr
     obtain⟨p,qq,r,rfl,er,hr',a,b⟩:=g'.rows.item hy
     have hi:=(List.getElem?_eq_some_iff.mp er).1
     have hle:=g.le
     refine⟨_,rfl,x,CG,dx,_,_,rfl,hx',C.cl,C.no,lkO _ _,lo,rfl,⟨_,.of hlo'⟩,λD hD=>?_⟩
     refine jD (K:=K) (a:=lo) (xs:=(rs.map (·.1)).map V.str) (λj σ'' H''=>∃v0,σ''=[v0,some (.ref p)]/\H''=upd H' D (.lst ((((rs.map (·.1)).take j).filter λz=>YS (.str z) (r.2.map V.str)).map V.str))) ⟨none,rfl,rfl⟩
       (λj σ'' H'' _ ⟨_,_,e⟩=>e▸.of (qm hlo' hD)) ?_ ?_
     . rintro j y σ'' H'' hy ⟨v0,rfl,rfl⟩
       rw[List.getElem?_map]at hy
       cases e:(rs.map (·.1))[j]? with
       | none=>rw[e]at hy;cases hy
       | some z=>
         rw[e]at hy
         obtain rfl:=(Option.some.inj hy).symm
         refine⟨_,rfl,_,rfl,p,_,1,_,rfl,rfl,.of (qm a hD),rfl,qq,_,rfl,.inr (.of (qm b hD)),rfl,QU _,_,rfl,?_⟩
         have et:((rs.map (·.1)).take (j+1)).filter (λz=>YS (.str z) (r.2.map V.str))=((rs.map (·.1)).take j).filter (λz=>YS (.str z) (r.2.map V.str))++if YS (.str z) (r.2.map V.str)=true then [z] else []:=by
           rw[List.take_add_one,e,List.filter_append]
           congr 1
           cases ei:YS (.str z) (r.2.map V.str)
           . simp [ei]
           . simp [ei]
         rw[et]
         show if YS (.str z) (r.2.map V.str)=true then _ else _
         cases ei:YS (.str z) (r.2.map V.str) with
         | true=>
           refine Jb ⟨_,rfl,_,qd,?_,_,rfl,?_⟩
           . rw[List.length_map]
             refine qp (Nat.le_trans (List.length_filter_le _ _) ?_)
             rw[List.length_take,List.length_map]
             omega
           . rw[qY,if_pos rfl,List.map_append]
             rfl
         | false=>
           refine jL ⟨_,rfl,?_⟩
           rw[if_neg Bool.false_ne_true,List.append_nil]
     . rintro σ'' H'' ⟨v0,rfl,rfl⟩
       have ed:((rs.map (·.1)).take ((rs.map (·.1)).map V.str).length).filter (λz=>YS (.str z) (r.2.map V.str))=xP rs r:=by
         rw[List.length_map,List.take_of_length_le (Nat.le_refl _)]
         rfl
       rw[ed]
       have nD:∀{c:Addr} {o:HO},H' c=some o->c≠D:=λh e=>by rw[e,hD]at h;cases h
       have en:(rs.map (·.1))[i]?=some r.1:=by rw[List.getElem?_map,er];rfl
       have ez:jz kvs (Sum.inr r.1:qW)=none:=Zh (by rw[ek];exact ZF g.good.nd en)
       have lk:kvs.length < sizeLine:=by
         have:=congrArg List.length ek
         rw[List.length_map,List.length_map,List.length_take,List.length_map]at this
         exact qp (by omega)
       refine⟨_,rfl,x,CG,dx,_,_,rfl,qm hx' hD,C.cl,C.nr,lkR _ _,_,rfl,p,_,0,_,rfl,rfl,.of (qm a hD),rfl,rd,_,rfl,Ji.k (k:=(Sum.inr r.1:qW)) (qm hrd' hD) lk,?_⟩
       refine⟨_,jJ kvs (Sum.inr r.1) (.ref D),rfl,?_,?_,qd,?_,λr' hr2=>?_,?_⟩
       . rw[qi (Ne.symm nrx)];exact qm hx' hD
       . rw[qi (Ne.symm nrl)];exact qm hlo' hD
       . rw[Q2 _ ez,ek,List.take_add_one,en,List.map_append]
         rfl
       . rw[List.take_add_one,er]at hr2
         rcases List.mem_append.mp hr2 with h | h
         . obtain⟨q1,a1,b1⟩:=hv r' h
           refine⟨q1,?_,?_⟩
           . rw[Xh,if_neg]
             . exact a1
             . intro z
               rw[z,ez]at a1
               cases a1
           . have n1:q1≠rd:=λe=>by rw[e,hrd']at b1;cases b1
             rw[qi n1]
             exact qm b1 hD
         . have er':r'=r:=by simpa using h
           subst er'
           refine⟨D,?_,?_⟩
           . rw[Xh,if_pos rfl]
           . rw[qi (Ne.symm (nD hrd'))]
             exact qd
       . exact(fr.new hD).own hHr
   . rintro σ' H' ⟨v,kvs,rfl,hx',hlo',hrd',ek,hv,fr⟩
     have e:rs.take (ps.map V.ref).length=rs:=List.take_of_length_le (by rw[List.length_map,g.rows.1];exact Nat.le_refl _)
     rw[e]at hv
     exact q H' ⟨dx,lo,rd,kvs,hx',hlo',hrd',hv⟩ fr
theorem KQ:qK ["self"] ["self"] (qv Jz):=⟨rfl,rfl,rfl,by decide+kernel,rfl,by decide+kernel,by decide+kernel⟩
theorem Ue {f fI CG:Addr} {fd fdI:FuncData} (F:Ql K "names" "Ground.names" Jz f fd) (C:wU K mg CG fI fdI) (G:QA mg):qz P w K mg base jc 1 f fd ["self"] (zr CG):=by
 refine F.okJ KQ (λvs H Q E h=>?_) (λcdv A outer s H vs Q E hr h=>?_)
 . obtain⟨a,rs,rfl,_⟩:=h
   rfl
 . obtain⟨a,rs,rfl,⟨dx,lo,rd,kvs,h1,h2,h3,h4⟩,q⟩:=h
   refine⟨_,qk (qL (ji Zt (by rfl) G.lst boot_list (qb (Ws (jv 0) rfl) qf))),?_⟩
   exact⟨_,rfl,a,CG,dx,_,_,rfl,h1,C.cl,C.no,lkO _ _,lo,_,rfl,.inl (.of h2),q⟩
end
end Rh
set_option Elab.async false
set_option linter.all false
set_option maxRecDepth 100000
set_option maxHeartbeats 4000000
namespace Rh
open PySem L2 PyProof.Rows
abbrev Kz:Stmt:=top 29
abbrev uo:Stmt:=top 30
abbrev yb:Stmt:=top 31
abbrev uk:Stmt:=top 32
abbrev um:Stmt:=top 33
abbrev Kw:Stmt:=top 34
abbrev Ky:Stmt:=top 35
abbrev Kv:Stmt:=top 36
abbrev KA:Stmt:=top 37
abbrev Kx:Stmt:=top 38
abbrev QP:Stmt:=JL (top 3) 0
abbrev Jk:Stmt:=JL (top 4) 0
abbrev zv:Stmt:=JL (top 5) 0
abbrev Jj:Stmt:=JL (top 6) 0
abbrev JX:=List (Str×List Str)
theorem Vp {z:Str} {zs:List Str}:YS (.str z) (zs.map V.str)=true↔z∈zs:=by
 refine⟨λh=>?_,JK⟩
 unfold YS at h
 obtain⟨y,hy,e⟩:=List.any_eq_true.mp h
 obtain⟨x,hx,rfl⟩:=List.mem_map.mp hy
 have e':(x==z)=true:=e
 rw[beq_iff_eq]at e'
 exact e'▸hx
structure KF (K:PySem.W.Frag) (C:Addr) (m qual:Str) (st:Stmt) (ps:List Str) (f:Addr) (fd:FuncData):Prop where
 fn:Ql K m qual st f fd
 me:yS K C m f
 bi:Qi K fd ps []
theorem uZ {X:Cx} {C f:Addr} {fd:FuncData} {m qual:Str} {st:Stmt} {ps:List Str} {k:Nat} {sp:Sp} {o:Expr} {ta:TE} {apos pos:Pos} {pl:Sem Bool} (h:KF X.K C m qual st ps f fd) (c:UR X.K C) (G:qz X.prog X.w X.K X.mg X.base jc k f fd ps sp) (hr:q5 k X.A) (he:JE X o ta)
   (ht:eval (.Call (.Attribute o m apos) [] [] pos) X.env=(do
     let ov <-eval o X.env
     standAt apos.atName
     let (f,first) <-holding [ov] (getMethod ov m pl)
     callWith pos f first (backTo pos (starEach [] X.env)) (backToKw pos (keywordEach [] X.env))):=by rfl):
   JE X (.Call (.Attribute o m apos) [] [] pos) (WU C m sp [] E0 ta Qh):=vX he c h.me G hr h.bi .nil Zm ht
theorem QZ {zs:List Str} {i:Nat} {y:V} (h:(zs.map V.str)[i]?=some y):∃z,zs[i]?=some z/\z∈zs/\y=.str z:=by
 rw[List.getElem?_map]at h
 cases e:zs[i]? with
 | none=>rw[e]at h;cases h
 | some z=>rw[e]at h;exact⟨z,rfl,List.mem_of_getElem? e,(Option.some.inj h).symm⟩
theorem jw {c:Bool} {A B:Prop} (hc:c=false) (h:B):if c=true then A else B:=by
 rw[hc]
 exact jL h
theorem Qd {c:Bool} {A B:Prop} (hc:c=true) (h:A):if c=true then A else B:=by
 rw[if_pos hc]
 exact h
theorem wg {σ:L2.St} {H:Hp} {Q:List V->Hp->Prop} (h:Q [] H):Qh σ H Q:=h
theorem Zb {z:Str} (h:qw z=true):(∀c∈z.cps.toList,c<=122)/\z.length<=8/\1<=z.length:=by
 unfold qw at h
 simp only[Bool.and_eq_true,decide_eq_true_eq]at h
 refine⟨λc hc=>?_,h.1.2,h.1.1⟩
 have:=List.all_eq_true.mp h.2 c hc
 unfold jq at this
 simp only[Bool.and_eq_true,decide_eq_true_eq]at this
 exact this.2
theorem wC:∀zs:List Str,PyData.depthAll (zs.map PyData.str)=0
 | []=>rfl
 | z::zs=>by
   rw[List.map_cons]
   simp only[PyData.depthAll,PyData.depth,wC zs]
   rfl
structure X0 (K:PySem.W.Frag) (mg:Str->Option Value) (D:Addr) (x qual:Str) (st:Stmt) (fld:Str) (C f:Addr) (fd:FuncData):Prop where
 cls:ZO K C (.ref D::qT)
 mkr:Kq K C f (.ref D::qT)
 ns:mg x=some (.ref C)
 na:Qa K C fld
 fn:Ql K "__init__" qual st f fd
 bi:Qi K fd ["self",fld] []
theorem yf (D:Addr):Wj (.ref D::qT):=rfl
theorem Um (D:Addr):(Value.ref D::qT).contains (.type "BaseException")=true:=rfl
theorem X0.rcls {K:PySem.W.Frag} {mg:Str->Option Value} {D C f:Addr} {x qual fld:Str} {st:Stmt} {fd:FuncData} (h:X0 K mg D x qual st fld C f fd):XV K C:=⟨f,_,h.mkr,Um D⟩
def XY (C:Addr) (fld:Str):Sp:=λvs H Q _=>∃e y,vs=[.ref e,y]/\H e=some (JR e C)/\∀dx,H dx=none->Q .non (upd (upd H e (QB e C dx)) dx (.xd [(fld,y)]))
theorem Vk {H:Hp} {e dx C:Addr} {fs:List (Str×V)} (h1:H e=none) (h2:upd H e (JR e C) dx=none):
   Same H (upd (upd (upd H e (JR e C)) e (QB e C dx)) dx (.xd fs))/\upd (upd (upd H e (JR e C)) e (QB e C dx)) dx (.xd fs) e=some (QB e C dx)/\upd (upd (upd H e (JR e C)) e (QB e C dx)) dx (.xd fs) dx=some (.xd fs):=by
 have ne:e≠dx:=λz=>by rw[<-z,qd]at h2;cases h2
 refine⟨λb o hb=>?_,?_,qd⟩
 . have b1:b≠e:=qt hb h1
   have b2:b≠dx:=λz=>by rw[<-z,qi b1,hb]at h2;cases h2
   rw[qi b2,qi b1,qi b1];exact hb
 . rw[qi ne];exact qd
def QC (H H':Hp):Prop:=∀b o,H b=some o->(∀φ,o≠.ext φ)->H' b=some o
theorem _root_.L2.Same.keep {H H':Hp} (s:Same H H'):QC H H':=λb o h _=>s b o h
theorem QC.trans {H H' H'':Hp} (a:QC H H') (b:QC H' H''):QC H H'':=λc o h n=>b c o (a c o h n) n
theorem _root_.L2.SqT.keep {K:PySem.W.Frag} {H H':Hp} {p:Addr} {xs:List V} (h:SqT K H p xs) (s:QC H H'):SqT K H' p xs:=by
 rcases h with (h | ⟨o,h⟩) | h
 . exact .inl (.inl (s _ _ h (λ_ z=>nomatch z)))
 . exact .inl (.inr ⟨o,s _ _ h (λ_ z=>nomatch z)⟩)
 . exact .inr h
theorem _root_.L2.SqL.keep {K:PySem.W.Frag} {H H':Hp} {p:Addr} {xs:List V} (h:SqL K H p xs) (s:QC H H'):SqL K H' p xs:=by
 rcases h with (h | ⟨o,h⟩) | h
 . exact .inl (.inl (s _ _ h (λ_ z=>nomatch z)))
 . exact .inl (.inr ⟨o,s _ _ h (λ_ z=>nomatch z)⟩)
 . exact .inr h
theorem qH.tail {H:Hp} {p:Addr} {ps:List Addr} {r:Str×List Str} {rs:JX} (h:qH H (p::ps) (r::rs)):qH H ps rs:=⟨Nat.succ.inj h.1,λi a b e1 e2=>h.2 (i+1) a b (by simpa using e1) (by simpa using e2)⟩
theorem Wl {X:Hp} {l2:Addr} {ps:List Addr} {rs:JX} {CG:Addr} {R:Hp->Prop} (hl:X l2=some (.lst (ps.map V.ref))) (rat:qH X ps rs) (good:jM rs) (pos:0 < rs.length) (le14:rs.length<=14)
   {x dx:Addr} (hx:X x=none) (hdx:X dx=none) (ndx:dx≠x) {E:XK} (k:∀H4,Same X H4->kK CG H4 x rs->R H4):
   Z7 CG [.ref x,.ref l2] (upd (upd X dx (.own x)) x (.ins CG dx [])) (λv H'=>v=.non/\R H') E:=by
 have s3:Same X (upd (upd X dx (.own x)) x (.ins CG dx [])):=λb u hb=>by
   rw[qi (qt hb hx),qi (qt hb hdx)]
   exact hb
 refine⟨x,dx,l2,ps,rs,rfl,⟨s3 _ _ hl,rat.mono s3,good,pos,le14⟩,qd,λH4 gr fr4=>⟨rfl,k H4 (λb u hb=>fr4 b u (s3 _ _ hb) (qt hb hx)) gr⟩⟩
end Rh
set_option Elab.async false
set_option linter.all false
set_option maxRecDepth 100000
set_option maxHeartbeats 4000000
namespace Rh
open PySem L2 PyProof.Rows
mutual
inductive DH (K:PySem.W.Frag) (H:Hp):V->PyData->Prop
 | non:DH K H .non .none
 | bl (b:Bool):DH K H (.bl b) (.bool b)
 | int (i:Int):DH K H (.int i) (.int i)
 | str (x:Str):x.length<=1000->DH K H (.str x) (.str x)
 | lst {a:Addr} {xs:List V} {ds:List PyData}:H a=some (.lst xs)->DVs K H xs ds->DH K H (.ref a) (.list ds)
 | tup {a:Addr} {xs:List V} {ds:List PyData}:H a=some (.tup xs)->xs.length<=100->DHs K H xs ds->DH K H (.ref a) (.tuple ds)
 | dct {a:Addr}:H a=some (.dK [])->DH K H (.ref a) (.dict [])
inductive DHs (K:PySem.W.Frag) (H:Hp):List V->List PyData->Prop
 | nil:DHs K H [] []
 | cons {x:V} {xs:List V} {d:PyData} {ds:List PyData}:DH K H x d->DHs K H xs ds->DHs K H (x::xs) (d::ds)
end
mutual
theorem XL {K:PySem.W.Frag} {H H':Hp} (s:QC H H'):∀{x:V} {d:PyData},DV K H x d->DV K H' x d
 | _,_,.non=>.non
 | _,_,.bl b=>.bl b
 | _,_,.int i=>.int i
 | _,_,.str x=>.str x
 | _,_,.lst q hs=>.lst (q.keep s) (dvs_keepS s hs)
 | _,_,.tup q hs=>.tup (q.keep s) (dvs_keepS s hs)
theorem dvs_keepS {K:PySem.W.Frag} {H H':Hp} (s:QC H H'):∀{xs:List V} {ds:List PyData},DVs K H xs ds->DVs K H' xs ds
 | _,_,.nil=>.nil
 | _,_,.cons h hs=>.cons (XL s h) (dvs_keepS s hs)
end
mutual
theorem DH.keep {K:PySem.W.Frag} {H H':Hp} (s:QC H H'):∀{x:V} {d:PyData},DH K H x d->DH K H' x d
 | _,_,.non=>.non
 | _,_,.bl b=>.bl b
 | _,_,.int i=>.int i
 | _,_,.str x l=>.str x l
 | _,_,.lst q hs=>.lst (s _ _ q (λ_ z=>nomatch z)) (dvs_keepS s hs)
 | _,_,.tup q l hs=>.tup (s _ _ q (λ_ z=>nomatch z)) l (DHs.keep s hs)
 | _,_,.dct q=>.dct (s _ _ q (λ_ z=>nomatch z))
theorem DHs.keep {K:PySem.W.Frag} {H H':Hp} (s:QC H H'):∀{xs:List V} {ds:List PyData},DHs K H xs ds->DHs K H' xs ds
 | _,_,.nil=>.nil
 | _,_,.cons h hs=>.cons (DH.keep s h) (DHs.keep s hs)
end
theorem DHs.len {K:PySem.W.Frag} {H:Hp}:∀{xs:List V} {ds:List PyData},DHs K H xs ds->xs.length=ds.length
 | _,_,.nil=>rfl
 | _,_,.cons _ hs=>congrArg Nat.succ hs.len
theorem DHs.get {K:PySem.W.Frag} {H:Hp}:∀{xs:List V} {ds:List PyData},DHs K H xs ds->∀{i:Nat} {x:V},xs[i]?=some x->∃d,ds[i]?=some d/\DH K H x d
 | _,_,.nil,i,x,e=>by simp at e
 | _,_,.cons h hs,0,x,e=>by
   obtain rfl:_=x:=by simpa using e
   exact⟨_,rfl,h⟩
 | _,_,.cons h hs,i+1,x,e=>by
   obtain⟨d,e2,h2⟩:=hs.get (i:=i) (x:=x) (by simpa using e)
   exact⟨d,by simpa using e2,h2⟩
def xz:PyData->String
 | .none=>"NoneType"
 | .bool _=>"bool"
 | .int _=>"int"
 | .str _=>"str"
 | .list _=>"list"
 | .tuple _=>"tuple"
 | .dict _=>"dict"
theorem DH.ty {K:PySem.W.Frag} {H:Hp} {x:V} {d:PyData} (h:DH K H x d):Zw K H x (.type (xz d)):=by
 cases h with
 | non=>exact .non
 | bl b=>exact .bl b
 | int i=>exact .int i
 | str z _=>exact .str z
 | lst q _=>exact .lst q
 | tup q _ _=>exact .tup q
 | dct q=>exact .dK q
def Gj:PyData->Bool
 | .str _=>true
 | _=>false
def KC:PyData->Bool
 | .tuple _=>true
 | _=>false
def KD:PyData->Bool
 | .list _=>true
 | _=>false
theorem uX {K:PySem.W.Frag} (d:PyData):PySem.W.kitOne K (.type (xz d)) (.type "str")=some (Gj d):=by cases d<;>(unfold xz Gj;dsimp only;kernel_rfl)
theorem xq {K:PySem.W.Frag} (d:PyData):PySem.W.kitOne K (.type (xz d)) (.type "tuple")=some (KC d):=by cases d<;>(unfold xz KC;dsimp only;kernel_rfl)
theorem uY {K:PySem.W.Frag} (d:PyData):PySem.W.kitOne K (.type (xz d)) (.type "list")=some (KD d):=by cases d<;>(unfold xz KD;dsimp only;kernel_rfl)
def QT:PyData->Bool
 | .str z=>qw z
 | _=>false
def VP:PyData->Bool
 | .tuple xs=>xs.all QT
 | _=>false
def z8:PyData->Bool
 | .tuple [a,b]=>QT a&&VP b
 | _=>false
def U5 (K:PySem.W.Frag):Sp:=λvs H Q _=>∃v d,vs=[v]/\DH K H v d/\∀H',Same H H'->Q (.bl (QT d)) H'
def U2 (K:PySem.W.Frag):Sp:=λvs H Q _=>∃v d,vs=[v]/\DH K H v d/\∀H',Same H H'->Q (.bl (VP d)) H'
def Wc (K:PySem.W.Frag):Sp:=λvs H Q _=>∃v d,vs=[v]/\DH K H v d/\∀H',Same H H'->Q (.bl (z8 d)) H'
section
variable {P:Program} {w:World} {K:PySem.W.Frag} {mg:Str->Option Value} {base:Heap}
theorem XA {f:Addr} {fd:FuncData} (F:Ql K "is_name" "is_name" Jl f fd) (B:Zg mg) (T:Jx K mg):qz P w K mg base jc 1 f fd ["thing"] (U5 K):=by
 refine F.okJ vf (λvs H Q E h=>?_) (λcdv A outer s H vs Q E hr h=>?_)
 . obtain⟨v,d,rfl,_⟩:=h
   rfl
 . obtain⟨v,d,rfl,hd,q⟩:=h
   obtain⟨tl,hlets⟩:=T.lets
   obtain⟨tg,hlg⟩:=T.lgst
   refine⟨_,qh (qR (Js (QK (ql jt (by rfl) T.isi boot_isinstance (qb (jv 0) (qb (Qn (v:=.ty "str") (by rfl) T.str boot_str rfl) qf))))) (qk (qL je)) qD)
     (qh (qR (Jr (qu jY (ql j6 (by rfl) B.len boot_len (qb (jv 0) qf)) qj (qC _))
         (Qs (qu JZ (ql j6 (by rfl) B.len boot_len (qb (jv 0) qf)) (jg (v:=.int 8) (by rfl) hlg ⟨_,rfl⟩) (qC _)))).pt (qk (qL je)) qD)
     (qk (qL (ql (JP rfl) (by rfl) T.all boot_all (qb (QS (N':=["sign"]) (ix:=[none]) rfl ⟨rfl,rfl,rfl,rfl,rfl⟩ (vV (jv 0)) (λC s2 H2 fp pins=>
       ⟨qr (i:=0) (Vj _) rfl (Or.inl rfl),jr,Zo Yj (jv 0) (jg (v:=.str WH) (by rfl) hlets ⟨_,rfl⟩) (by with_unfolding_all rfl)⟩)) qf))))),?_⟩
   refine⟨_,rfl,_,_,_,_,rfl,rfl,hd.ty,uX d,_,rfl,?_⟩
   cases c:Gj d with
   | false=>
     refine Jb ?_
     have e:QT d=false:=by cases d<;>first | rfl | cases c
     rw[e]at q
     exact q H (Same.refl _)
   | true=>
     refine jL ?_
     cases hd with
     | str z hz=>
       have hz':z.length<=sizeLine:=Nat.le_of_lt (qp hz)
       have q:∀H',Same H H'->Q (.bl (qw z)) H':=q
       refine⟨_,rfl,z,rfl,hz',_,_,rfl,rfl,_,rfl,?_⟩
       refine QL (λh=>?_) (λh=>?_)
       . have:z.length < 1:=by have:=of_decide_eq_true h;omega
         have e:qw z=false:=by
           unfold qw
           rw[decide_eq_false (by omega:¬1<=z.length)]
           rfl
         rw[e]at q
         exact q H (Same.refl _)
       . have n1:1<=z.length:=by
           have:¬(z.length:Int) < 1:=λy=>h (decide_eq_true y)
           omega
         refine⟨_,rfl,z,rfl,hz',_,_,rfl,rfl,_,rfl,?_⟩
         refine QL (λh2=>?_) (λh2=>?_)
         . have:8 < z.length:=by have:(8:Int) < (z.length:Int):=of_decide_eq_true h2;omega
           have e:qw z=false:=by
             unfold qw
             rw[decide_eq_false (by omega:¬z.length<=8),Bool.and_false]
             rfl
           rw[e]at q
           exact q H (Same.refl _)
         . have n8:z.length<=8:=by
             have:¬(8:Int) < (z.length:Int):=λy=>h2 (decide_eq_true y)
             omega
           refine⟨_,rfl,z,rfl,λD hD=>?_⟩
           refine VE (λi σ' H'=>∃v,σ'=[v]/\H'=upd H D (.lst (((z.cps.toList.take i).map jq).map V.bl))) ⟨none,rfl,rfl⟩ ?_ ?_
           . rintro i c σ' H' hc ⟨v,rfl,rfl⟩
             refine⟨_,rfl,_,_,rfl,rfl,_,qd,?_,?_⟩
             . rw[List.length_map,List.length_map,List.length_take]
               exact Nat.lt_of_le_of_lt (Nat.min_le_right _ _) (qp (show z.cps.toList.length<=1000 by rw[Array.length_toList];exact Nat.le_trans n8 (by decide)))
             . refine⟨_,rfl,?_⟩
               rw[qY,ki]
               have hc':z.cps.toList[i]?=some c:=by simpa using hc
               rw[<-XT jq z.cps.toList i c hc',List.map_append]
               rfl
           . rintro σ' H' ⟨v,rfl,rfl⟩
             refine⟨D,_,rfl,.of qd,?_⟩
             have e0:z.cps.toList.take z.cps.size=z.cps.toList:=List.take_of_length_le (by simp)
             have e1:(z.cps.toList.map jq).all id=qw z:=by
               unfold qw
               rw[List.all_map,decide_eq_true n1,decide_eq_true n8]
               simp [Function.comp_def]
             rw[e0,e1]
             exact q _ (qg hD)
     | _=>cases c
theorem yk {f fN:Addr} {fd fdN:FuncData} (F:Ql K "is_tuple_of_names" "is_tuple_of_names" Zk f fd) (B:Zg mg) (G:QA mg) (T:Jx K mg) (hN:jR K mg "is_name" Jl ["thing"] fN fdN):qz P w K mg base jc 2 f fd ["thing"] (U2 K):=by
 have GN:qz P w K mg base jc 1 fN fdN ["thing"] (U5 K):=XA hN.fn B T
 refine F.okJ vc (λvs H Q E h=>?_) (λcdv A outer s H vs Q E hr h=>?_)
 . obtain⟨v,d,rfl,_⟩:=h
   rfl
 . obtain⟨v,d,rfl,hd,q⟩:=h
   refine⟨_,qk (qL (Ju (ql jt (by rfl) T.isi boot_isinstance (qb (jv 0) (qb (Qn (v:=.ty "tuple") (by rfl) G.tup boot_tuple rfl) qf)))
     (Jt (ql (JP rfl) (by rfl) T.all boot_all (qb (QS (N':=["part"]) (ix:=[none]) rfl ⟨rfl,rfl,rfl,rfl,rfl⟩ (zL (jv 0)) (λC s2 H2 fp pins=>
       ⟨qr (i:=0) (Vj _) rfl (Or.inl rfl),jr,qS hN GN hr (by rfl) (qb (jv 0) qf)⟩)) qf))))),?_⟩
   refine⟨_,rfl,_,_,_,_,rfl,rfl,hd.ty,xq d,_,rfl,?_⟩
   cases c:KC d with
   | false=>
     refine jL ?_
     have e:VP d=false:=by cases d<;>first | rfl | cases c
     rw[e]at q
     exact q H (Same.refl _)
   | true=>
     refine Jb ?_
     cases hd with
     | @tup x xs ds hx hl hs=>
       have q:∀H',Same H H'->Q (.bl (ds.all QT)) H':=q
       have ll:=hs.len
       refine⟨_,rfl,x,rfl,⟨_,.of hx⟩,λD hD=>?_⟩
       refine Y0 (K:=K) (a:=x) (xs:=xs) (λi σ' H'=>∃v,σ'=[v]/\Same H H'/\H' D=some (.lst (((ds.take i).map QT).map V.bl))) ⟨none,rfl,qg hD,qd⟩ (λi σ' H' _ ⟨_,_,s,_⟩=>.of (s _ _ hx)) ?_ ?_
       . rintro i y σ' H' hy ⟨v,rfl,s1,hD1⟩
         obtain⟨d,ed,hd⟩:=hs.get hy
         have hi:=(List.getElem?_eq_some_iff.mp ed).1
         refine⟨_,rfl,y,d,rfl,hd.keep s1.keep,λH2 s2=>⟨_,s2 _ _ hD1,?_,_,rfl,Same.upd (s1.trans s2) hD,?_⟩⟩
         . rw[List.length_map,List.length_map,List.length_take]
           exact qp (by omega)
         . rw[qd,List.take_add_one,ed,List.map_append,List.map_append]
           rfl
       . rintro σ' H' ⟨v,rfl,s1,hD1⟩
         rw[ll,List.take_of_length_le (Nat.le_refl _)]at hD1
         refine⟨D,_,rfl,.of hD1,?_⟩
         rw[List.all_map]
         exact q _ s1
     | _=>cases c
theorem yn {f fN fP:Addr} {fd fdN fdP:FuncData} (F:Ql K "is_row" "is_row" Za f fd) (B:Zg mg) (G:QA mg) (T:Jx K mg) (hN:jR K mg "is_name" Jl ["thing"] fN fdN) (hP:jR K mg "is_tuple_of_names" Zk ["thing"] fP fdP):qz P w K mg base jc 3 f fd ["thing"] (Wc K):=by
 have GN:qz P w K mg base jc 1 fN fdN ["thing"] (U5 K):=XA hN.fn B T
 have GP:qz P w K mg base jc 2 fP fdP ["thing"] (U2 K):=yk hP.fn B G T hN
 refine F.okJ W2 (λvs H Q E h=>?_) (λcdv A outer s H vs Q E hr h=>?_)
 . obtain⟨v,d,rfl,_⟩:=h
   rfl
 . obtain⟨v,d,rfl,hd,q⟩:=h
   refine⟨_,qh (qR (Jr (Js (QK (ql jt (by rfl) T.isi boot_isinstance (qb (jv 0) (qb (Qn (v:=.ty "tuple") (by rfl) G.tup boot_tuple rfl) qf)))))
       (Qs (qu zE (ql qy (by rfl) B.len boot_len (qb (jv 0) qf)) qj (qC _)))).pt (qk (qL je)) qD)
     (qk (qL (Ju (qS hN GN (hr.mono (by decide)) (by rfl) (qb (qP j2 (jv 0) qj (λ_ _=>rfl)) qf)) (Jt (qS hP GP hr (by rfl) (qb (qP j2 (jv 0) qj (λ_ _=>rfl)) qf)))))),?_⟩
   refine⟨_,rfl,_,_,_,_,rfl,rfl,hd.ty,xq d,_,rfl,?_⟩
   cases c:KC d with
   | false=>
     refine Jb ?_
     have e:z8 d=false:=by cases d<;>first | rfl | cases c
     rw[e]at q
     exact q H (Same.refl _)
   | true=>
     refine jL ?_
     cases hd with
     | @tup p xs ds hp hl hs=>
       have ll:=hs.len
       refine⟨_,rfl,p,_,rfl,.inr (.of hp),rfl,_,rfl,?_⟩
       by_cases c2:xs.length=2
       . refine jw (by rw[c2];rfl) ?_
         match xs,ds,hs,c2 with
         | [x0,x1],[d0,d1],.cons h0 (.cons h1 .nil),_=>
           refine⟨_,rfl,p,_,0,_,rfl,rfl,.of hp,rfl,x0,d0,rfl,h0,λH1 s1=>⟨_,rfl,?_⟩⟩
           have q:∀H',Same H H'->Q (.bl (QT d0&&VP d1)) H':=q
           cases c0:QT d0 with
           | false=>
             rw[c0]at q
             exact jL (q H1 s1)
           | true=>
             rw[c0]at q
             exact Jb ⟨_,rfl,p,_,1,_,rfl,rfl,.of (s1 _ _ hp),rfl,x1,d1,rfl,h1.keep s1.keep,λH2 s2=>q H2 (s1.trans s2)⟩
       . refine Qd (by simp only[Bool.not_eq_true',decide_eq_false_iff_not];intro z;have:=V.int.inj z;omega) ?_
         have e:z8 (.tuple ds)=false:=by
           match ds,ll with
           | [],_=>rfl
           | [_],_=>rfl
           | [_,_],l=>exact absurd l c2
           | _::_::_::_,_=>rfl
         rw[e]at q
         exact q H (Same.refl _)
     | _=>cases c
end
end Rh
set_option Elab.async false
set_option linter.all false
set_option maxRecDepth 100000
set_option maxHeartbeats 4000000
namespace Rh
open PySem L2 PyProof.Rows
abbrev kW (C:Addr) (sp:Sp) (E:XK) (t:TA):TE:=λσ H Q=>t σ H λvs H1=>vs.length<=sizeLine/\∀x,H1 x=none->sp (.ref x::vs) (upd H1 x (JR x C)) (λv H2=>v=.non/\Q (.ref x) H2) E
inductive JQ where
 | ground (n:Nat) | many (n:Nat) | twice (z:Str) | place (z:Str)
structure C4 where
 g:Addr
 m:Addr
 t:Addr
 p:Addr
def JQ.cls (c:C4):JQ->Addr
 | .ground _=>c.g
 | .many _=>c.m
 | .twice _=>c.t
 | .place _=>c.p
def JQ.fld:JQ->Str
 | .ground _=>Str.ofString "row"
 | _=>Str.ofString "found"
def JQ.val:JQ->V
 | .ground n=>.int (n:Nat)
 | .many n=>.int (n:Nat)
 | .twice z=>.str z
 | .place z=>.str z
def zY (c:C4) (E:XK) (H:Hp) (r:JQ):Prop:=∀Hx dx,Same H Hx->Hx dx=some (.xd [(r.fld,r.val)])->E (.ref (r.cls c)) (some dx) Hx
theorem zY.mono {c:C4} {E:XK} {H H':Hp} {r:JQ} (h:zY c E H r) (s:Same H H'):zY c E H' r:=λHx dx s2 hd=>h Hx dx (s.trans s2) hd
structure yT (K:PySem.W.Frag) (mg:Str->Option Value) (D:Addr) (c:C4):Prop where
 g:∃f fd,X0 K mg D "NoGround" "NoGround.__init__" QP "row" c.g f fd
 m:∃f fd,X0 K mg D "TooMany" "TooMany.__init__" Jj "found" c.m f fd
 t:∃f fd,X0 K mg D "Twice" "Twice.__init__" zv "found" c.t f fd
 p:∃f fd,X0 K mg D "NoPlace" "NoPlace.__init__" Jk "found" c.p f fd
def Xa (K:PySem.W.Frag) (H:Hp) (y:V):Prop:=∃d,DH K H y d/\z8 d=true
def YF (K:PySem.W.Frag) (c:C4):Sp:=λvs H Q E=>∃v,vs=[v]/\
 ((∃d,DH K H v d/\KD d=false/\zY c E H (.ground 0))\/(∃l,v=.ref l/\H l=some (.lst [])/\zY c E H (.ground 0))\/
  (∃l xs,v=.ref l/\H l=some (.lst xs)/\14 < xs.length/\xs.length<=1000/\zY c E H (.many xs.length))\/
  (∃(l:Addr) (xs:List V) (i:Nat) (x:V) (d:PyData),v=.ref l/\H l=some (.lst xs)/\xs.length<=14/\xs[i]?=some x/\DH K H x d/\z8 d=false/\(∀(j:Nat) (y:V),j < i->xs[j]?=some y->Xa K H y)/\zY c E H (.ground i))\/
  (∃l xs,v=.ref l/\H l=some (.lst xs)/\0 < xs.length/\xs.length<=14/\(∀(j:Nat) (y:V),xs[j]?=some y->Xa K H y)/\∀H',Same H H'->Q .non H'))
def U4 (c:C4):Sp:=λvs H Q E=>∃(l:Addr) (zs:List Str),vs=[.ref l]/\H l=some (.lst (zs.map V.str))/\zs.length<=1000/\
 ((zs.Nodup/\∀H',Same H H'->Q .non H')\/∃i z,zs[i]?=some z/\z∈zs.take i/\(zs.take i).Nodup/\zY c E H (.twice z))
def YG (c:C4):Sp:=λvs H Q E=>∃(q l:Addr) (es zs:List Str),vs=[.ref q,.ref l]/\H q=some (.tup (es.map V.str))/\H l=some (.lst (zs.map V.str))/\es.length<=900/\
 ((es.Nodup/\(∀z∈es,z∈zs)/\∀H',Same H H'->Q .non H')\/∃i z,es[i]?=some z/\(es.take i).Nodup/\(∀y∈es.take i,y∈zs)/\((z∉zs/\zY c E H (.place z))\/(z∈zs/\z∈es.take i/\zY c E H (.twice z))))
theorem Vf {zs:List Str} {i:Nat} {z:Str} (h:(zs.take (i+1)).Nodup) (e:zs[i]?=some z):z∉zs.take i:=by
 rw[List.take_add_one,e]at h
 exact λm=>(List.nodup_append.mp h).2.2 z m z (by simp) rfl
theorem Vi {zs:List Str} {i j:Nat} (h:(zs.take j).Nodup) (l:i<=j):(zs.take i).Nodup:=by
 have:zs.take i=(zs.take j).take i:=by rw[List.take_take,Nat.min_eq_left l]
 rw[this]
 exact h.sublist (List.take_sublist _ _)
theorem Vl {zs:List Str} {i:Nat} {z:Str} {H':Hp} {D:Addr} {kvs:List (qW×V)} (hz:zs.length<=1000) (e:zs[i]?=some z) (hD1:H' D=some (.dK kvs)) (ek:kvs.map (·.1)=(zs.take i).map Sum.inr):
   Je H' D (.str z) (jz kvs (Sum.inr z:qW))/\kvs.length < sizeLine/\(z∉zs.take i->jz kvs (Sum.inr z:qW)=none)/\(z∈zs.take i->(jz kvs (Sum.inr z:qW)).isSome=true):=by
 refine⟨Je.k (k:=(Sum.inr z:qW)) hD1,?_,λn=>Zh (by rw[ek];exact λm=>by obtain⟨y,hy,ey⟩:=List.mem_map.mp m;exact n (by rw[<-Sum.inr.inj ey];exact hy)),λm=>?_⟩
 . have:=congrArg List.length ek
   have hi:=(List.getElem?_eq_some_iff.mp e).1
   rw[List.length_map,List.length_map,List.length_take]at this
   exact qp (by omega)
 . rw[<-Qp,List.any_eq_true]
   have:(Sum.inr z:qW)∈kvs.map (·.1):=by rw[ek];exact List.mem_map.mpr ⟨z,m,rfl⟩
   obtain⟨kv,hkv,e2⟩:=List.mem_map.mp this
   exact⟨kv,hkv,decide_eq_true e2⟩
section
variable {P:Program} {w:World} {K:PySem.W.Frag} {mg:Str->Option Value} {base:Heap}
theorem KW:qK ["self","row"] ["self","row"] (qv QP):=⟨rfl,rfl,rfl,by decide+kernel,rfl,by decide+kernel,by decide+kernel⟩
theorem KU:qK ["self","found"] ["self","found"] (qv Jj):=⟨rfl,rfl,rfl,by decide+kernel,rfl,by decide+kernel,by decide+kernel⟩
theorem KR:qK ["self","found"] ["self","found"] (qv zv):=⟨rfl,rfl,rfl,by decide+kernel,rfl,by decide+kernel,by decide+kernel⟩
theorem KS:qK ["self","found"] ["self","found"] (qv Jk):=⟨rfl,rfl,rfl,by decide+kernel,rfl,by decide+kernel,by decide+kernel⟩
theorem K5 {D C f:Addr} {fd:FuncData} (x:X0 K mg D "NoGround" "NoGround.__init__" QP "row" C f fd):qz P w K mg base jc 1 f fd ["self","row"] (XY C "row"):=by
 refine x.fn.okJ KW (λvs H Q E h=>?_) (λcdv A outer s H vs Q E hr h=>?_)
 . obtain⟨e,y,rfl,_⟩:=h
   rfl
 . obtain⟨e,y,rfl,hH,k⟩:=h
   exact⟨_,qk (YO (bm:=.ref D::qT) (jv 0) (jv 1) rfl),_,rfl,_,rfl,e,C,rfl,hH,x.cls,yf D,x.na,λdx hdx=>k dx hdx⟩
theorem uM {D C f:Addr} {fd:FuncData} (x:X0 K mg D "TooMany" "TooMany.__init__" Jj "found" C f fd):qz P w K mg base jc 1 f fd ["self","found"] (XY C "found"):=by
 refine x.fn.okJ KU (λvs H Q E h=>?_) (λcdv A outer s H vs Q E hr h=>?_)
 . obtain⟨e,y,rfl,_⟩:=h
   rfl
 . obtain⟨e,y,rfl,hH,k⟩:=h
   exact⟨_,qk (YO (bm:=.ref D::qT) (jv 0) (jv 1) rfl),_,rfl,_,rfl,e,C,rfl,hH,x.cls,yf D,x.na,λdx hdx=>k dx hdx⟩
theorem uL {D C f:Addr} {fd:FuncData} (x:X0 K mg D "Twice" "Twice.__init__" zv "found" C f fd):qz P w K mg base jc 1 f fd ["self","found"] (XY C "found"):=by
 refine x.fn.okJ KR (λvs H Q E h=>?_) (λcdv A outer s H vs Q E hr h=>?_)
 . obtain⟨e,y,rfl,_⟩:=h
   rfl
 . obtain⟨e,y,rfl,hH,k⟩:=h
   exact⟨_,qk (YO (bm:=.ref D::qT) (jv 0) (jv 1) rfl),_,rfl,_,rfl,e,C,rfl,hH,x.cls,yf D,x.na,λdx hdx=>k dx hdx⟩
theorem K4 {D C f:Addr} {fd:FuncData} (x:X0 K mg D "NoPlace" "NoPlace.__init__" Jk "found" C f fd):qz P w K mg base jc 1 f fd ["self","found"] (XY C "found"):=by
 refine x.fn.okJ KS (λvs H Q E h=>?_) (λcdv A outer s H vs Q E hr h=>?_)
 . obtain⟨e,y,rfl,_⟩:=h
   rfl
 . obtain⟨e,y,rfl,hH,k⟩:=h
   exact⟨_,qk (YO (bm:=.ref D::qT) (jv 0) (jv 1) rfl),_,rfl,_,rfl,e,C,rfl,hH,x.cls,yf D,x.na,λdx hdx=>k dx hdx⟩
theorem j8 {c:C4} {E:XK} {H:Hp} (r:JQ) {C D f:Addr} {fd:FuncData} {nm qn:Str} {st:Stmt} (x:X0 K mg D nm qn st r.fld (r.cls c) f fd) (o:zY c E H r):
   ∀e,H e=none->XY (r.cls c) r.fld [.ref e,r.val] (upd H e (JR e (r.cls c))) (λv H2=>v=.non/\∃a C dx,V.ref e=.ref a/\H2 a=some (QB a C dx)/\XV K C/\E (.ref C) (some dx) H2) E0:=λe he=>by
 refine⟨e,_,rfl,qd,λdx hdx=>⟨rfl,e,r.cls c,dx,rfl,(Vk he hdx).2.1,x.rcls,?_⟩⟩
 obtain⟨m1,m2,m3⟩:=Vk (fs:=[(r.fld,r.val)]) he hdx
 exact o _ dx m1 m3
theorem vK {f D fN fP fR:Addr} {c:C4} {fd fdN fdP fdR:FuncData} (F:Ql K "need_form" "need_form" Xs f fd) (B:Zg mg) (G:QA mg) (T:Jx K mg) (hN:jR K mg "is_name" Jl ["thing"] fN fdN) (hP:jR K mg "is_tuple_of_names" Zk ["thing"] fP fdP)
   (hR:jR K mg "is_row" Za ["thing"] fR fdR) (X4:yT K mg D c):qz P w K mg base (QY P w) 4 f fd ["rows"] (YF K c):=by
 have GR:qz P w K mg base jc 3 fR fdR ["thing"] (Wc K):=yn hR.fn B G T hN hP
 obtain⟨tm,hmp⟩:=T.mp
 obtain⟨fg,fdg,xg⟩:=X4.g
 obtain⟨fm,fdm,xm⟩:=X4.m
 have Gg:qz P w K mg base jc 1 fg fdg ["self","row"] (XY c.g "row"):=K5 xg
 have Gm:qz P w K mg base jc 1 fm fdm ["self","found"] (XY c.m "found"):=uM xm
 refine F.okX ZB (λvs H Q E h=>?_) (λcdv A outer s H vs Q E hr h=>?_)
 . obtain⟨v,rfl,_⟩:=h
   rfl
 . obtain⟨v,rfl,h⟩:=h
   have r2:q5 2 _:=hr.mono (by decide)
   refine⟨_,qh (qR (Jr (Js (QK (ql jt (by rfl) T.isi boot_isinstance (qb (jv 0) (qb (Qn (v:=.ty "list") (by rfl) G.lst boot_list rfl) qf)))))
       (Qs (qu jU (ql qy (by rfl) B.len boot_len (qb (jv 0) qf)) qj (qC _)))).pt (qk (Qu rfl JB (Qv xg.mkr Gg r2 (by rfl) xg.ns xg.bi Zm (qb qj qf)))) qD)
     (qh (qR (qu JZ (ql qy (by rfl) B.len boot_len (qb (jv 0) qf)) (jg (v:=.int 14) (by rfl) hmp ⟨_,rfl⟩) (qC _)) (qk (Qu rfl JB (Qv xm.mkr Gm r2 (by rfl) xm.ns xm.bi Zm (qb (ql qy (by rfl) B.len boot_len (qb (jv 0) qf)) qf)))) qD)
     (qk (zf (t:=UW (xu K (jd (qZ 0) Qh)) (ko K 2 (Zp (jH 1) (Zp (jH 2) kq))) (Xk (wX (tB (Xl (Wc K) [] E0 (jd (qZ 2) Qh)))) (zw K E (kW c.g (XY c.g "row") E0 (jd (qZ 1) Qh))) ZP)) λpn W hO hP hR'=>
       jQ hO rfl (Vm (by rfl) T.enu (qb (jv 0) qf)) (Q9 rfl (qF (qr (i:=1) ZB.nd rfl (Or.inl rfl)) (qF (qr (i:=2) ZB.nd rfl (Or.inl rfl)) js)))
       (qk (qR (Js (QK (qS hR GR hr (by rfl) (qb (jv 2) qf)))) (qk (Qu rfl hR' (Qv xg.mkr Gg r2 (by rfl) xg.ns xg.bi Zm (qb (jv 1) qf)))) qD))))),?_⟩
   have g0:∀{H':Hp},zY c E H' (.ground 0)->∀e,H' e=none->XY c.g "row" [.ref e,.int 0] (upd H' e (JR e c.g)) (λv H2=>v=.non/\∃a C dx,V.ref e=.ref a/\H2 a=some (QB a C dx)/\XV K C/\E (.ref C) (some dx) H2) E0:=λo=>j8 (C:=c.g) (.ground 0) xg o
   rcases h with ⟨d,hd,nl,o⟩ | ⟨l,rfl,hl,o⟩ | ⟨l,xs,rfl,hl,big,sm,o⟩ | ⟨l,xs,i0,x0,d0,rfl,hl,le,e0,hd0,bad,pre,o⟩ | ⟨l,xs,rfl,hl,pos,le,all,q⟩
   . refine⟨_,rfl,_,_,_,_,rfl,rfl,hd.ty,uY d,_,rfl,?_⟩
     rw[nl]
     exact Jb ⟨by show 1<=sizeLine;decide,g0 o⟩
   . refine⟨_,rfl,_,_,_,_,rfl,rfl,.lst hl,T.kll,_,rfl,jL ⟨_,rfl,l,_,rfl,.inl (.of hl),rfl,_,rfl,?_⟩⟩
     exact Qd (decide_eq_true rfl) ⟨by show 1<=sizeLine;decide,g0 o⟩
   . refine⟨_,rfl,_,_,_,_,rfl,rfl,.lst hl,T.kll,_,rfl,jL ⟨_,rfl,l,_,rfl,.inl (.of hl),rfl,_,rfl,?_⟩⟩
     refine jw (decide_eq_false λz=>by have:=V.int.inj z;omega) ⟨_,rfl,l,_,rfl,.inl (.of hl),_,_,rfl,rfl,_,rfl,Qd (decide_eq_true (by show (14:Int) < _;omega)) ?_⟩
     exact⟨_,rfl,l,_,rfl,.inl (.of hl),by show 1<=sizeLine;decide,j8 (C:=c.m) (.many xs.length) xm o⟩
   all_goals
     refine⟨_,rfl,_,_,_,_,rfl,rfl,.lst hl,T.kll,_,rfl,jL ⟨_,rfl,l,_,rfl,.inl (.of hl),rfl,_,rfl,?_⟩⟩
     refine jw (decide_eq_false λz=>by have:=V.int.inj z;first | omega | (have:=(List.getElem?_eq_some_iff.mp e0).1;omega)) ⟨_,rfl,l,_,rfl,.inl (.of hl),_,_,rfl,rfl,_,rfl,jw (decide_eq_false (by show ¬(14:Int) < _;omega)) ⟨_,rfl,l,rfl,⟨_,.of hl⟩,?_⟩⟩
   . refine zQ (K:=K) (a:=l) (xs:=xs) (λi σ' H'=>(∃v1 v2,σ'=[some (.ref l),v1,v2])/\Same H H'/\i<=i0) ⟨⟨none,none,rfl⟩,Same.refl H,Nat.zero_le _⟩ (λi σ' H' _ ⟨_,s,_⟩=>.of (s _ _ hl)) ?_ ?_
     . rintro i x σ' H' p hx hp ⟨⟨v1,v2,rfl⟩,s1,hi⟩
       have s2:=s1.trans (qg (o:=.tup [.int (i:Nat),x]) hp)
       refine⟨p,_,rfl,.of qd,rfl,_,_,rfl,_,_,rfl,rfl,_,rfl,?_⟩
       rcases Nat.lt_or_ge i i0 with c0 | c0
       . obtain⟨d,hd,gd⟩:=pre i x c0 hx
         refine⟨x,d,rfl,hd.keep s2.keep,λH2 s3=>⟨_,rfl,?_⟩⟩
         rw[gd]
         exact jL ⟨⟨_,_,rfl⟩,s2.trans s3,c0⟩
       . have ei:i=i0:=by omega
         subst ei
         rw[hx]at e0
         obtain rfl:=Option.some.inj e0
         refine⟨x,d0,rfl,hd0.keep s2.keep,λH2 s3=>⟨_,rfl,?_⟩⟩
         rw[bad]
         exact Jb ⟨_,rfl,by show 1<=sizeLine;decide,j8 (C:=c.g) (.ground i) xg (o.mono (s2.trans s3))⟩
     . rintro σ' H' ⟨_,_,hi⟩
       have:=(List.getElem?_eq_some_iff.mp e0).1
       omega
   . refine zQ (K:=K) (a:=l) (xs:=xs) (λi σ' H'=>(∃v1 v2,σ'=[some (.ref l),v1,v2])/\Same H H') ⟨⟨none,none,rfl⟩,Same.refl H⟩ (λi σ' H' _ ⟨_,s⟩=>.of (s _ _ hl)) ?_ ?_
     . rintro i x σ' H' p hx hp ⟨⟨v1,v2,rfl⟩,s1⟩
       have s2:=s1.trans (qg (o:=.tup [.int (i:Nat),x]) hp)
       refine⟨p,_,rfl,.of qd,rfl,_,_,rfl,_,_,rfl,rfl,_,rfl,?_⟩
       obtain⟨d,hd,gd⟩:=all i x hx
       refine⟨x,d,rfl,hd.keep s2.keep,λH2 s3=>⟨_,rfl,?_⟩⟩
       rw[gd]
       exact jL ⟨⟨_,_,rfl⟩,s2.trans s3⟩
     . rintro σ' H' ⟨_,s1⟩
       exact q H' s1
theorem yo {f D:Addr} {c:C4} {fd:FuncData} (F:Ql K "need_own_names" "need_own_names" vh f fd) (X4:yT K mg D c):qz P w K mg base (QY P w) 3 f fd ["order"] (U4 c):=by
 obtain⟨ft,fdt,xt⟩:=X4.t
 have Gt:qz P w K mg base jc 1 ft fdt ["self","found"] (XY c.t "found"):=uL xt
 refine F.okX Yg (λvs H Q E h=>?_) (λcdv A outer s H vs Q E hr h=>?_)
 . obtain⟨l,zs,rfl,_⟩:=h
   rfl
 . obtain⟨l,zs,rfl,hl,hz,h⟩:=h
   have hu:=zO hr
   refine⟨_,qh (qB (i:=1) Yg.nd rfl (Or.inl rfl) Qw)
     (qk (zf (t:=UW (Vq K (qZ 0)) (jH 2) (VR (Xk (tB (xD (qZ 2) (qZ 1))) (zw K E (kW c.t (XY c.t "found") E0 (jd (qZ 2) Qh))) ZP) (W5 (qZ 1) (qZ 2) (tC (.bl true))))) λpn W hO hP hR'=>
       jQ hO rfl (jf (jv 0)) (qr (i:=2) Yg.nd rfl (Or.inl rfl))
       (qh (qR (YN (YQ hu (jv 2) (jv 1))) (qk (Qu rfl hR' (Qv xt.mkr Gt hr (by rfl) xt.ns xt.bi Zm (qb (jv 2) qf)))) qD) (qk (jO hu (jv 1) (jv 2) je rfl))))),?_⟩
   intro D hD
   refine⟨_,rfl,l,rfl,⟨_,.of (qm hl hD)⟩,?_⟩
   rcases h with ⟨hn,q⟩ | ⟨i0,z0,e0,m0,nd0,o⟩
   . refine j3 (K:=K) (a:=l) (xs:=zs.map V.str) (λi σ' H'=>∃v kvs,σ'=[some (.ref l),some (.ref D),v]/\Same H H'/\H' D=some (.dK kvs)/\kvs.map (·.1)=(zs.take i).map Sum.inr) ⟨none,[],rfl,qg hD,qd,rfl⟩ (λi σ' H' _ ⟨_,_,_,s,_⟩=>.of (s _ _ hl)) ?_ ?_
     . rintro i x σ' H' hx ⟨v,kvs,rfl,s1,hD1,ek⟩
       obtain⟨z,e,hz',rfl⟩:=QZ hx
       obtain⟨dg,lk,n1,_⟩:=Vl (by omega) e hD1 ek
       have ez:=n1 (Vf (hn.sublist (List.take_sublist _ _)) e)
       rw[ez]at dg
       refine⟨_,rfl,_,rfl,D,none,rfl,dg,_,rfl,jL ?_⟩
       refine⟨_,rfl,_,rfl,D,_,rfl,Ji.k (k:=(Sum.inr z:qW)) hD1 lk,_,_,rfl,Same.upd s1 hD,qd,?_⟩
       rw[Q2 _ ez,ek,List.take_add_one,e,List.map_append]
       rfl
     . rintro σ' H' ⟨v,kvs,rfl,s1,_⟩
       exact q H' s1
   . refine j3 (K:=K) (a:=l) (xs:=zs.map V.str) (λi σ' H'=>(∃v kvs,σ'=[some (.ref l),some (.ref D),v]/\Same H H'/\H' D=some (.dK kvs)/\kvs.map (·.1)=(zs.take i).map Sum.inr)/\i<=i0) ⟨⟨none,[],rfl,qg hD,qd,rfl⟩,Nat.zero_le _⟩ (λi σ' H' _ ⟨⟨_,_,_,s,_⟩,_⟩=>.of (s _ _ hl)) ?_ ?_
     . rintro i x σ' H' hx ⟨⟨v,kvs,rfl,s1,hD1,ek⟩,hi⟩
       obtain⟨z,e,hz',rfl⟩:=QZ hx
       obtain⟨dg,lk,n1,n2⟩:=Vl (by omega) e hD1 ek
       rcases Nat.lt_or_ge i i0 with c0 | c0
       . have ez:=n1 (Vf (Vi nd0 c0) e)
         rw[ez]at dg
         refine⟨_,rfl,_,rfl,D,none,rfl,dg,_,rfl,jL ?_⟩
         refine⟨_,rfl,_,rfl,D,_,rfl,Ji.k (k:=(Sum.inr z:qW)) hD1 lk,⟨_,_,rfl,Same.upd s1 hD,qd,?_⟩,c0⟩
         rw[Q2 _ ez,ek,List.take_add_one,e,List.map_append]
         rfl
       . have ei:i=i0:=by omega
         subst ei
         rw[e]at e0
         obtain rfl:=Option.some.inj e0
         refine⟨_,rfl,_,rfl,D,_,rfl,dg,_,rfl,Qd (n2 m0) ?_⟩
         exact⟨_,rfl,by show 1<=sizeLine;decide,j8 (C:=c.t) (.twice z) xt (o.mono s1)⟩
     . rintro σ' H' ⟨_,hi⟩
       have:=(List.getElem?_eq_some_iff.mp e0).1
       rw[List.length_map]at hi
       omega
theorem vL {f D:Addr} {c:C4} {fd:FuncData} (F:Ql K "need_ends" "need_ends" Xt f fd) (X4:yT K mg D c):qz P w K mg base (QY P w) 3 f fd ["ends","order"] (YG c):=by
 obtain⟨ft,fdt,xt⟩:=X4.t
 obtain⟨fp,fdp,xp⟩:=X4.p
 have Gt:qz P w K mg base jc 1 ft fdt ["self","found"] (XY c.t "found"):=uL xt
 have Gp:qz P w K mg base jc 1 fp fdp ["self","found"] (XY c.p "found"):=K4 xp
 refine F.okX ZC (λvs H Q E h=>?_) (λcdv A outer s H vs Q E hr h=>?_)
 . obtain⟨x,l,es,zs,rfl,_⟩:=h
   rfl
 . obtain⟨x,l,es,zs,rfl,hx,hl,hz,h⟩:=h
   have hu:=zO hr
   refine⟨_,qh (qB (i:=2) ZC.nd rfl (Or.inl rfl) Qw)
     (qk (zf (t:=UW (Kb K (qZ 0)) (jH 3) (VR (Xk (Ye (YD (uy K true) (qZ 3) (qZ 1))) (zw K E (kW c.p (XY c.p "found") E0 (jd (qZ 3) Qh))) ZP) (VR (Xk (tB (xD (qZ 3) (qZ 2))) (zw K E (kW c.t (XY c.t "found") E0 (jd (qZ 3) Qh))) ZP) (W5 (qZ 2) (qZ 3) (tC (.bl true)))))) λpn W hO hP hR'=>
       jQ hO rfl (zL (jv 0)) (qr (i:=3) ZC.nd rfl (Or.inl rfl))
       (qh (qR (qu Q4 (jv 3) (jv 1) (by with_unfolding_all rfl)) (qk (Qu rfl hR' (Qv xp.mkr Gp hr (by rfl) xp.ns xp.bi Zm (qb (jv 3) qf)))) qD)
       (qh (qR (YN (YQ hu (jv 3) (jv 2))) (qk (Qu rfl hR' (Qv xt.mkr Gt hr (by rfl) xt.ns xt.bi Zm (qb (jv 3) qf)))) qD) (qk (jO hu (jv 2) (jv 3) je rfl)))))),?_⟩
   intro D hD
   refine⟨_,rfl,x,rfl,⟨_,.of (qm hx hD)⟩,?_⟩
   have noin:∀{z:Str},z∉zs->YS (.str z) (zs.map V.str)=false:=λ{z} n=>by
     cases e:YS (.str z) (zs.map V.str) with
     | false=>rfl
     | true=>exact absurd (Vp.mp e) n
   rcases h with ⟨hn,hin,q⟩ | ⟨i0,z0,e0,nd0,in0,h⟩
   . refine YU (K:=K) (a:=x) (xs:=es.map V.str) (λi σ' H'=>∃v kvs,σ'=[some (.ref x),some (.ref l),some (.ref D),v]/\Same H H'/\H' D=some (.dK kvs)/\kvs.map (·.1)=(es.take i).map Sum.inr) ⟨none,[],rfl,qg hD,qd,rfl⟩ (λi σ' H' _ ⟨_,_,_,s,_⟩=>.of (s _ _ hx)) ?_ ?_
     . rintro i y σ' H' hy ⟨v,kvs,rfl,s1,hD1,ek⟩
       obtain⟨z,e,hz',rfl⟩:=QZ hy
       obtain⟨dg,lk,n1,_⟩:=Vl (by omega) e hD1 ek
       have ez:=n1 (Vf (hn.sublist (List.take_sublist _ _)) e)
       rw[ez]at dg
       refine⟨_,rfl,_,rfl,l,_,rfl,.inl (.of (s1 _ _ hl)),rfl,QU zs,_,rfl,?_⟩
       rw[JK (hin z hz')]
       refine jL ⟨_,rfl,_,rfl,D,none,rfl,dg,_,rfl,jL ?_⟩
       refine⟨_,rfl,_,rfl,D,_,rfl,Ji.k (k:=(Sum.inr z:qW)) hD1 lk,_,_,rfl,Same.upd s1 hD,qd,?_⟩
       rw[Q2 _ ez,ek,List.take_add_one,e,List.map_append]
       rfl
     . rintro σ' H' ⟨v,kvs,rfl,s1,_⟩
       exact q H' s1
   . refine YU (K:=K) (a:=x) (xs:=es.map V.str) (λi σ' H'=>(∃v kvs,σ'=[some (.ref x),some (.ref l),some (.ref D),v]/\Same H H'/\H' D=some (.dK kvs)/\kvs.map (·.1)=(es.take i).map Sum.inr)/\i<=i0) ⟨⟨none,[],rfl,qg hD,qd,rfl⟩,Nat.zero_le _⟩ (λi σ' H' _ ⟨⟨_,_,_,s,_⟩,_⟩=>.of (s _ _ hx)) ?_ ?_
     . rintro i y σ' H' hy ⟨⟨v,kvs,rfl,s1,hD1,ek⟩,hi⟩
       obtain⟨z,e,hz',rfl⟩:=QZ hy
       obtain⟨dg,lk,n1,n2⟩:=Vl (by omega) e hD1 ek
       refine⟨_,rfl,_,rfl,l,_,rfl,.inl (.of (s1 _ _ hl)),rfl,QU zs,_,rfl,?_⟩
       rcases Nat.lt_or_ge i i0 with c0 | c0
       . have ez:=n1 (Vf (Vi nd0 c0) e)
         rw[ez]at dg
         have mz:z∈es.take i0:=List.mem_of_getElem? (i:=i) (by rw[List.getElem?_take_of_lt c0];exact e)
         rw[JK (in0 z mz)]
         refine jL ⟨_,rfl,_,rfl,D,none,rfl,dg,_,rfl,jL ?_⟩
         refine⟨_,rfl,_,rfl,D,_,rfl,Ji.k (k:=(Sum.inr z:qW)) hD1 lk,⟨_,_,rfl,Same.upd s1 hD,qd,?_⟩,c0⟩
         rw[Q2 _ ez,ek,List.take_add_one,e,List.map_append]
         rfl
       . have ei:i=i0:=by omega
         subst ei
         rw[e]at e0
         obtain rfl:=Option.some.inj e0
         rcases h with ⟨no,o⟩ | ⟨yes,m0,o⟩
         . rw[noin no]
           exact Jb ⟨_,rfl,by show 1<=sizeLine;decide,j8 (C:=c.p) (.place z) xp (o.mono s1)⟩
         . rw[JK yes]
           refine jL ⟨_,rfl,_,rfl,D,_,rfl,dg,_,rfl,Qd (n2 m0) ?_⟩
           exact⟨_,rfl,by show 1<=sizeLine;decide,j8 (C:=c.t) (.twice z) xt (o.mono s1)⟩
     . rintro σ' H' ⟨_,hi⟩
       have:=(List.getElem?_eq_some_iff.mp e0).1
       rw[List.length_map]at hi
       omega
end
end Rh
set_option Elab.async false
set_option linter.all false
set_option maxRecDepth 100000
set_option maxHeartbeats 4000000
namespace Rh
open PySem L2 PyProof.Rows
structure jE (H:Hp) (l:Addr) (ps:List Addr) (rs:JX):Prop where
 at_:H l=some (.lst (ps.map V.ref))
 rows:qH H ps rs
 nm:∀r∈rs,qw r.1=true
 nms:∀r∈rs,∀z∈r.2,qw z=true
 len:∀r∈rs,r.2.length<=100
 pos:0 < rs.length
 le:rs.length<=14
theorem jE.mono {H H':Hp} {l:Addr} {ps:List Addr} {rs:JX} (h:jE H l ps rs) (s:Same H H'):jE H' l ps rs:=⟨s _ _ h.at_,h.rows.mono s,h.nm,h.nms,h.len,h.pos,h.le⟩
theorem jA {z:Str} (h:qw z=true):z.length<=8:=by
 unfold qw at h
 simp only[Bool.and_eq_true,decide_eq_true_eq]at h
 exact h.1.2
theorem zX {K:PySem.W.Frag} {H:Hp}:∀{zs:List Str},(∀z∈zs,z.length<=1000)->DHs K H (zs.map V.str) (zs.map PyData.str)
 | [],_=>.nil
 | z::zs,h=>.cons (.str z (h z List.mem_cons_self)) (zX λy hy=>h y (List.mem_cons_of_mem _ hy))
def zS (r:Str×List Str):PyData:=.tuple [.str r.1,.tuple (r.2.map PyData.str)]
theorem kM {K:PySem.W.Frag} {H:Hp} {p q:Addr} {r:Str×List Str} (hp:H p=some (.tup [.str r.1,.ref q])) (hq:H q=some (.tup (r.2.map V.str))) (h1:r.1.length<=1000) (h2:∀z∈r.2,z.length<=1000) (l:r.2.length<=100):DH K H (.ref p) (zS r):=
 .tup hp (by show 2<=100;decide) (.cons (.str _ h1) (.cons (.tup hq (by rw[List.length_map];exact l) (zX h2)) .nil))
theorem Xu {r:Str×List Str} (h1:qw r.1=true) (h2:∀z∈r.2,qw z=true):z8 (zS r)=true:=by
 show (qw r.1&&(r.2.map PyData.str).all QT)=true
 rw[h1,List.all_map,Bool.true_and,List.all_eq_true]
 exact h2
theorem jE.it {K:PySem.W.Frag} {H:Hp} {l:Addr} {ps:List Addr} {rs:JX} (g:jE H l ps rs) {j:Nat} {y:V} (e:(ps.map V.ref)[j]?=some y):Xa K H y:=by
 obtain⟨p,q,r,rfl,er,hr,a,b⟩:=g.rows.item e
 exact⟨zS r,kM a b (Nat.le_trans (jA (g.nm r hr)) (by decide)) (λz hz=>Nat.le_trans (jA (g.nms r hr z hz)) (by decide)) (g.len r hr),Xu (g.nm r hr) (g.nms r hr)⟩
def kL (K:PySem.W.Frag) (c:C4) (v:V) (H:Hp) (E:XK):Prop:=
 (∃d,DH K H v d/\KD d=false/\zY c E H (.ground 0))\/(∃l,v=.ref l/\H l=some (.lst [])/\zY c E H (.ground 0))\/
  (∃l xs,v=.ref l/\H l=some (.lst xs)/\14 < xs.length/\xs.length<=1000/\zY c E H (.many xs.length))\/
  (∃(l:Addr) (xs:List V) (i:Nat) (x:V) (d:PyData),v=.ref l/\H l=some (.lst xs)/\xs.length<=14/\xs[i]?=some x/\DH K H x d/\z8 d=false/\(∀(j:Nat) (y:V),j < i->xs[j]?=some y->Xa K H y)/\zY c E H (.ground i))
theorem kL.sp {K:PySem.W.Frag} {c:C4} {v:V} {H:Hp} {Q:VK} {E:XK} (h:kL K c v H E):YF K c [v] H Q E:=by
 rcases h with h | h | h | h
 . exact⟨v,rfl,.inl h⟩
 . exact⟨v,rfl,.inr (.inl h)⟩
 . exact⟨v,rfl,.inr (.inr (.inl h))⟩
 . exact⟨v,rfl,.inr (.inr (.inr (.inl h)))⟩
def yU (c:C4) (H:Hp) (E:XK) (zs es:List Str):Prop:=∃(i:Nat) (z:Str),es[i]?=some z/\(es.take i).Nodup/\(∀y∈es.take i,y∈zs)/\((z∉zs/\zY c E H (.place z))\/(z∈zs/\z∈es.take i/\zY c E H (.twice z)))
theorem yU.mono {c:C4} {H H':Hp} {E:XK} {zs es:List Str} (h:yU c H E zs es) (s:Same H H'):yU c H' E zs es:=by
 obtain⟨i,z,a,b,d,e⟩:=h
 refine⟨i,z,a,b,d,?_⟩
 rcases e with ⟨e1,e2⟩ | ⟨e1,e2,e3⟩
 . exact .inl ⟨e1,e2.mono s⟩
 . exact .inr ⟨e1,e2,e3.mono s⟩
def Gr (c:C4) (H:Hp) (E:XK) (rs:JX):Prop:=
 (∃(i:Nat) (z:Str),(rs.map (·.1))[i]?=some z/\z∈(rs.map (·.1)).take i/\((rs.map (·.1)).take i).Nodup/\zY c E H (.twice z))\/
 ((rs.map (·.1)).Nodup/\∃(k:Nat) (r:Str×List Str),rs[k]?=some r/\(∀(j:Nat) (r':Str×List Str),j < k->rs[j]?=some r'->r'.2.Nodup/\∀z∈r'.2,z∈rs.map (·.1))/\yU c H E (rs.map (·.1)) r.2)\/
 ((rs.map (·.1)).Nodup/\(∀r∈rs,r.2.Nodup/\∀z∈r.2,z∈rs.map (·.1))/\40 < (rs.map λr=>r.2.length).sum/\zY c E H (.many (rs.map λr=>r.2.length).sum))
def kH (K:PySem.W.Frag) (c:C4) (v:V) (H:Hp) (E:XK):Prop:=kL K c v H E\/∃l ps rs,v=.ref l/\jE H l ps rs/\Gr c H E rs
def WW (K:PySem.W.Frag) (c:C4):Sp:=λvs H Q E=>∃v,vs=[v]/\kH K c v H E
def U7 (c:C4):Sp:=λvs H Q E=>∃(l:Addr) (ps:List Addr) (rs:JX),vs=[.ref l]/\jE H l ps rs/\40 < (rs.map λr=>r.2.length).sum/\zY c E H (.many (rs.map λr=>r.2.length).sum)
theorem U0 {xs:List Nat} {m:Nat} (h:∀x∈xs,x<=m):xs.sum<=xs.length*m:=by
 induction xs with
 | nil=>simp
 | cons x xs ih=>
   have h1:=h x List.mem_cons_self
   have h2:=ih λy hy=>h y (List.mem_cons_of_mem _ hy)
   rw[List.sum_cons,List.length_cons,Nat.succ_mul]
   omega
theorem jE.sum {H:Hp} {l:Addr} {ps:List Addr} {rs:JX} (g:jE H l ps rs):(rs.map λr=>r.2.length).sum < 2^60:=by
 have h1:=U0 (xs:=rs.map λr=>r.2.length) (m:=100) λx hx=>by
   obtain⟨r,hr,rfl⟩:=List.mem_map.mp hx
   exact g.len r hr
 rw[List.length_map]at h1
 have:=g.le
 exact Nat.lt_of_le_of_lt h1 (Nat.lt_of_le_of_lt (Nat.mul_le_mul_right 100 this) (by decide))
section
variable {P:Program} {w:World} {K:PySem.W.Frag} {mg:Str->Option Value} {base:Heap}
theorem XH {X:Cx} {x:Str} {st:Stmt} {ps:List Str} {f:Addr} {fd:FuncData} {k:Nat} {sp:Sp} {E:XK} {e:Expr} {es:List Expr} {t:TA} {p pos:Pos} (h:jR X.K X.mg x st ps f fd) (G:qz X.prog X.w X.K X.mg X.base (QY X.prog X.w) k f fd ps sp) (hr:q5 k X.A) (hx:Qz (QY X.prog X.w) X E)
   (hg:Gl X x) (ha:JA X (e::es) t) (hdb:(x==("__debug__":Str))=false:=by decide) (he:starEach (e::es) X.env=(false,eval e X.env)::starEach es X.env:=by rfl) (hpl:(backTo pos (starEach es X.env)).any (·.1)=false:=by rfl):
   JE X (.Call (.Name x p) (e::es) [] pos) (Xl sp [] E t):=.of (Vc G hr hg h.ns h.fn.kp h.bi .nil hx ha.to hdb he hpl)
theorem yr {f D:Addr} {c:C4} {fd:FuncData} (F:Ql K "need_few_roads" "need_few_roads" vi f fd) (B:Zg mg) (T:Jx K mg) (X4:yT K mg D c):qz P w K mg base (QY P w) 3 f fd ["rows"] (U7 c):=by
 obtain⟨tm,hmr⟩:=T.mr
 obtain⟨fm,fdm,xm⟩:=X4.m
 have Gm:qz P w K mg base jc 1 fm fdm ["self","found"] (XY c.m "found"):=uM xm
 refine F.okX W3 (λvs H Q E h=>?_) (λcdv A outer s H vs Q E hr h=>?_)
 . obtain⟨l,ps,rs,rfl,_⟩:=h
   rfl
 . obtain⟨l,ps,rs,rfl,g,big,o⟩:=h
   have sm:=g.sum
   refine⟨_,qh (qB (i:=1) W3.nd rfl (Or.inl rfl) (ql (Ys rfl) (by rfl) T.sum boot_sum (qb (QS (N':=["row"]) (ix:=[none]) (te:=yZ (λxs H Q=>∃p ys,xs=[.ref p]/\(SqL K H p ys\/SqT K H p ys)/\Q (.int ys.length) H) (jd (YD (Xw K) (qZ 0) (tC (.int 1))) Qh)) rfl ⟨rfl,rfl,rfl,rfl,rfl⟩ (jf (jv 0)) (λC s2 H2 fp pins=>
       ⟨qr (i:=0) (Vj _) rfl (Or.inl rfl),jr,ql qy (by rfl) B.len boot_len (qb (qP j2 (jv 0) qj (λ_ _=>rfl)) qf)⟩)) qf)))
     (qk (qR (qu JZ (jv 1) (jg (v:=.int 40) (by rfl) hmr ⟨_,rfl⟩) (qC _)) (qk (Qu rfl JB (Qv xm.mkr Gm hr (by rfl) xm.ns xm.bi Zm (qb (jv 1) qf)))) qD)),?_⟩
   refine⟨_,rfl,l,rfl,⟨_,.of g.at_⟩,λD0 hD=>?_⟩
   refine jD (K:=K) (a:=l) (xs:=ps.map V.ref) (λi σ' H'=>∃v,σ'=[v]/\H'=upd H D0 (.lst (((rs.take i).map λr=>r.2.length).map λn=>V.int ((n:Nat):Int)))) ⟨none,rfl,rfl⟩ (λi σ' H' _ ⟨_,_,e⟩=>e▸.of (qm g.at_ hD)) ?_ ?_
   . rintro i x σ' H' hx ⟨v,rfl,rfl⟩
     obtain⟨p',q',r,rfl,er,hr',a,b⟩:=g.rows.item hx
     have hi:=(List.getElem?_eq_some_iff.mp er).1
     refine⟨_,rfl,p',_,1,_,rfl,rfl,.of (qm a hD),rfl,q',_,rfl,.inr (.of (qm b hD)),_,qd,?_,_,rfl,?_⟩
     . rw[List.length_map,List.length_map,List.length_take]
       have:=g.le
       exact qp (by omega)
     . rw[qY,List.take_add_one,er,List.map_append,List.map_append,List.length_map]
       rfl
   . rintro σ' H' ⟨v,rfl,rfl⟩
     have e:rs.take (ps.map V.ref).length=rs:=List.take_of_length_le (by rw[List.length_map,g.rows.1];exact Nat.le_refl _)
     rw[e]
     refine⟨D0,_,rfl,.of qd,Nat.lt_of_lt_of_le sm (by decide),?_⟩
     have s0:=qg (o:=HO.lst ((rs.map λr=>r.2.length).map λn=>V.int ((n:Nat):Int))) hD
     generalize upd H D0 (.lst ((rs.map λr=>r.2.length).map λn=>V.int ((n:Nat):Int)))=H1 at s0
     refine⟨_,rfl,_,_,rfl,rfl,_,rfl,Qd (decide_eq_true (by show (40:Int) < _;omega)) ?_⟩
     exact⟨_,rfl,by show 1<=sizeLine;decide,j8 (C:=c.m) (.many _) xm (o.mono s0)⟩
theorem vF {f D:Addr} {c:C4} {fd:FuncData} (F:Ql K "need_rows" "need_rows" ZS f fd) (B:Zg mg) (G:QA mg) (T:Jx K mg) (N:WM K mg) (X4:yT K mg D c):qz P w K mg base (QY P w) 5 f fd ["rows"] (WW K c):=by
 obtain⟨fN,fdN,hN⟩:=N.nm
 obtain⟨fP,fdP,hP⟩:=N.tn
 obtain⟨fR,fdR,hR⟩:=N.rw
 obtain⟨fF,fdF,hF⟩:=N.fo
 obtain⟨fO,fdO,hO⟩:=N.ow
 obtain⟨fE,fdE,hE⟩:=N.en
 obtain⟨fW,fdW,hW⟩:=N.fw
 have GF:qz P w K mg base (QY P w) 4 fF fdF ["rows"] (YF K c):=vK hF.fn B G T hN hP hR X4
 have GO:qz P w K mg base (QY P w) 3 fO fdO ["order"] (U4 c):=yo hO.fn X4
 have GE:qz P w K mg base (QY P w) 3 fE fdE ["ends","order"] (YG c):=vL hE.fn X4
 have GW:qz P w K mg base (QY P w) 3 fW fdW ["rows"] (U7 c):=yr hW.fn B T X4
 refine F.okX ZA (λvs H Q E h=>?_) (λcdv A outer s H vs Q E hr h=>?_)
 . obtain⟨v,rfl,_⟩:=h
   rfl
 . obtain⟨v,rfl,h⟩:=h
   have r3:q5 3 _:=hr.mono (by decide)
   refine⟨_,qh (jF (XH hF GF hr QQ (by rfl) (qb (jv 0) qf)))
     (qh (Qt (i:=1) (N':=["row"]) (ix:=[none]) (te:=YD (Xw K) (qZ 0) (tC (.int 0))) ZA.nd rfl (Or.inl rfl) rfl ⟨rfl,rfl,rfl,rfl,rfl⟩ (jf (jv 0)) (λC s2 H2 fp pins=>
       ⟨qr (i:=0) (Vj _) rfl (Or.inl rfl),jr,qP j2 (jv 0) qj (λ_ _=>rfl)⟩))
     (qh (jF (XH hO GO r3 QQ (by rfl) (qb (jv 1) qf)))
     (qh (zf (t:=UW (Vq K (qZ 0)) (jH 2) (yY (Xl (YG c) [] E (jd (YD (Xw K) (qZ 2) (tC (.int 1))) (jd (qZ 1) Qh))))) λpn W hO hP' hR=>jQ hO rfl (jf (jv 0)) (qr (i:=2) ZA.nd rfl (Or.inl rfl))
       (qk (jF (XH hE GE r3 hP' (by rfl) (qb (qP j2 (jv 2) qj (λ_ _=>rfl)) (qb (jv 1) qf))))))
     (qk (jF (XH hW GW r3 QQ (by rfl) (qb (jv 0) qf))))))),?_⟩
   rcases h with h | ⟨l,ps,rs,rfl,g,h⟩
   . exact⟨_,rfl,wg h.sp⟩
   have lps:=g.rows.1
   have le:=g.le
   refine⟨_,rfl,.ref l,rfl,.inr (.inr (.inr (.inr ⟨l,_,rfl,g.at_,by rw[List.length_map,lps];exact g.pos,by rw[List.length_map,lps];exact le,λj y e=>g.it e,λH1 s1=>?_⟩)))⟩
   have g1:=g.mono s1
   refine⟨_,rfl,l,rfl,⟨_,.of g1.at_⟩,λD hD=>?_⟩
   refine jD (K:=K) (a:=l) (xs:=ps.map V.ref) (λi σ' H'=>∃v,σ'=[v]/\H'=upd H1 D (.lst (((rs.take i).map (·.1)).map V.str))) ⟨none,rfl,rfl⟩ (λi σ' H' _ ⟨_,_,e⟩=>e▸.of (qm g1.at_ hD)) ?_ ?_
   . rintro i x σ' H' hx ⟨v,rfl,rfl⟩
     obtain⟨p',q',r,rfl,er,hr',a,b⟩:=g1.rows.item hx
     have hi:=(List.getElem?_eq_some_iff.mp er).1
     refine⟨_,rfl,p',_,0,_,rfl,rfl,.of (qm a hD),rfl,_,qd,?_,_,rfl,?_⟩
     . rw[List.length_map,List.length_map,List.length_take]
       exact qp (by omega)
     . rw[qY,List.take_add_one,er,List.map_append,List.map_append]
       rfl
   . rintro σ' H' ⟨v,rfl,rfl⟩
     have e:rs.take (ps.map V.ref).length=rs:=List.take_of_length_le (by rw[List.length_map,lps];exact Nat.le_refl _)
     rw[e]
     have sD0:Same H1 (upd H1 D (.lst ((rs.map (·.1)).map V.str))):=qg hD
     have hD0:upd H1 D (.lst ((rs.map (·.1)).map V.str)) D=some (.lst ((rs.map (·.1)).map V.str)):=qd
     generalize upd H1 D (.lst ((rs.map (·.1)).map V.str))=H1' at sD0 hD0
     have s1':=s1.trans sD0
     refine⟨_,rfl,D,rs.map (·.1),rfl,hD0,by rw[List.length_map];omega,?_⟩
     rcases h with ⟨i,z,e1,m1,Vj,o⟩ | ⟨nd,k,r,ek,pre,bad⟩ | ⟨nd,all,big,o⟩
     . exact .inr ⟨i,z,e1,m1,Vj,o.mono s1'⟩
     . refine .inl ⟨nd,λH2 s2=>?_⟩
       have s12:=s1'.trans s2
       have g2:=g.mono s12
       have hD2:=s2 _ _ hD0
       refine⟨_,rfl,l,rfl,⟨_,.of g2.at_⟩,?_⟩
       refine j3 (K:=K) (a:=l) (xs:=ps.map V.ref) (λi σ' H'=>(∃v,σ'=[some (.ref l),some (.ref D),v])/\Same H2 H'/\i<=k) ⟨⟨none,rfl⟩,Same.refl H2,Nat.zero_le _⟩ (λi σ' H' _ ⟨_,s,_⟩=>.of (s _ _ g2.at_)) ?_ ?_
       . rintro i x σ' H' hx ⟨⟨v,rfl⟩,s3,hi⟩
         obtain⟨p',q',r',rfl,er,hr',a,b⟩:=(g2.mono s3).rows.item hx
         refine⟨_,rfl,p',_,1,_,rfl,rfl,.of a,rfl,_,rfl,q',D,r'.2,rs.map (·.1),rfl,b,s3 _ _ hD2,Nat.le_trans (g.len r' hr') (by decide),?_⟩
         rcases Nat.lt_or_ge i k with c0 | c0
         . obtain⟨n1,n2⟩:=pre i r' c0 er
           exact .inl ⟨n1,n2,λH4 s4=>⟨⟨_,rfl⟩,s3.trans s4,c0⟩⟩
         . have ei:i=k:=by omega
           subst ei
           rw[er]at ek
           obtain rfl:=Option.some.inj ek
           exact .inr (bad.mono (s12.trans s3))
       . rintro σ' H' ⟨_,_,hi⟩
         have:=(List.getElem?_eq_some_iff.mp ek).1
         rw[List.length_map]at hi
         omega
     . refine .inl ⟨nd,λH2 s2=>?_⟩
       have s12:=s1'.trans s2
       have g2:=g.mono s12
       have hD2:=s2 _ _ hD0
       refine⟨_,rfl,l,rfl,⟨_,.of g2.at_⟩,?_⟩
       refine j3 (K:=K) (a:=l) (xs:=ps.map V.ref) (λi σ' H'=>(∃v,σ'=[some (.ref l),some (.ref D),v])/\Same H2 H') ⟨⟨none,rfl⟩,Same.refl H2⟩ (λi σ' H' _ ⟨_,s⟩=>.of (s _ _ g2.at_)) ?_ ?_
       . rintro i x σ' H' hx ⟨⟨v,rfl⟩,s3⟩
         obtain⟨p',q',r',rfl,er,hr',a,b⟩:=(g2.mono s3).rows.item hx
         obtain⟨n1,n2⟩:=all r' hr'
         exact⟨_,rfl,p',_,1,_,rfl,rfl,.of a,rfl,_,rfl,q',D,r'.2,rs.map (·.1),rfl,b,s3 _ _ hD2,Nat.le_trans (g.len r' hr') (by decide),.inl ⟨n1,n2,λH4 s4=>⟨⟨_,rfl⟩,s3.trans s4⟩⟩⟩
       . rintro σ' H' ⟨⟨v,rfl⟩,s3⟩
         exact⟨_,rfl,l,ps,rs,rfl,g2.mono s3,big,o.mono (s12.trans s3)⟩
def U6 (K:PySem.W.Frag) (c:C4):Sp:=λvs H Q E=>∃x v,vs=[x,v]/\kH K c v H E
theorem Uf {f fW CG D:Addr} {c:C4} {fd fdW:FuncData} (C:wU K mg CG f fd) (B:Zg mg) (G:QA mg) (T:Jx K mg) (N:WM K mg) (hW:jR K mg "need_rows" ZS ["rows"] fW fdW) (X4:yT K mg D c):qz P w K mg base (QY P w) 6 f fd ["self","rows"] (U6 K c):=by
 have GW:qz P w K mg base (QY P w) 5 fW fdW ["rows"] (WW K c):=vF hW.fn B G T N X4
 refine C.fn.okX xL (λvs H Q E h=>?_) (λcdv A outer s H vs Q E hr h=>?_)
 . obtain⟨x,v,rfl,_⟩:=h
   rfl
 . obtain⟨x,v,rfl,h⟩:=h
   exact⟨_,qh (jF (XH hW GW hr QQ (by rfl) (qb (jv 1) qf))) jh,_,rfl,v,rfl,h⟩
end
end Rh
set_option Elab.async false
set_option linter.all false
set_option maxRecDepth 100000
set_option maxHeartbeats 4000000
namespace Rh
open PySem L2 PyProof.Rows
def JQ.tag:JQ->Str
 | .ground _=>Str.ofString "ground"
 | .many _=>Str.ofString "many"
 | .twice _=>Str.ofString "twice"
 | .place _=>Str.ofString "place"
def yP (K:PySem.W.Frag) (c:C4) (H:Hp) (v:V) (r:JQ):Prop:=∀(H':Hp) (E:XK),Same H H'->zY c E H' r->kH K c v H' E
structure wJ (K:PySem.W.Frag) (mg:Str->Option Value) (D:Addr) (c:C4):Prop where
 nD:mg "HeapError"=some (.ref D)
 ve:mg "ValueError"=none
 g1:PySem.W.kitOne K (.ref c.g) (.ref D)=some true
 m1:PySem.W.kitOne K (.ref c.m) (.ref D)=some true
 t1:PySem.W.kitOne K (.ref c.t) (.ref D)=some true
 p1:PySem.W.kitOne K (.ref c.p) (.ref D)=some true
 g2:PySem.W.kitAny K (.ref c.g) [.ref c.p,.ref c.m,.ref c.t]=some false
 m2:PySem.W.kitAny K (.ref c.m) [.ref c.p,.ref c.t]=some false
 t2:PySem.W.kitOne K (.ref c.t) (.ref c.p)=some false
 p2:PySem.W.kitOne K (.ref c.p) (.type "ValueError")=some true
 mg_:c.m≠c.g
 tg:c.t≠c.g
 tm:c.t≠c.m
 pg:c.p≠c.g
 pm:c.p≠c.m
 pt:c.p≠c.t
 dg:D≠c.g
 dm:D≠c.m
 dt:D≠c.t
 spc:PySem.W.specialIn K (.builtin "object.__class__") "__get__"=some (some (.builtin "getset_descriptor.__get__"))
 tks:PySem.W.takesIn K (.builtin "object.__class__")=some true
def uh (K:PySem.W.Frag) (c:C4):Sp:=λvs H Q _=>∃v,vs=[v]/\((∃l ps rs,v=.ref l/\qX H l ps rs/\∀H' L,QC H H'->H' L=some (.lst [.str (Str.ofString "good"),.int (rs.length:Nat)])->Q (.ref L) H')\/
 ∃r,yP K c H v r/\∀H' L,QC H H'->H' L=some (.lst [.str r.tag,r.val,.bl true])->Q (.ref L) H')
theorem Yr {C D Cl:Addr} (h1:C≠Cl) (h2:D≠Cl):(Value.ref C::.ref D::qT).contains (.ref Cl)=false:=by
 rw[List.contains_cons,List.contains_cons]
 have e1:(Value.ref Cl==Value.ref C)=false:=by
   rw[beq_eq_false_iff_ne]
   intro z
   exact h1 (Value.ref.inj z).symm
 have e2:(Value.ref Cl==Value.ref D)=false:=by
   rw[beq_eq_false_iff_ne]
   intro z
   exact h2 (Value.ref.inj z).symm
 rw[e1,e2]
 rfl
theorem yM:bootBuiltins "ValueError"=some (.type "ValueError"):=by decide+kernel
theorem kK.nm {CG:Addr} {H:Hp} {a:Addr} {rs:JX} (h:kK CG H a rs):∃dx fs,H a=some (.ins CG dx fs)/\fs.lookup (Str.ofString "names")=none:=by
 obtain⟨dx,lo,rd,kvs,h1,_⟩:=h
 refine⟨dx,_,h1,?_⟩
 have e1:((Str.ofString "names")==(Str.ofString "order"))=false:=by decide+kernel
 have e2:((Str.ofString "names")==(Str.ofString "roads"))=false:=by decide+kernel
 simp [List.lookup,e1,e2]
section
variable {P:Program} {w:World} {K:PySem.W.Frag} {mg:Str->Option Value} {base:Heap}
abbrev nLT:List Str:=["_law_rows_here","_law_found","e"]
theorem zu:qK nLT ["_law_rows_here"] (qv Kz):=⟨rfl,rfl,rfl,by decide+kernel,rfl,by decide+kernel,by decide+kernel⟩
abbrev wO (K:PySem.W.Frag) (D:Addr) (v:V):TE:=yZ (vq K (.ref D::qT)) (jd (qZ 2) (jd (tC v) Qh))
abbrev wY (K:PySem.W.Frag) (D:Addr) (t:TA):TE:=yZ (Va K (.ref D::qT)) (jd (qZ 2) (jd (kS t) Qh))
abbrev Ku (K:PySem.W.Frag) (D:Addr) (tag fld:Str) (t:TE):TS:=Xn (xB (jd (tC (.str tag)) (jd (yX K (.ref D::qT) (qZ 2) fld) (jd t Qh)))) (jH 1)
theorem uJ {f CG D fW fM:Addr} {c:C4} {fd fdW fdM:FuncData} (F:Ql K "_law_told" "_law_told" Kz f fd) (B:Zg mg) (G:QA mg) (T:Jx K mg) (N:WM K mg) (hcl:∃fI fdI,wU K mg CG fI fdI) (hM:KF K CG "names" "Ground.names" Jz ["self"] fM fdM) (hW:jR K mg "need_rows" ZS ["rows"] fW fdW) (X4:yT K mg D c) (Z:wJ K mg D c):
   qz P w K mg base jc 8 f fd ["_law_rows_here"] (uh K c):=by
 obtain⟨fI,fdI,C⟩:=hcl
 obtain⟨fg,fdg,xg⟩:=X4.g
 obtain⟨fm,fdm,xm⟩:=X4.m
 obtain⟨ft,fdt,xt⟩:=X4.t
 obtain⟨fp,fdp,xp⟩:=X4.p
 have GN:qz P w K mg base jc 1 fM fdM ["self"] (zr CG):=Ue hM.fn C G
 have GI:qz P w K mg base (QY P w) 6 fI fdI ["self","rows"] (λvs H Q E=>Z7 CG vs H Q E\/U6 K c vs H Q E):=(vJ C B G T N hW).toX.either (Uf C B G T N hW X4)
 refine F.okJ zu (λvs H Q E h=>?_) (λcdv A outer s H vs Q E hr h=>?_)
 . obtain⟨v,rfl,_⟩:=h
   rfl
 . obtain⟨v,rfl,h⟩:=h
   have r1:q5 1 _:=hr.mono (by decide)
   refine⟨_,qh (qB (i:=1) zu.nd rfl (Or.inl rfl) zM)
     (qh (wt (tb:=λE=>Xn (xB (jd (tC (.str (Str.ofString "good"))) (jd (yZ (λxs H Q=>∃p ys,xs=[V.ref p]/\(SqL K H p ys\/SqT K H p ys)/\Q (V.int ys.length) H) (jd (WU CG (Str.ofString "names") (zr CG) [] E0 (UV CG (λvs H Q E=>Z7 CG vs H Q E\/U6 K c vs H Q E) [] E (jd (qZ 0) Qh)) Qh) Qh)) Qh))) (jH 1)) rfl rfl (λpn W E hE=>qk (qB (i:=1) zu.nd rfl (Or.inl rfl) (qA (qb qE (qb (ql qy (by rfl) B.len boot_len (qb (uZ hM C.cl GN r1 (vY C.mkr GI hr (by rfl) C.ns C.bi .nil hE (qb (jv 0) qf))) qf)) qf)))))
       (zg (j:=2) (ts:=Ku K D (Str.ofString "ground") (Str.ofString "row") (Xo (wO K D (.ref D)) (WT (wY K D (jd (tC (.ref c.p)) (jd (tC (.ref c.m)) (jd (tC (.ref c.t)) Qh))))))) (by rfl) xg.ns xg.rcls zu.nd rfl rfl
         (λv E=>qk (qB (i:=1) zu.nd rfl (Or.inl rfl) (qA (qb qE (qb (zh (bm:=.ref D::qT) (jv 2) rfl) (qb (Ju (ql (jV (bm:=.ref D::qT) Z.spc Z.tks) (by rfl) T.isi boot_isinstance (qb (jv 2) (qb (jg (v:=.ref D) (by rfl) Z.nD rfl) qf))) (Jt (Wr (ql (Z0 (bm:=.ref D::qT) Z.spc Z.tks) (by rfl) T.isi boot_isinstance (qb (jv 2) (qb (qM (qb (jg (v:=.ref c.p) (by rfl) xp.ns rfl) (qb (jg (v:=.ref c.m) (by rfl) xm.ns rfl) (qb (jg (v:=.ref c.t) (by rfl) xt.ns rfl) qf)))) qf)))))) qf))))))
       (zg (j:=2) (ts:=Ku K D (Str.ofString "many") (Str.ofString "found") (Xo (wO K D (.ref D)) (WT (wY K D (jd (tC (.ref c.p)) (jd (tC (.ref c.t)) Qh)))))) (by rfl) xm.ns xm.rcls zu.nd rfl rfl
         (λv E=>qk (qB (i:=1) zu.nd rfl (Or.inl rfl) (qA (qb qE (qb (zh (bm:=.ref D::qT) (jv 2) rfl) (qb (Ju (ql (jV (bm:=.ref D::qT) Z.spc Z.tks) (by rfl) T.isi boot_isinstance (qb (jv 2) (qb (jg (v:=.ref D) (by rfl) Z.nD rfl) qf))) (Jt (Wr (ql (Z0 (bm:=.ref D::qT) Z.spc Z.tks) (by rfl) T.isi boot_isinstance (qb (jv 2) (qb (qM (qb (jg (v:=.ref c.p) (by rfl) xp.ns rfl) (qb (jg (v:=.ref c.t) (by rfl) xt.ns rfl) qf))) qf)))))) qf))))))
       (zg (j:=2) (ts:=Ku K D (Str.ofString "twice") (Str.ofString "found") (Xo (wO K D (.ref D)) (WT (wO K D (.ref c.p))))) (by rfl) xt.ns xt.rcls zu.nd rfl rfl
         (λv E=>qk (qB (i:=1) zu.nd rfl (Or.inl rfl) (qA (qb qE (qb (zh (bm:=.ref D::qT) (jv 2) rfl) (qb (Ju (ql (jV (bm:=.ref D::qT) Z.spc Z.tks) (by rfl) T.isi boot_isinstance (qb (jv 2) (qb (jg (v:=.ref D) (by rfl) Z.nD rfl) qf))) (Jt (Wr (ql (jV (bm:=.ref D::qT) Z.spc Z.tks) (by rfl) T.isi boot_isinstance (qb (jv 2) (qb (jg (v:=.ref c.p) (by rfl) xp.ns rfl) qf)))))) qf))))))
       (zg (j:=2) (ts:=Ku K D (Str.ofString "place") (Str.ofString "found") (Xo (wO K D (.ref D)) (wO K D (.ty "ValueError")))) (by rfl) xp.ns xp.rcls zu.nd rfl rfl
         (λv E=>qk (qB (i:=1) zu.nd rfl (Or.inl rfl) (qA (qb qE (qb (zh (bm:=.ref D::qT) (jv 2) rfl) (qb (Ju (ql (jV (bm:=.ref D::qT) Z.spc Z.tks) (by rfl) T.isi boot_isinstance (qb (jv 2) (qb (jg (v:=.ref D) (by rfl) Z.nD rfl) qf))) (Jt (ql (jV (bm:=.ref D::qT) Z.spc Z.tks) (by rfl) T.isi boot_isinstance (qb (jv 2) (qb (Qn (v:=.ty "ValueError") (by rfl) Z.ve yM rfl) qf))))) qf))))))
       vW)))))
     (qk (qL (jv 1)))),?_⟩
   rcases h with ⟨l,ps,rs,rfl,g,q⟩ | ⟨r,ver,q⟩
   . refine⟨λ_ _ _=>False,⟨_,rfl,λx dx hx hdx ndx=>.inl (Wl g.at_ g.rows g.good g.pos g.le hx hdx ndx λH4 s4 gr=>?_)⟩,λ_ _ _ _ _ _ z=>z.elim⟩
     obtain⟨dx',fs,h1,h2⟩:=gr.nm
     refine⟨x,dx',fs,rfl,h1,h2,x,rs,rfl,gr,λln hln=>⟨ln,_,rfl,.inl (.of qd),by show 2<=sizeLine;decide,λL hL=>⟨_,rfl,?_⟩⟩⟩
     rw[List.length_map,List.length_map]
     exact q _ L ((s4.trans (qg hln)).trans (qg hL)).keep qd
   . refine⟨λC dx Hx=>C=r.cls c/\Same H Hx/\Hx dx=some (.xd [(r.fld,r.val)]),⟨_,rfl,λx dx hx hdx ndx=>.inr ⟨.ref x,v,rfl,?_⟩⟩,?_⟩
     . refine ver _ _ (λb u hb=>by rw[qi (qt hb hx),qi (qt hb hdx)];exact hb) λHx dx5 s5 hd5=>⟨rfl,_,dx5,rfl,rfl,rfl,λb u hb=>s5 _ _ (by rw[qi (qt hb hx),qi (qt hb hdx)];exact hb),hd5⟩
     . rintro a C0 dx T' Hx H' ⟨rfl,sx,hdx⟩ ha kp ha'
       have nda:dx≠a:=λz=>by
         rw[z,ha]at hdx
         cases hdx
       have hdx':=kp dx _ nda hdx
       have k1:QC H H':=λb o hb nx=>kp b o (λz=>by
         rw[z]at hb
         have:=sx _ _ hb
         rw[ha]at this
         exact nx _ (Option.some.inj this).symm) (sx _ _ hb)
       have lk:([(r.fld,r.val)]:List (Str×V)).lookup r.fld=some r.val:=by simp [List.lookup]
       have two:∀{tp L:Addr} {o o':HO},H' tp=none->upd H' tp o L=none->QC H (upd (upd H' tp o) L o'):=λh1 h2=>k1.trans ((qg h1).trans (qg h2)).keep
       cases r with
       | ground n=>
         refine⟨fg,_,xg.mkr,?_⟩
         rw[if_pos (by simp [List.contains_cons,JQ.cls])]
         refine⟨_,rfl,a,_,dx,_,_,_,rfl,ha',hdx',xg.cls,xg.na,lk,_,rfl,a,_,dx,_,_,.ref D,true,rfl,rfl,ha',hdx',xg.cls,Z.g1,_,rfl,Jb ?_⟩
         refine⟨_,rfl,by show 3<=sizeLine;decide,λtp htp=>?_⟩
         have st:=qg (o:=HO.tup [V.ref c.p,.ref c.m,.ref c.t]) htp
         exact⟨a,tp,_,dx,_,_,[c.p,c.m,c.t],false,rfl,st _ _ ha',st _ _ hdx',xg.cls,qd,Z.g2,_,rfl,by show 3<=sizeLine;decide,λL hL=>⟨_,rfl,q _ L (two htp hL) qd⟩⟩
       | many n=>
         refine⟨fm,_,xm.mkr,?_⟩
         rw[if_neg (by show ¬(Value.ref c.m::.ref D::qT).contains (.ref c.g)=true;rw[Yr Z.mg_ Z.dg];exact Bool.false_ne_true)]
         refine⟨fm,_,xm.mkr,?_⟩
         rw[if_pos (by simp [List.contains_cons,JQ.cls])]
         refine⟨_,rfl,a,_,dx,_,_,_,rfl,ha',hdx',xm.cls,xm.na,lk,_,rfl,a,_,dx,_,_,.ref D,true,rfl,rfl,ha',hdx',xm.cls,Z.m1,_,rfl,Jb ?_⟩
         refine⟨_,rfl,by show 2<=sizeLine;decide,λtp htp=>?_⟩
         have st:=qg (o:=HO.tup [V.ref c.p,.ref c.t]) htp
         exact⟨a,tp,_,dx,_,_,[c.p,c.t],false,rfl,st _ _ ha',st _ _ hdx',xm.cls,qd,Z.m2,_,rfl,by show 3<=sizeLine;decide,λL hL=>⟨_,rfl,q _ L (two htp hL) qd⟩⟩
       | twice z=>
         refine⟨ft,_,xt.mkr,?_⟩
         rw[if_neg (by show ¬(Value.ref c.t::.ref D::qT).contains (.ref c.g)=true;rw[Yr Z.tg Z.dg];exact Bool.false_ne_true)]
         refine⟨ft,_,xt.mkr,?_⟩
         rw[if_neg (by show ¬(Value.ref c.t::.ref D::qT).contains (.ref c.m)=true;rw[Yr Z.tm Z.dm];exact Bool.false_ne_true)]
         refine⟨ft,_,xt.mkr,?_⟩
         rw[if_pos (by simp [List.contains_cons,JQ.cls])]
         refine⟨_,rfl,a,_,dx,_,_,_,rfl,ha',hdx',xt.cls,xt.na,lk,_,rfl,a,_,dx,_,_,.ref D,true,rfl,rfl,ha',hdx',xt.cls,Z.t1,_,rfl,Jb ?_⟩
         exact⟨_,rfl,a,_,dx,_,_,.ref c.p,false,rfl,rfl,ha',hdx',xt.cls,Z.t2,_,rfl,by show 3<=sizeLine;decide,λL hL=>⟨_,rfl,q _ L (k1.trans (qg hL).keep) qd⟩⟩
       | place z=>
         refine⟨fp,_,xp.mkr,?_⟩
         rw[if_neg (by show ¬(Value.ref c.p::.ref D::qT).contains (.ref c.g)=true;rw[Yr Z.pg Z.dg];exact Bool.false_ne_true)]
         refine⟨fp,_,xp.mkr,?_⟩
         rw[if_neg (by show ¬(Value.ref c.p::.ref D::qT).contains (.ref c.m)=true;rw[Yr Z.pm Z.dm];exact Bool.false_ne_true)]
         refine⟨fp,_,xp.mkr,?_⟩
         rw[if_neg (by show ¬(Value.ref c.p::.ref D::qT).contains (.ref c.t)=true;rw[Yr Z.pt Z.dt];exact Bool.false_ne_true)]
         refine⟨fp,_,xp.mkr,?_⟩
         rw[if_pos (by simp [List.contains_cons,JQ.cls])]
         refine⟨_,rfl,a,_,dx,_,_,_,rfl,ha',hdx',xp.cls,xp.na,lk,_,rfl,a,_,dx,_,_,.ref D,true,rfl,rfl,ha',hdx',xp.cls,Z.p1,_,rfl,Jb ?_⟩
         exact⟨_,rfl,a,_,dx,_,_,.ty "ValueError",true,rfl,rfl,ha',hdx',xp.cls,Z.p2,by show 3<=sizeLine;decide,λL hL=>⟨_,rfl,q _ L (k1.trans (qg hL).keep) qd⟩⟩
end
end Rh
set_option Elab.async false
set_option linter.all false
set_option maxRecDepth 100000
set_option maxHeartbeats 4000000
namespace Rh
open PySem L2 PyProof.Rows
structure Sz (n:Nat) (d:PyData):Prop where
 sh:d.showable=true
 dp:d.depth<=5
 ln:d.shown.length<=n
theorem YE {n:Nat}:∀{ds:List PyData},(∀d∈ds,Sz n d)->PyData.showableAll ds=true/\PyData.depthAll ds<=5/\((PyData.shownAll ds).map (·.length)).sum<=n*ds.length/\(PyData.shownAll ds).length=ds.length
 | [],_=>⟨rfl,by rw[PyData.depthAll];decide,Nat.le_refl _,rfl⟩
 | d::ds,h=>by
   have h0:=h d List.mem_cons_self
   obtain⟨h1,h2,h3,h4⟩:=YE λy hy=>h y (List.mem_cons_of_mem _ hy)
   refine⟨by rw[PyData.showableAll,h0.sh,h1];rfl,?_,?_,by rw[PyData.shownAll,List.length_cons,List.length_cons,h4]⟩
   . rw[PyData.depthAll]
     have:=h0.dp
     omega
   . rw[PyData.shownAll,List.map_cons,List.sum_cons,List.length_cons,Nat.mul_succ]
     have:=h0.ln
     omega
theorem zA {ds:List PyData} (h:∀d∈ds,Sz 5000 d) (l:ds.length<=20):(PyData.list ds).showable=true/\(PyData.list ds).depth<=60/\(PyData.list ds).shown.length<=sizeLine:=by
 obtain⟨h1,h2,h3,h4⟩:=YE h
 refine⟨h1,by simp only[PyData.depth];omega,?_⟩
 show (listText (PyData.shownAll ds)).length<=sizeLine
 have h5:=listText_len_le (PyData.shownAll ds)
 have:(listText (PyData.shownAll ds)).length<=1000000:=by
   have:5000*ds.length<=5000*20:=Nat.mul_le_mul_left _ l
   omega
 exact Nat.le_trans this (by decide)
def Qy (K:PySem.W.Frag) (H:Hp) (l:Addr):Prop:=∃t:Str,∀(H':Hp) (Q:VK),QC H H'->Q (.str t) H'->YK K [.ref l] H' Q
theorem Qy.keep {K:PySem.W.Frag} {H H':Hp} {l:Addr} (h:Qy K H l) (s:QC H H'):Qy K H' l:=let ⟨t,f⟩:=h;⟨t,λH2 Q s2 q=>f H2 Q (s.trans s2) q⟩
theorem Wh {K:PySem.W.Frag} {H:Hp} {l:Addr} {xs:List V} {ds:List PyData} (hl:H l=some (.lst xs)) (dv:DVs K H xs ds) (sz:∀d∈ds,Sz 5000 d) (le:ds.length<=20):Qy K H l:=by
 obtain⟨h1,h2,h3⟩:=zA sz le
 refine⟨(PyData.list ds).shown,λH' Q s q=>.inl ⟨l,.list ds,rfl,.lst (.of (s _ _ hl (λ_ z=>nomatch z))) (dvs_keepS s dv),h1,?_,h2,h3,q⟩⟩
 exact(DV.lst (.of hl) dv:DV K H (.ref l) (.list ds)).noDict
theorem Yh {K:PySem.W.Frag} {H H':Hp} (s:QC H H'):∀{xs:List V} {ds:List PyData},UL K H xs ds->UL K H' xs ds
 | _,_,.nil=>.nil
 | _,_,.cons h hs=>.cons (h.elim (λ⟨a,b⟩=>.inl ⟨XL s a,b⟩) λ⟨a,e1,e2,e3⟩=>.inr ⟨a,e1,s _ _ e2 (λ_ z=>nomatch z),e3⟩) (Yh s hs)
theorem xO {K:PySem.W.Frag} {H:Hp} {l:Addr} {xs:List V} {ds:List PyData} (hl:H l=some (.lst xs)) (nl:l≠sysModules) (rv:UL K H xs ds) (sz:∀d∈ds,Sz 5000 d) (le:ds.length<=20):Qy K H l:=by
 obtain⟨h1,h2,h3⟩:=zA sz le
 exact⟨(PyData.list ds).shown,λH' Q s q=>.inr ⟨l,xs,ds,rfl,nl,s _ _ hl (λ_ z=>nomatch z),Yh s rv,h1,h2,h3,q⟩⟩
def Due (K:PySem.W.Frag) (c:C4) (H:Hp) (fo du:Addr):Prop:=(∃ps rs,qX H fo ps rs/\H du=some (.lst [.str (Str.ofString "good"),.int (rs.length:Nat)]))\/
 ∃r:JQ,yP K c H (.ref fo) r/\H du=some (.lst [.str r.tag,r.val,.bl true])/\(∀z,r.val=.str z->z.length<=20/\∀x∈z.cps.toList,x<=122)/\∀n,r.val=.int n->0<=n/\n<=1000
def jX (K:PySem.W.Frag) (c:C4):Sp:=λvs H Q _=>∃(l d:Addr) (ps:List Addr) (rs:JX) (n s t:Int),vs=[.ref l,.ref d]/\qX H l ps rs/\Zf (rs.map (·.1))/\H d=some (.dK (qN n s t))/\
 ∀(R fo du:Addr) (n' t':Int) (H':Hp),Fr H d H'->H' d=some (.dK (qN n' s t'))->H' R=some (.lst [.ref fo,.ref du])->Qy K H' fo->Due K c H' fo du->Q (.ref R) H'
def VT:Sp:=λvs H Q _=>∃(l d:Addr) (ps:List Addr) (rs:JX) (n s t:Int),vs=[.ref l,.ref d]/\qX H l ps rs/\Zf (rs.map (·.1))/\H d=some (.dK (qN n s t))/\
 ∀(R ln:Addr) (k:Nat) (fr:Str) (n' t':Int) (H':Hp),Fr H d H'->H' d=some (.dK (qN n' s t'))->H' R=some (.lst [.int (k:Nat),.ref ln,.str fr])->H ln=none->H' ln=some (.lst ((rs.map (·.1)).map V.str))->k < rs.length->fr∉rs.map (·.1)->qw fr=true->Q (.ref R) H'
def four:List Str:=[Str.ofString "none",Str.ofString "nowhere",Str.ofString "q",Str.ofString "qqqqqqqq"]
theorem UB:∀z∈four,qw z=true:=by decide+kernel
theorem UC {zs:List Str} (h:Zf zs):0 < (four.filter λz=>decide (z∉zs)).length:=by
 rcases Nat.eq_zero_or_pos (four.filter λz=>decide (z∉zs)).length with e | e
 . have no:∀z∈four,z∈zs:=λz hz=>by
     rcases Decidable.em (z∈zs) with m | m
     . exact m
     . have:z∈four.filter λz=>decide (z∉zs):=List.mem_filter.mpr ⟨hz,decide_eq_true m⟩
       rw[List.eq_nil_of_length_eq_zero e]at this
       cases this
   exact absurd ⟨no _ (by decide+kernel),no _ (by decide+kernel),no _ (by decide+kernel)⟩ h
 . exact e
section
variable {P:Program} {w:World} {K:PySem.W.Frag} {mg:Str->Option Value} {base:Heap}
abbrev nPl:List Str:=["_law_rows_here","_law_source_here","_law_names_here","_law_free","_law_at"]
abbrev QR:List Str:=["_law_rows_here","_law_source_here"]
theorem ya:qK nPl QR (qv yb):=⟨rfl,rfl,rfl,by decide+kernel,rfl,by decide+kernel,by decide+kernel⟩
theorem xl:(["_law_name","_law_others"]:List Str).Nodup:=by decide+kernel
theorem uR:(["_law_name","_law_names_here"]:List Str).Nodup:=by decide+kernel
theorem Xz {f fT:Addr} {fd fdT:FuncData} (F:Ql K "_law_places" "_law_places" yb f fd) (B:Zg mg) (hT:jR K mg "_law_take" Qr ["_law_source_here","_law_many"] fT fdT):qz P w K mg base jc 2 f fd QR VT:=by
 have GT:qz P w K mg base jc 1 fT fdT ["_law_source_here","_law_many"] j7:=jN hT.fn
 refine F.okJ ya (λvs H Q E z=>?_) (λcdv A outer s H vs Q E hr z=>?_)
 . obtain⟨l,d,ps,rs,n,sd,t,rfl,_⟩:=z
   rfl
 . obtain⟨l,d,ps,rs,n,sd,t,rfl,g,nf,hd,q⟩:=z
   refine⟨_,qh (qB (i:=2) ya.nd rfl (Or.inr rfl) (QS (N':=["_law_name","_law_others"]) (ix:=[none,none]) (g:=ko K 2 (Zp (jH 0) (Zp (jH 1) kq))) (te:=qZ 0) rfl ⟨rfl,rfl,rfl,rfl,rfl⟩ (jf (jv 0)) (λC s2 H2 fp pins=>
       ⟨Q9 rfl (qF (qr (i:=0) xl rfl (Or.inl rfl)) (qF (qr (i:=1) xl rfl (Or.inl rfl)) js)),jr,jv 0⟩)))
     (qh (Qt (i:=3) (N':=["_law_name","_law_names_here"]) (ix:=[none,some 2]) (tt:=Ye (YD (uy K true) (qZ 0) (qZ 1))) (te:=qZ 0) ya.nd rfl (Or.inl rfl) rfl ⟨rfl,rfl,rfl,rfl,rfl⟩ (jf (qA (qb qE (qb qE (qb qE (qb qE qf)))))) (λC s2 H2 fp pins=>
       ⟨qr (i:=0) uR rfl (Or.inl rfl),Zn (qu Q4 (jv 0) (jv 1) (by with_unfolding_all rfl)),jv 0⟩))
     (qh (qB (i:=4) ya.nd rfl (Or.inl rfl) (qS hT GT hr (by rfl) (qb (jv 1) (qb (ql qy (by rfl) B.len boot_len (qb (jv 0) qf)) qf))))
     (qk (qL (qA (qb (jv 4) (qb (jv 2) (qb (qP qO (jv 3) (qS hT GT hr (by rfl) (qb (jv 1) (qb (ql qy (by rfl) B.len boot_len (qb (jv 3) qf)) qf))) (λ_ _=>rfl)) qf)))))))),?_⟩
   have lps:=g.rows.1
   have le:=g.le
   refine⟨_,rfl,l,rfl,⟨_,.of g.at_⟩,λln hln=>?_⟩
   refine jD (K:=K) (a:=l) (xs:=ps.map V.ref) (λi σ' X=>∃(v0 v1:Option V),σ'=[v0,v1]/\X=upd H ln (.lst (((rs.map (·.1)).take i).map V.str))) ⟨none,none,rfl,rfl⟩ (λi σ' X _ ⟨_,_,_,e⟩=>by rw[e];exact .of (qm g.at_ hln)) ?_ ?_
   . rintro i y σ' X hy ⟨v0,v1,rfl,rfl⟩
     obtain⟨p,t',r,rfl,er,hr',hp,ht⟩:=g.rows.item hy
     have hi:=(List.getElem?_eq_some_iff.mp er).1
     refine⟨p,_,rfl,.of (qm hp hln),rfl,_,_,rfl,_,_,rfl,rfl,?_⟩
     refine⟨_,rfl,_,qd,?_,_,_,rfl,?_⟩
     . rw[List.length_map,List.length_take,List.length_map]
       exact qp (by omega)
     . rw[qY,List.take_add_one,List.getElem?_map,er,List.map_append]
       rfl
   . rintro σ' X ⟨v0,v1,rfl,rfl⟩
     rw[List.length_map,lps,List.take_of_length_le (by rw[List.length_map];exact Nat.le_refl _)]
     have s1:=qg (o:=HO.lst ((rs.map (·.1)).map V.str)) hln
     have h1:upd H ln (.lst ((rs.map (·.1)).map V.str)) ln=some (.lst ((rs.map (·.1)).map V.str)):=qd
     generalize upd H ln (.lst ((rs.map (·.1)).map V.str))=H1 at s1 h1
     refine⟨by show 4<=sizeLine;decide,λl4 hl4=>?_⟩
     have s2:=qg (o:=HO.lst (four.map V.str)) hl4
     have h2:upd H1 l4 (.lst (four.map V.str)) l4=some (.lst (four.map V.str)):=qd
     refine⟨l4,rfl,⟨_,.of h2⟩,λlf hlf=>?_⟩
     have e4:([V.str (Str.ofString "none"),V.str (Str.ofString "nowhere"),V.str (Str.ofString "q"),V.str (Str.ofString "qqqqqqqq")]:List V)=four.map V.str:=rfl
     rw[e4]at hlf ⊢
     generalize upd H1 l4 (.lst (four.map V.str))=H2 at s2 h2 hlf ⊢
     have h12:=s2 _ _ h1
     refine jD (K:=K) (a:=l4) (xs:=four.map V.str) (λi σ' X=>∃(v0:Option V),σ'=[v0,some (.ref ln)]/\X=upd H2 lf (.lst (((four.take i).filter λz=>decide (z∉rs.map (·.1))).map V.str))) ⟨none,rfl,rfl⟩ (λi σ' X _ ⟨_,_,e⟩=>by rw[e];exact .of (qm h2 hlf)) ?_ ?_
     . rintro i y σ' X hy ⟨v0,rfl,rfl⟩
       obtain⟨z,ez,hz,rfl⟩:=QZ hy
       refine⟨_,rfl,_,rfl,ln,_,rfl,.inl (.of (qm h12 hlf)),rfl,QU _,_,rfl,?_⟩
       by_cases m:z∈rs.map (·.1)
       . have e:((four.take (i+1)).filter λz=>decide (z∉rs.map (·.1)))=(four.take i).filter λz=>decide (z∉rs.map (·.1)):=by
           rw[List.take_add_one,ez,List.filter_append]
           have:decide (z∉rs.map (·.1))=false:=decide_eq_false (λn=>n m)
           simp only[Option.toList_some,List.filter_cons,this,List.filter_nil]
           rw[if_neg Bool.false_ne_true,List.append_nil]
         refine jw (by rw[JK m];rfl) ⟨_,rfl,?_⟩
         rw[e]
       . have e:((four.take (i+1)).filter λz=>decide (z∉rs.map (·.1)))=((four.take i).filter λz=>decide (z∉rs.map (·.1)))++[z]:=by
           rw[List.take_add_one,ez,List.filter_append]
           have:decide (z∉rs.map (·.1))=true:=decide_eq_true m
           simp only[Option.toList_some,List.filter_cons,this,List.filter_nil]
           rfl
         have no:YS (.str z) ((rs.map (·.1)).map V.str)=false:=by
           cases e:YS (.str z) ((rs.map (·.1)).map V.str) with
           | false=>rfl
           | true=>exact absurd (Vp.mp e) m
         refine Qd (by rw[no];rfl) ⟨_,rfl,_,qd,?_,_,rfl,?_⟩
         . rw[List.length_map]
           refine qp (Nat.le_trans (List.length_filter_le ..) ?_)
           rw[List.length_take]
           exact Nat.le_trans (Nat.min_le_right _ _) (by decide)
         . rw[qY,e,List.map_append]
           rfl
     . rintro σ' X ⟨v0,rfl,rfl⟩
       rw[List.length_map,List.take_of_length_le (Nat.le_refl _)]
       have ff:=UC nf
       have fm:∀z∈four.filter (λz=>decide (z∉rs.map (·.1))),z∉rs.map (·.1)/\qw z=true:=λz hz=>⟨of_decide_eq_true (List.mem_filter.mp hz).2,UB z (List.mem_filter.mp hz).1⟩
       have fl:(four.filter (λz=>decide (z∉rs.map (·.1)))).length<=4:=List.length_filter_le ..
       generalize four.filter (λz=>decide (z∉rs.map (·.1)))=fs at ff fm fl
       have s3:=qg (o:=HO.lst (fs.map V.str)) hlf
       have h3:upd H2 lf (.lst (fs.map V.str)) lf=some (.lst (fs.map V.str)):=qd
       generalize upd H2 lf (.lst (fs.map V.str))=H3 at s3 h3
       have s03:=s1.trans (s2.trans s3)
       have hd3:=s03 _ _ hd
       have hn3:=(s2.trans s3) _ _ h1
       refine⟨_,rfl,_,rfl,l,_,rfl,.inl (.of (s03 _ _ g.at_)),d,_,n,sd,t,rfl,hd3,by rw[List.length_map,lps];have:=g.pos;omega,by rw[List.length_map,lps];omega,λk n1 t1 k0 k1=>?_⟩
       rw[List.length_map,lps]at k1
       have nfd:lf≠d:=λe=>by rw[e,hd3]at h3;cases h3
       have nnd:ln≠d:=λe=>by rw[e,hd3]at hn3;cases hn3
       have h3':upd H3 d (.dK (qN n1 sd t1)) lf=some (.lst (fs.map V.str)):=by rw[qi nfd];exact h3
       refine⟨_,rfl,_,rfl,_,rfl,_,rfl,_,rfl,lf,_,rfl,.inl (.of h3'),d,_,n1,sd,t1,rfl,qd,by rw[List.length_map];omega,by rw[List.length_map];omega,λj n2 t2 j0 j1=>?_⟩
       rw[List.length_map]at j1
       rw[qY]
       have hj:j.toNat < fs.length:=by omega
       have ez:fs[j.toNat]?=some fs[j.toNat]:=List.getElem?_eq_getElem hj
       have mz:fs[j.toNat]∈fs:=List.getElem_mem hj
       generalize fs[j.toNat]=z at ez mz
       have ej:((j.toNat:Nat):Int)=j:=by omega
       have ej':=jp (xs:=fs.map V.str) (j:=j.toNat) (v:=.str z) (by rw[List.getElem?_map,ez];rfl)
       rw[ej]at ej'
       refine⟨lf,_,j,_,rfl,rfl,.of (by rw[qi nfd];exact h3),ej',by show 3<=sizeLine;decide,λR hR=>?_⟩
       have fr1:Fr H d (upd H3 d (.dK (qN n2 sd t2))):=λb u hb nb=>by rw[qi nb];exact s03 _ _ hb
       have sR:=qg (o:=HO.lst [V.int k,.ref ln,.str z]) hR
       have ek:((k.toNat:Nat):Int)=k:=by omega
       refine q R ln k.toNat z n2 t2 _ (fr1.same sR) (sR _ _ qd) (by rw[ek];exact qd) hln (sR _ _ (by rw[qi nnd];exact hn3)) (by omega) (fm z mz).1 (fm z mz).2
end
end Rh
set_option Elab.async false
set_option linter.all false
set_option maxRecDepth 100000
set_option maxHeartbeats 4000000
namespace Rh
open PySem L2 PyProof.Rows
theorem ZM (ws:List V) (j:Nat):L2.cutV ws none (some (j:Int))=ws.take j:=by
 unfold L2.cutV
 rw[HT.sIx_none,HT.sIx_nat]
 show (ws.drop 0).take (min j ws.length - 0)=_
 rw[List.drop_zero,Nat.sub_zero]
 rcases Nat.le_total j ws.length with h | h
 . rw[Nat.min_eq_left h]
 . rw[Nat.min_eq_right h,List.take_of_length_le (Nat.le_refl _),List.take_of_length_le h]
theorem ZL (ws:List V) (j:Nat) (h:j<=ws.length):L2.cutV ws (some (j:Int)) none=ws.drop j:=by
 unfold L2.cutV
 rw[HT.sIx_none,HT.sIx_nat,Nat.min_eq_left h]
 exact List.take_of_length_le (by rw[List.length_drop];exact Nat.le_refl _)
theorem va {K:PySem.W.Frag} {H:Hp} {q:Addr} {xs:List V} {lo hi:Option Int} {Q:VK} (hq:H q=some (.tup xs)) (k:∀r H',Same H H'->H' r=some (.tup (L2.cutV xs lo hi))->Q (.ref r) H'):xc K (.ref q) lo hi H Q:=by
 by_cases c:HT.sIx xs.length 0 lo=0/\HT.sIx xs.length xs.length hi=xs.length
 . refine .inr ⟨q,xs,rfl,.of hq,c,k q H (Same.refl _) ?_⟩
   unfold L2.cutV
   rw[c.1,c.2,List.drop_zero,Nat.sub_zero,List.take_of_length_le (Nat.le_refl _)]
   exact hq
 . exact .inl ⟨q,xs,rfl,.of hq,c,λp hp=>k p _ (qg hp) qd⟩
theorem qH.set {H:Hp} {ps:List Addr} {rs:JX} {k:Nat} {p' q':Addr} {z:Str} {es:List Str} (h:qH H ps rs) (hp:H p'=some (.tup [.str z,.ref q'])) (hq:H q'=some (.tup (es.map V.str))):qH H (ps.set k p') (rs.set k (z,es)):=⟨by rw[List.length_set,List.length_set,h.1],λi p r e1 e2=>by
 by_cases c:k=i
 . subst c
   have h1:k < ps.length:=by have:=(List.getElem?_eq_some_iff.mp e1).1;rw[List.length_set]at this;exact this
   have h2:k < rs.length:=by rw[<-h.1];exact h1
   rw[List.getElem?_set_self h1]at e1
   rw[List.getElem?_set_self h2]at e2
   obtain rfl:=Option.some.inj e1
   obtain rfl:=Option.some.inj e2
   exact⟨q',hp,hq⟩
 . rw[List.getElem?_set_ne c]at e1 e2
   exact h.2 i p r e1 e2⟩
theorem ZH {rs:JX} {k:Nat} {r:Str×List Str} {es:List Str} (e:rs[k]?=some r):(rs.set k (r.1,es)).map (·.1)=rs.map (·.1):=by
 rw[List.map_set]
 have:(rs.map (·.1))[k]?=some r.1:=by rw[List.getElem?_map,e];rfl
 obtain⟨h1,h2⟩:=List.getElem?_eq_some_iff.mp this
 rw[<-h2]
 exact List.set_getElem_self h1
theorem zR {K:PySem.W.Frag} {H:Hp}:∀zs:List Str,DVs K H (zs.map V.str) (zs.map PyData.str)
 | []=>.nil
 | _::zs=>.cons (.str _) (zR zs)
theorem Zl {z:Str} (h:qw z=true):(reprText z).length<=82:=by
 have h1:=Zb h
 have h2:=StrLaws.reprText_len z λc hc=>Nat.lt_of_le_of_lt (h1.1 c hc) (by decide)
 have:=jA h
 omega
theorem UZ {z:Str} (h:qw z=true):Sz 82 (.str z):=⟨rfl,Nat.zero_le _,Zl h⟩
theorem X8 {r:Str×List Str} (h1:qw r.1=true) (h2:∀z∈r.2,qw z=true) (l:r.2.length<=45):Sz 5000 (zS r):=by
 obtain⟨a1,a2,a3,a4⟩:=YE (n:=82) (ds:=r.2.map PyData.str) λd hd=>by
   obtain⟨z,hz,rfl⟩:=List.mem_map.mp hd
   exact UZ (h2 z hz)
 have i1:=tupleText_len_le (PyData.shownAll (r.2.map PyData.str))
 rw[List.length_map]at a3 a4
 have s1:=Zl h1
 refine⟨?_,?_,?_⟩
 . show (true&&(PyData.showableAll (r.2.map PyData.str)&&true))=true
   rw[a1]
   rfl
 . simp only[zS,PyData.depth,PyData.depthAll,wC]
   omega
 . show (tupleText [reprText r.1,tupleText (PyData.shownAll (r.2.map PyData.str))]).length<=5000
   have i2:=tupleText_len_le [reprText r.1,tupleText (PyData.shownAll (r.2.map PyData.str))]
   simp only[List.map_cons,List.map_nil,List.sum_cons,List.sum_nil,List.length_cons,List.length_nil]at i2
   omega
theorem Jy {K:PySem.W.Frag} {H:Hp}:∀{ps:List Addr} {rs:JX},qH H ps rs->DVs K H (ps.map V.ref) (rs.map zS)
 | [],[],_=>.nil
 | [],_::_,h=>by cases h.1
 | _::_,[],h=>by cases h.1
 | p::ps,r::rs,h=>by
   obtain⟨q,a,b⟩:=h.2 0 p r rfl rfl
   exact .cons (.tup (.of a) (.cons (.str _) (.cons (.tup (.of b) (zR _)) .nil))) (Jy h.tail)
theorem Jm {K:PySem.W.Frag} {H:Hp} {l:Addr} {ps:List Addr} {rs:JX} (hl:H l=some (.lst (ps.map V.ref))) (ra:qH H ps rs) (nm:∀r∈rs,qw r.1=true) (nms:∀r∈rs,∀z∈r.2,qw z=true) (ln:∀r∈rs,r.2.length<=45) (le:rs.length<=20):Qy K H l:=
 Wh hl (Jy ra) (λd hd=>by
   obtain⟨r,hr,rfl⟩:=List.mem_map.mp hd
   exact X8 (nm r hr) (nms r hr) (ln r hr)) (by rw[List.length_map];exact le)
def UN (zs es:List Str) (res:JQ):Prop:=∃(i:Nat) (z:Str),es[i]?=some z/\(es.take i).Nodup/\(∀y∈es.take i,y∈zs)/\((z∉zs/\res=.place z)\/(z∈zs/\z∈es.take i/\res=.twice z))
theorem WQ {K:PySem.W.Frag} {c:C4} {H:Hp} {fo:Addr} {ps':List Addr} {rs rs':JX} {k:Nat} {r':Str×List Str} {res:JQ} (good:jM rs) (raw:jE H fo ps' rs') (nm:rs'.map (·.1)=rs.map (·.1)) (ek:rs'[k]?=some r') (pre:∀j,j < k->rs'[j]?=rs[j]?) (h:UN (rs.map (·.1)) r'.2 res):yP K c H (.ref fo) res:=λH' E s o=>by
 refine .inr ⟨fo,ps',rs',rfl,raw.mono s,.inr (.inl ⟨by rw[nm];exact good.nd,k,r',ek,λj x hj ex=>?_,?_⟩)⟩
 . rw[pre j hj]at ex
   have mx:=List.mem_of_getElem? ex
   rw[nm]
   exact⟨good.rd x mx,good.to x mx⟩
 . rw[nm]
   obtain⟨i,z,a,b,d,e⟩:=h
   refine⟨i,z,a,b,d,?_⟩
   rcases e with ⟨e1,rfl⟩ | ⟨e1,e2,rfl⟩
   . exact .inl ⟨e1,o⟩
   . exact .inr ⟨e1,e2,o⟩
def Yf (K:PySem.W.Frag) (c:C4):Sp:=λvs H Q _=>∃(l d:Addr) (ps:List Addr) (rs:JX) (n s t:Int),vs=[.ref l,.ref d]/\qX H l ps rs/\Zf (rs.map (·.1))/\H d=some (.dK (qN n s t))/\
 ∀(R fo du:Addr) (n' t':Int) (H':Hp) (ps':List Addr) (rs':JX) (res:JQ) (z:Str),Fr H d H'->H' d=some (.dK (qN n' s t'))->H' R=some (.lst [.ref fo,.ref du])->H fo=none->fo≠sysModules->jE H' fo ps' rs'->rs'.map (·.1)=rs.map (·.1)->(∀r∈rs',r.2.length<=45)->
   yP K c H' (.ref fo) res->(res=.place z\/res=.twice z)->qw z=true->H' du=some (.lst [.str res.tag,.str z,.bl true])->Q (.ref R) H'
section
variable {P:Program} {w:World} {K:PySem.W.Frag} {mg:Str->Option Value} {base:Heap}
abbrev nWR:List Str:=["_law_rows_here","_law_source_here","_law_at","_law_names_here","_law_free","_law_name","_law_others","_law_place","_law_found"]
theorem Xr:qK nWR QR (qv uk):=⟨rfl,rfl,rfl,by decide+kernel,rfl,by decide+kernel,by decide+kernel⟩
theorem xh {f fT fPl:Addr} {c:C4} {fd fdT fdPl:FuncData} (F:Ql K "_law_wrong_road" "_law_wrong_road" uk f fd) (B:Zg mg) (G:QA mg) (hT:jR K mg "_law_take" Qr ["_law_source_here","_law_many"] fT fdT) (hPl:jR K mg "_law_places" yb QR fPl fdPl):qz P w K mg base jc 3 f fd QR (Yf K c):=by
 have GT:qz P w K mg base jc 1 fT fdT ["_law_source_here","_law_many"] j7:=jN hT.fn
 have GPl:qz P w K mg base jc 2 fPl fdPl QR VT:=Xz hPl.fn B hT
 refine F.okJ Xr (λvs H Q E z=>?_) (λcdv A outer s H vs Q E hr z=>?_)
 . obtain⟨l,d,ps,rs,n,sd,t,rfl,_⟩:=z
   rfl
 . obtain⟨l,d,ps,rs,n,sd,t,rfl,g,nf,hd,q⟩:=z
   have r1:q5 1 _:=hr.mono (by decide)
   refine⟨_,qh (jy (qS hPl GPl hr (by rfl) (qb (jv 0) (qb (jv 1) qf))) (Q8 rfl (qF (qr (i:=2) Xr.nd rfl (Or.inl rfl)) (qF (qr (i:=3) Xr.nd rfl (Or.inl rfl)) (qF (qr (i:=4) Xr.nd rfl (Or.inl rfl)) js)))))
     (qh (jy (qP qO (jv 0) (jv 2) (λ_ _=>rfl)) (Q9 rfl (qF (qr (i:=5) Xr.nd rfl (Or.inl rfl)) (qF (qr (i:=6) Xr.nd rfl (Or.inl rfl)) js))))
     (qh (qB (i:=7) Xr.nd rfl (Or.inl rfl) (qS hT GT r1 (by rfl) (qb (jv 1) (qb (qG jx (ql qy (by rfl) B.len boot_len (qb (jv 6) qf)) qj) qf))))
     (qh (qB (i:=8) Xr.nd rfl (Or.inl rfl) (ji Qe (by rfl) G.lst boot_list (qb (jv 0) qf)))
     (qh (jy (qM (qb (jv 5) (qb (qG zc (qG zc (jK W0 (jv 6) Qc (Qb (jv 7))) (qM (qb (jv 4) qf))) (jK W0 (jv 6) (Qb (jv 7)) Qc)) qf))) (Zd (jv 8) (jv 2) Qq))
     (qk (qL (qA (qb (jv 8) (qb (qA (qb qE (qb (jv 4) (qb je qf)))) qf))))))))),?_⟩
   have lps:=g.rows.1
   have le:=g.le
   refine⟨_,rfl,_,rfl,l,d,ps,rs,n,sd,t,rfl,g,nf,hd,λR0 ln k fr n1 t1 H1 fr1 hd1 hR0 nln hln hk nfr ifr=>?_⟩
   have g1:qX H1 l ps rs:=⟨fr1 _ _ g.at_ (λe=>by have:=g.at_;rw[e,hd]at this;cases this),⟨lps,λi p r e1 e2=>let ⟨u,a,b⟩:=g.rows.2 i p r e1 e2;⟨u,fr1 _ _ a (λe=>by rw[e,hd]at a;cases a),fr1 _ _ b (λe=>by rw[e,hd]at b;cases b)⟩⟩,g.good,g.pos,g.le⟩
   refine⟨R0,_,rfl,.of hR0,rfl,_,_,rfl,_,_,rfl,_,_,rfl,rfl,?_⟩
   have er:rs[k]?=some rs[k]:=List.getElem?_eq_getElem hk
   have mr:rs[k]∈rs:=List.getElem_mem hk
   generalize rs[k]=r at er mr
   have ep:ps[k]?=some ps[k]:=List.getElem?_eq_getElem (by rw[lps];exact hk)
   generalize ps[k]'(by rw[lps];exact hk)=p at ep
   obtain⟨qo,hp,hqo⟩:=g1.rows.2 k p r ep er
   have lr:=g.good.len r mr
   refine⟨_,rfl,_,rfl,l,_,_,_,rfl,rfl,.of g1.at_,jp (j:=k) (by rw[List.getElem?_map,ep];rfl),p,_,rfl,.of hp,rfl,_,_,rfl,_,_,rfl,rfl,?_⟩
   refine⟨_,rfl,_,rfl,qo,_,rfl,.inr (.of hqo),_,_,rfl,rfl,d,_,n1,sd,t1,rfl,hd1,by rw[List.length_map];omega,by rw[List.length_map];omega,λj n2 t2 j0 j1=>?_⟩
   rw[List.length_map]at j1
   have ej:∃jn:Nat,j=(jn:Int)/\jn<=r.2.length:=⟨j.toNat,by omega,by omega⟩
   obtain⟨jn,rfl,jl⟩:=ej
   have nd:∀{b:Addr} {o:HO},H1 b=some o->(∀kv,o≠.dK kv)->upd H1 d (.dK (qN n2 sd t2)) b=some o:=λ{b o} hb no=>by
     rw[qi (λe=>by rw[e,hd1]at hb;exact no _ (Option.some.inj hb).symm)]
     exact hb
   have hd2:upd H1 d (.dK (qN n2 sd t2)) d=some (.dK (qN n2 sd t2)):=qd
   have g2:qX (upd H1 d (.dK (qN n2 sd t2))) l ps rs:=⟨nd g1.at_ (λ_ z=>nomatch z),⟨lps,λi p r e1 e2=>let ⟨u,a,b⟩:=g1.rows.2 i p r e1 e2;⟨u,nd a (λ_ z=>nomatch z),nd b (λ_ z=>nomatch z)⟩⟩,g.good,g.pos,g.le⟩
   have hqo2:=nd hqo (λ_ z=>nomatch z)
   have fr2:Fr H d (upd H1 d (.dK (qN n2 sd t2))):=fr1.at_d
   generalize upd H1 d (.dK (qN n2 sd t2))=H2 at hd2 g2 hqo2 fr2
   refine⟨_,rfl,l,_,rfl,.inl (.of g2.at_),λfo hfo nfo=>?_⟩
   have s3:=qg (o:=HO.lst (ps.map V.ref)) hfo
   have h3:upd H2 fo (.lst (ps.map V.ref)) fo=some (.lst (ps.map V.ref)):=qd
   have nHfo:H fo=none:=fr2.fresh hd2 hfo
   generalize upd H2 fo (.lst (ps.map V.ref))=H3 at s3 h3
   refine⟨_,rfl,_,rfl,_,rfl,_,rfl,va (s3 _ _ hqo2) λa H4 s4 ha=>⟨_,rfl,by show 1<=sizeLine;decide,λb hb=>?_⟩⟩
   rw[ZM]at ha
   have s5:=qg (o:=HO.tup [V.str fr]) hb
   have h5:upd H4 b (.tup [V.str fr]) b=some (.tup [V.str fr]):=qd
   generalize upd H4 b (.tup [V.str fr])=H5 at s5 h5
   refine⟨a,b,_,_,rfl,rfl,s5 _ _ ha,h5,by rw[List.length_take,List.length_map];exact Nat.le_of_lt (qp (by show min jn _+1<=1000;omega)),λc1 H6 s6 hc1=>⟨_,rfl,_,rfl,_,rfl,?_⟩⟩
   have s36:=(s4.trans s5).trans s6
   refine va (s36 _ _ (s3 _ _ hqo2)) λa2 H7 s7 ha2=>?_
   rw[ZL _ _ (by rw[List.length_map];exact jl)]at ha2
   refine⟨c1,a2,_,_,rfl,rfl,s7 _ _ hc1,ha2,?_,λq' H8 s8 hq'=>⟨by show 2<=sizeLine;decide,λp' hp'=>?_⟩⟩
   . rw[List.length_append,List.length_take,List.length_drop,List.length_map]
     exact Nat.le_of_lt (qp (by show min jn _+1+_<=1000;omega))
   have ees:(r.2.map V.str).take jn++[V.str fr]++(r.2.map V.str).drop jn=(r.2.take jn++[fr]++r.2.drop jn).map V.str:=by
     rw[List.map_append,List.map_append,List.map_take,List.map_drop]
     rfl
   rw[ees]at hq'
   have s9:=qg (o:=HO.tup [V.str r.1,.ref q']) hp'
   have h9:upd H8 p' (.tup [V.str r.1,.ref q']) p'=some (.tup [V.str r.1,.ref q']):=qd
   generalize upd H8 p' (.tup [V.str r.1,.ref q'])=H9 at s9 h9
   have s39:=((s36.trans s7).trans s8).trans s9
   have hfo9:=s39 _ _ h3
   have hq9:=s9 _ _ hq'
   have kx:Wt (ps.map V.ref).length (k:Int)=some k:=by
     unfold Wt
     rw[List.length_map,lps]
     simp [hk]
   refine⟨_,rfl,_,rfl,fo,_,_,k,rfl,rfl,hfo9,kx,?_⟩
   have ems:(ps.map V.ref).set k (V.ref p')=(ps.set k p').map V.ref:=(List.map_set ..).symm
   rw[ems]
   have sU:∀{b:Addr} {o:HO},H b=some o->b≠d->upd H9 fo (.lst ((ps.set k p').map V.ref)) b=some o:=λ{b o} hb nb=>by
     rw[qi (qt hb nHfo)]
     exact s39 _ _ (s3 _ _ (fr2 _ _ hb nb))
   have ra9:qH H9 (ps.set k p') (rs.set k (r.1,r.2.take jn++[fr]++r.2.drop jn)):=(g2.rows.mono (s3.trans s39)).set h9 hq9
   have ndf:d≠fo:=λe=>by rw[<-e,hd2]at hfo;cases hfo
   have hd10:upd H9 fo (.lst ((ps.set k p').map V.ref)) d=some (.dK (qN n2 sd t2)):=by rw[qi ndf];exact s39 _ _ (s3 _ _ hd2)
   have ra10:=ra9.upd_lst (o:=.lst ((ps.set k p').map V.ref)) hfo9
   have h10:upd H9 fo (.lst ((ps.set k p').map V.ref)) fo=some (.lst ((ps.set k p').map V.ref)):=qd
   have fr10:Fr H d (upd H9 fo (.lst ((ps.set k p').map V.ref))):=λb o hb nb=>sU hb nb
   generalize upd H9 fo (.lst ((ps.set k p').map V.ref))=H10 at hd10 ra10 h10 fr10
   refine⟨_,rfl,_,rfl,by show 3<=sizeLine;decide,λdu hdu=>⟨by show 2<=sizeLine;decide,λR hR=>?_⟩⟩
   have s11:=qg (o:=HO.lst [V.str (Str.ofString "place"),.str fr,.bl true]) hdu
   have s12:=qg (o:=HO.lst [V.ref fo,.ref du]) hR
   have s13:=s11.trans s12
   have nm':(rs.set k (r.1,r.2.take jn++[fr]++r.2.drop jn)).map (·.1)=rs.map (·.1):=ZH er
   have mem:∀x∈rs.set k (r.1,r.2.take jn++[fr]++r.2.drop jn),x∈rs\/x=(r.1,r.2.take jn++[fr]++r.2.drop jn):=λx hx=>List.mem_or_eq_of_mem_set hx
   have lnE:(r.2.take jn++[fr]++r.2.drop jn).length=r.2.length+1:=by
     rw[List.length_append,List.length_append,List.length_take,List.length_drop,List.length_singleton]
     omega
   have memE:∀z∈r.2.take jn++[fr]++r.2.drop jn,z∈r.2\/z=fr:=λz hz=>by
     rcases List.mem_append.mp hz with h | h
     . rcases List.mem_append.mp h with h | h
       . exact .inl (List.mem_of_mem_take h)
       . exact .inr (List.mem_singleton.mp h)
     . exact .inl (List.mem_of_mem_drop h)
   have raw:jE H10 fo (ps.set k p') (rs.set k (r.1,r.2.take jn++[fr]++r.2.drop jn)):=⟨h10,ra10,λx hx=>(mem x hx).elim (g.good.nm x) λe=>by rw[e];exact g.good.nm r mr,
     λx hx z hz=>(mem x hx).elim (λh=>g.good.names x h z hz) λe=>by
       rw[e]at hz
       rcases memE z hz with h | h
       . exact g.good.names r mr z h
       . rw[h];exact ifr,
     λx hx=>(mem x hx).elim (λh=>Nat.le_trans (g.good.len x h) (by decide)) λe=>by rw[e];show (r.2.take jn++[fr]++r.2.drop jn).length<=100;omega,
     by rw[List.length_set];exact g.pos,by rw[List.length_set];exact le⟩
   have tk:(r.2.take jn++[fr]++r.2.drop jn).take jn=r.2.take jn:=by
     rw[List.append_assoc,List.take_append_of_le_length (by rw[List.length_take];omega),List.take_take,Nat.min_self]
   have at_:(r.2.take jn++[fr]++r.2.drop jn)[jn]?=some fr:=by
     have l1:(r.2.take jn).length=jn:=by rw[List.length_take];omega
     rw[List.append_assoc,List.getElem?_append_right (by omega),l1,Nat.sub_self]
     rfl
   have ver:yP K c H10 (.ref fo) (.place fr):=WQ g.good raw nm' (List.getElem?_set_self (by omega)) (λj hj=>List.getElem?_set_ne (by omega)) ⟨jn,fr,at_,by rw[tk];exact(g.good.rd r mr).sublist (List.take_sublist _ _),λy hy=>by rw[tk]at hy;exact g.good.to r mr y (List.mem_of_mem_take hy),.inl ⟨nfr,rfl⟩⟩
   refine q R fo du n2 t2 _ (ps.set k p') _ (.place fr) fr (fr10.same s13) (s13 _ _ hd10) qd nHfo nfo (raw.mono s13) nm' (λx hx=>(mem x hx).elim (λh=>Nat.le_trans (g.good.len x h) (by decide)) λe=>by rw[e];show (r.2.take jn++[fr]++r.2.drop jn).length<=45;omega) (λH' E s o=>ver H' E (s13.trans s) o) (.inl rfl) ifr (s12 _ _ qd)
end
end Rh
set_option Elab.async false
set_option linter.all false
set_option maxRecDepth 100000
set_option maxHeartbeats 4000000
namespace Rh
open PySem L2 PyProof.Rows
theorem W1 {K:PySem.W.Frag} {c:C4} {H9:Hp} {fo p' q':Addr} {ps1:List Addr} {rs rs1:JX} {k:Nat} {r:Str×List Str} {es:List Str} {res:JQ} (good:jM rs) (pos:0 < rs.length) (le14:rs.length<=14) (hfo:H9 fo=some (.lst (ps1.map V.ref))) (ra:qH H9 ps1 rs1)
   (nm1:rs1.map (·.1)=rs.map (·.1)) (pre:∀j,j < k->rs1[j]?=rs[j]?) (ok1:∀x∈rs1,(∀z∈x.2,qw z=true)/\x.2.length<=45) (er:rs[k]?=some r) (h9:H9 p'=some (.tup [.str r.1,.ref q'])) (hq:H9 q'=some (.tup (es.map V.str))) (ne:∀z∈es,qw z=true) (le:es.length<=45) (ed:UN (rs.map (·.1)) es res):
   jE (upd H9 fo (.lst ((ps1.set k p').map V.ref))) fo (ps1.set k p') (rs1.set k (r.1,es))/\(rs1.set k (r.1,es)).map (·.1)=rs.map (·.1)/\(∀x∈rs1.set k (r.1,es),x.2.length<=45)/\yP K c (upd H9 fo (.lst ((ps1.set k p').map V.ref))) (.ref fo) res:=by
 have l1:rs1.length=rs.length:=by have:=congrArg List.length nm1;simpa using this
 have hk:=(List.getElem?_eq_some_iff.mp er).1
 have nm':(rs1.set k (r.1,es)).map (·.1)=rs.map (·.1):=by
   rw[List.map_set,nm1]
   have:(rs.map (·.1))[k]?=some r.1:=by rw[List.getElem?_map,er];rfl
   obtain⟨h1,h2⟩:=List.getElem?_eq_some_iff.mp this
   rw[<-h2]
   exact List.set_getElem_self h1
 have mem:∀x∈rs1.set k (r.1,es),x∈rs1\/x=(r.1,es):=λx hx=>List.mem_or_eq_of_mem_set hx
 have lens:∀x∈rs1.set k (r.1,es),x.2.length<=45:=λx hx=>(mem x hx).elim (λh=>(ok1 x h).2) λe=>by rw[e];exact le
 have raw:jE (upd H9 fo (.lst ((ps1.set k p').map V.ref))) fo (ps1.set k p') (rs1.set k (r.1,es)):=⟨qd,(ra.set h9 hq).upd_lst hfo,λx hx=>by
     have:x.1∈(rs1.set k (r.1,es)).map (·.1):=List.mem_map.mpr ⟨x,hx,rfl⟩
     rw[nm']at this
     obtain⟨y,hy,e⟩:=List.mem_map.mp this
     rw[<-e]
     exact good.nm y hy,
   λx hx z hz=>(mem x hx).elim (λh=>(ok1 x h).1 z hz) λe=>by rw[e]at hz;exact ne z hz,
   λx hx=>Nat.le_trans (lens x hx) (by decide),by rw[List.length_set,l1];exact pos,by rw[List.length_set,l1];exact le14⟩
 exact⟨raw,nm',lens,WQ good raw nm' (List.getElem?_set_self (by omega)) (λj hj=>by rw[List.getElem?_set_ne (by omega)];exact pre j hj) ed⟩
section
variable {P:Program} {w:World} {K:PySem.W.Frag} {mg:Str->Option Value} {base:Heap}
abbrev nRT:List Str:=["_law_rows_here","_law_source_here","_law_at","_law_names_here","_law_free","_law_name","_law_others","_law_other","_law_found","_law_some","_law_place"]
theorem z7:qK nRT QR (qv um):=⟨rfl,rfl,rfl,by decide+kernel,rfl,by decide+kernel,by decide+kernel⟩
theorem Ga:(["_law_one","_law_other"]:List Str).Nodup:=by decide+kernel
theorem xi {f fT fPl:Addr} {c:C4} {fd fdT fdPl:FuncData} (F:Ql K "_law_road_twice" "_law_road_twice" um f fd) (B:Zg mg) (G:QA mg) (hT:jR K mg "_law_take" Qr ["_law_source_here","_law_many"] fT fdT) (hPl:jR K mg "_law_places" yb QR fPl fdPl):qz P w K mg base jc 3 f fd QR (Yf K c):=by
 have GT:qz P w K mg base jc 1 fT fdT ["_law_source_here","_law_many"] j7:=jN hT.fn
 have GPl:qz P w K mg base jc 2 fPl fdPl QR VT:=Xz hPl.fn B hT
 refine F.okJ z7 (λvs H Q E z=>?_) (λcdv A outer s H vs Q E hr z=>?_)
 . obtain⟨l,d,ps,rs,n,sd,t,rfl,_⟩:=z
   rfl
 . obtain⟨l,d,ps,rs,n,sd,t,rfl,g,nf,hd,q⟩:=z
   have r1:q5 1 _:=hr.mono (by decide)
   refine⟨_,qh (jy (qS hPl GPl hr (by rfl) (qb (jv 0) (qb (jv 1) qf))) (Q8 rfl (qF (qr (i:=2) z7.nd rfl (Or.inl rfl)) (qF (qr (i:=3) z7.nd rfl (Or.inl rfl)) (qF (qr (i:=4) z7.nd rfl (Or.inl rfl)) js)))))
     (qh (jy (qP qO (jv 0) (jv 2) (λ_ _=>rfl)) (Q9 rfl (qF (qr (i:=5) z7.nd rfl (Or.inl rfl)) (qF (qr (i:=6) z7.nd rfl (Or.inl rfl)) js))))
     (qh (qB (i:=7) z7.nd rfl (Or.inr rfl) (qP qO (jv 3) (qS hT GT r1 (by rfl) (qb (jv 1) (qb (ql qy (by rfl) B.len boot_len (qb (jv 3) qf)) qf))) (λ_ _=>rfl)))
     (qh (qB (i:=8) z7.nd rfl (Or.inl rfl) (ji Qe (by rfl) G.lst boot_list (qb (jv 0) qf)))
     (qh (Qt (i:=9) (N':=["_law_one","_law_other"]) (ix:=[none,some 7]) (tt:=Ye (YD rNe (qZ 0) (qZ 1))) (te:=qZ 0) z7.nd rfl (Or.inl rfl) rfl ⟨rfl,rfl,rfl,rfl,rfl⟩ (zL (jv 6)) (λC s2 H2 fp pins=>
       ⟨qr (i:=0) Ga rfl (Or.inl rfl),Zn (qu zE (jv 0) (jv 1) (qC _)),jv 0⟩))
     (qh (qB (i:=10) z7.nd rfl (Or.inl rfl) (qS hT GT r1 (by rfl) (qb (jv 1) (qb (qG jx (ql qy (by rfl) B.len boot_len (qb (jv 9) qf)) qj) qf))))
     (qh (jy (qM (qb (jv 5) (qb (ji QN (by rfl) G.tup boot_tuple (qb (qG QE (qG QE (qG QE (jK Zi (jv 9) Qc (Qb (jv 10))) (qA (qb (jv 7) qf))) (jK Zi (jv 9) (Qb (jv 10)) Qc)) (qA (qb (jv 7) qf))) qf)) qf))) (Zd (jv 8) (jv 2) Qq))
     (qk (qL (qA (qb (jv 8) (qb (qA (qb qE (qb (jv 7) (qb je qf)))) qf))))))))))),?_⟩
   have lps:=g.rows.1
   have le:=g.le
   refine⟨_,rfl,_,rfl,l,d,ps,rs,n,sd,t,rfl,g,nf,hd,λR0 ln k fr n1 t1 H1 fr1 hd1 hR0 nln hln hk nfr ifr=>?_⟩
   have g1:qX H1 l ps rs:=⟨fr1 _ _ g.at_ (λe=>by have:=g.at_;rw[e,hd]at this;cases this),⟨lps,λi p r e1 e2=>let ⟨u,a,b⟩:=g.rows.2 i p r e1 e2;⟨u,fr1 _ _ a (λe=>by rw[e,hd]at a;cases a),fr1 _ _ b (λe=>by rw[e,hd]at b;cases b)⟩⟩,g.good,g.pos,g.le⟩
   refine⟨R0,_,rfl,.of hR0,rfl,_,_,rfl,_,_,rfl,_,_,rfl,rfl,?_⟩
   have er:rs[k]?=some rs[k]:=List.getElem?_eq_getElem hk
   have mr:rs[k]∈rs:=List.getElem_mem hk
   generalize rs[k]=r at er mr
   have ep:ps[k]?=some ps[k]:=List.getElem?_eq_getElem (by rw[lps];exact hk)
   generalize ps[k]'(by rw[lps];exact hk)=p at ep
   obtain⟨qo,hp,hqo⟩:=g1.rows.2 k p r ep er
   have lr:=g.good.len r mr
   refine⟨_,rfl,_,rfl,l,_,_,_,rfl,rfl,.of g1.at_,jp (j:=k) (by rw[List.getElem?_map,ep];rfl),p,_,rfl,.of hp,rfl,_,_,rfl,_,_,rfl,rfl,?_⟩
   refine⟨_,rfl,_,rfl,_,rfl,ln,_,rfl,.inl (.of hln),d,_,n1,sd,t1,rfl,hd1,by rw[List.length_map,List.length_map];omega,by rw[List.length_map,List.length_map];omega,λo n2 t2 o0 o1=>?_⟩
   rw[List.length_map,List.length_map]at o1
   have nd:∀{b:Addr} {u:HO},H1 b=some u->(∀kv,u≠.dK kv)->upd H1 d (.dK (qN n2 sd t2)) b=some u:=λ{b u} hb no=>by
     rw[qi (λe=>by rw[e,hd1]at hb;exact no _ (Option.some.inj hb).symm)]
     exact hb
   have hd2:upd H1 d (.dK (qN n2 sd t2)) d=some (.dK (qN n2 sd t2)):=qd
   have g2:qX (upd H1 d (.dK (qN n2 sd t2))) l ps rs:=⟨nd g1.at_ (λ_ z=>nomatch z),⟨lps,λi p r e1 e2=>let ⟨u,a,b⟩:=g1.rows.2 i p r e1 e2;⟨u,nd a (λ_ z=>nomatch z),nd b (λ_ z=>nomatch z)⟩⟩,g.good,g.pos,g.le⟩
   have hqo2:=nd hqo (λ_ z=>nomatch z)
   have hln2:=nd hln (λ_ z=>nomatch z)
   have fr2:Fr H d (upd H1 d (.dK (qN n2 sd t2))):=fr1.at_d
   generalize upd H1 d (.dK (qN n2 sd t2))=H2 at hd2 g2 hqo2 fr2 hln2
   have ho:o.toNat < (rs.map (·.1)).length:=by rw[List.length_map];omega
   have eo:(rs.map (·.1))[o.toNat]?=some (rs.map (·.1))[o.toNat]:=List.getElem?_eq_getElem ho
   have mo:(rs.map (·.1))[o.toNat]∈rs.map (·.1):=List.getElem_mem ho
   generalize (rs.map (·.1))[o.toNat]=ot at eo mo
   have eo':=jp (xs:=(rs.map (·.1)).map V.str) (j:=o.toNat) (v:=.str ot) (by rw[List.getElem?_map,eo];rfl)
   rw[show ((o.toNat:Nat):Int)=o by omega]at eo'
   have not_:qw ot=true:=by
     obtain⟨x,hx,e⟩:=List.mem_map.mp mo
     rw[<-e]
     exact g.good.nm x hx
   refine⟨ln,_,o,_,rfl,rfl,.of hln2,eo',_,rfl,l,_,rfl,.inl (.of g2.at_),λfo hfo nfo=>?_⟩
   have s3:=qg (o:=HO.lst (ps.map V.ref)) hfo
   have h3:upd H2 fo (.lst (ps.map V.ref)) fo=some (.lst (ps.map V.ref)):=qd
   have nHfo:H fo=none:=fr2.fresh hd2 hfo
   generalize upd H2 fo (.lst (ps.map V.ref))=H3 at s3 h3
   refine⟨_,rfl,qo,rfl,⟨_,.of (s3 _ _ hqo2)⟩,λlo hlo=>?_⟩
   refine Y0 (K:=K) (a:=qo) (xs:=r.2.map V.str) (λi σ' X=>∃(v0:Option V),σ'=[v0,some (.str ot)]/\X=upd H3 lo (.lst (((r.2.take i).filter λz=>decide (z≠ot)).map V.str))) ⟨none,rfl,rfl⟩ (λi σ' X _ ⟨_,_,e⟩=>by rw[e];exact .of (qm (s3 _ _ hqo2) hlo)) ?_ ?_
   . rintro i y σ' X hy ⟨v0,rfl,rfl⟩
     obtain⟨z,ez,hz,rfl⟩:=QZ hy
     have hi:=(List.getElem?_eq_some_iff.mp ez).1
     refine⟨_,rfl,_,rfl,rfl,_,rfl,?_⟩
     by_cases m:z=ot
     . have e:((r.2.take (i+1)).filter λz=>decide (z≠ot))=(r.2.take i).filter λz=>decide (z≠ot):=by
         rw[List.take_add_one,ez,List.filter_append]
         have:decide (z≠ot)=false:=decide_eq_false (λn=>n m)
         simp only[Option.toList_some,List.filter_cons,this,List.filter_nil]
         rw[if_neg Bool.false_ne_true,List.append_nil]
       refine jw (by rw[m];simp) ⟨_,rfl,?_⟩
       rw[e]
     . have e:((r.2.take (i+1)).filter λz=>decide (z≠ot))=((r.2.take i).filter λz=>decide (z≠ot))++[z]:=by
         rw[List.take_add_one,ez,List.filter_append]
         have:decide (z≠ot)=true:=decide_eq_true m
         simp only[Option.toList_some,List.filter_cons,this,List.filter_nil]
         rfl
       refine Qd (by simp only[Bool.not_eq_true',decide_eq_false_iff_not];exact λz=>m (V.str.inj z)) ⟨_,rfl,_,qd,?_,_,rfl,?_⟩
       . rw[List.length_map]
         refine qp (Nat.le_trans (List.length_filter_le ..) ?_)
         rw[List.length_take]
         omega
       . rw[qY,e,List.map_append]
         rfl
   . rintro σ' X ⟨v0,rfl,rfl⟩
     rw[List.length_map,List.take_of_length_le (Nat.le_refl _)]
     have sn:(r.2.filter λz=>decide (z≠ot)).Nodup:=(g.good.rd r mr).sublist List.filter_sublist
     have sm:∀z∈r.2.filter (λz=>decide (z≠ot)),z∈r.2/\z≠ot:=λz hz=>⟨(List.mem_filter.mp hz).1,of_decide_eq_true (List.mem_filter.mp hz).2⟩
     have sl:(r.2.filter λz=>decide (z≠ot)).length<=r.2.length:=List.length_filter_le ..
     generalize r.2.filter (λz=>decide (z≠ot))=so at sn sm sl
     have s4:=qg (o:=HO.lst (so.map V.str)) hlo
     have h4:upd H3 lo (.lst (so.map V.str)) lo=some (.lst (so.map V.str)):=qd
     generalize upd H3 lo (.lst (so.map V.str))=H4 at s4 h4
     have hd4:=s4 _ _ (s3 _ _ hd2)
     refine⟨_,rfl,_,rfl,lo,_,rfl,.inl (.of h4),_,_,rfl,rfl,d,_,n2,sd,t2,rfl,hd4,by rw[List.length_map];omega,by rw[List.length_map];omega,λj n3 t3 j0 j1=>?_⟩
     rw[List.length_map]at j1
     have ej:∃jn:Nat,j=(jn:Int)/\jn<=so.length:=⟨j.toNat,by omega,by omega⟩
     obtain⟨jn,rfl,jl⟩:=ej
     have nd5:∀{b:Addr} {u:HO},H4 b=some u->(∀kv,u≠.dK kv)->upd H4 d (.dK (qN n3 sd t3)) b=some u:=λ{b u} hb no=>by
       rw[qi (λe=>by rw[e,hd4]at hb;exact no _ (Option.some.inj hb).symm)]
       exact hb
     have hd5:upd H4 d (.dK (qN n3 sd t3)) d=some (.dK (qN n3 sd t3)):=qd
     have ra5:qH (upd H4 d (.dK (qN n3 sd t3))) ps rs:=⟨lps,λi p r e1 e2=>let ⟨u,a,b⟩:=g2.rows.2 i p r e1 e2;⟨u,nd5 (s4 _ _ (s3 _ _ a)) (λ_ z=>nomatch z),nd5 (s4 _ _ (s3 _ _ b)) (λ_ z=>nomatch z)⟩⟩
     have hfo5:=nd5 (s4 _ _ h3) (λ_ z=>nomatch z)
     have hlo5:=nd5 h4 (λ_ z=>nomatch z)
     have fr5:Fr H d (upd H4 d (.dK (qN n3 sd t3))):=(fr2.same (s3.trans s4)).at_d
     generalize upd H4 d (.dK (qN n3 sd t3))=H5 at hd5 ra5 hfo5 hlo5 fr5
     refine⟨_,rfl,_,rfl,_,rfl,_,rfl,lo,_,rfl,.of hlo5,λa1 ha1=>⟨_,rfl,by show 1<=sizeLine;decide,λa2 ha2=>?_⟩⟩
     rw[ZM]at ha2 ⊢
     have u1:=qg (o:=HO.lst ((so.map V.str).take jn)) ha1
     have v1:upd H5 a1 (.lst ((so.map V.str).take jn)) a1=some (.lst ((so.map V.str).take jn)):=qd
     generalize upd H5 a1 (.lst ((so.map V.str).take jn))=G1 at u1 v1 ha2
     have u2:=qg (o:=HO.lst [V.str ot]) ha2
     have v2:upd G1 a2 (.lst [V.str ot]) a2=some (.lst [V.str ot]):=qd
     generalize upd G1 a2 (.lst [V.str ot])=G2 at u2 v2
     have lt:((so.map V.str).take jn).length<=40:=by rw[List.length_take,List.length_map];omega
     refine⟨a1,a2,_,_,rfl,rfl,.of (u2 _ _ v1),.of v2,Nat.le_of_lt (qp (by show _+1<=1000;omega)),λc1 hc1=>?_⟩
     have u3:=qg (o:=HO.lst ((so.map V.str).take jn++[V.str ot])) hc1
     have v3:upd G2 c1 (.lst ((so.map V.str).take jn++[V.str ot])) c1=some (.lst ((so.map V.str).take jn++[V.str ot])):=qd
     generalize upd G2 c1 (.lst ((so.map V.str).take jn++[V.str ot]))=G3 at u3 v3
     have u13:=(u1.trans u2).trans u3
     refine⟨_,rfl,_,rfl,_,rfl,lo,_,rfl,.of (u13 _ _ hlo5),λa3 ha3=>?_⟩
     rw[ZL _ _ (by rw[List.length_map];exact jl)]
     have u4:=qg (o:=HO.lst ((so.map V.str).drop jn)) ha3
     have v4:upd G3 a3 (.lst ((so.map V.str).drop jn)) a3=some (.lst ((so.map V.str).drop jn)):=qd
     generalize upd G3 a3 (.lst ((so.map V.str).drop jn))=G4 at u4 v4
     have lt2:((so.map V.str).drop jn).length<=40:=by rw[List.length_drop,List.length_map];omega
     refine⟨c1,a3,_,_,rfl,rfl,.of (u4 _ _ v3),.of v4,Nat.le_of_lt (qp (by rw[List.length_append];show _+1+_<=1000;omega)),λc2 hc2=>?_⟩
     have u5:=qg (o:=HO.lst ((so.map V.str).take jn++[V.str ot]++(so.map V.str).drop jn)) hc2
     have v5:upd G4 c2 (.lst ((so.map V.str).take jn++[V.str ot]++(so.map V.str).drop jn)) c2=some (.lst ((so.map V.str).take jn++[V.str ot]++(so.map V.str).drop jn)):=qd
     generalize upd G4 c2 (.lst ((so.map V.str).take jn++[V.str ot]++(so.map V.str).drop jn))=G5 at u5 v5
     refine⟨_,rfl,by show 1<=sizeLine;decide,λa4 ha4=>?_⟩
     have u6:=qg (o:=HO.lst [V.str ot]) ha4
     have v6:upd G5 a4 (.lst [V.str ot]) a4=some (.lst [V.str ot]):=qd
     generalize upd G5 a4 (.lst [V.str ot])=G6 at u6 v6
     refine⟨c2,a4,_,_,rfl,rfl,.of (u6 _ _ v5),.of v6,Nat.le_of_lt (qp (by rw[List.length_append,List.length_append];show _+1+_+1<=1000;omega)),λc3 hc3=>?_⟩
     have ees:(so.map V.str).take jn++[V.str ot]++(so.map V.str).drop jn++[V.str ot]=(so.take jn++[ot]++so.drop jn++[ot]).map V.str:=by
       rw[List.map_append,List.map_append,List.map_append,List.map_take,List.map_drop]
       rfl
     rw[ees]
     have u7:=qg (o:=HO.lst ((so.take jn++[ot]++so.drop jn++[ot]).map V.str)) hc3
     have v7:upd G6 c3 (.lst ((so.take jn++[ot]++so.drop jn++[ot]).map V.str)) c3=some (.lst ((so.take jn++[ot]++so.drop jn++[ot]).map V.str)):=qd
     generalize upd G6 c3 (.lst ((so.take jn++[ot]++so.drop jn++[ot]).map V.str))=G7 at u7 v7
     refine⟨c3,_,rfl,.inl ⟨.of v7,λq' hq'=>⟨by show 2<=sizeLine;decide,λp' hp'=>?_⟩⟩⟩
     have u8:=qg (o:=HO.tup ((so.take jn++[ot]++so.drop jn++[ot]).map V.str)) hq'
     have v8:upd G7 q' (.tup ((so.take jn++[ot]++so.drop jn++[ot]).map V.str)) q'=some (.tup ((so.take jn++[ot]++so.drop jn++[ot]).map V.str)):=qd
     generalize upd G7 q' (.tup ((so.take jn++[ot]++so.drop jn++[ot]).map V.str))=G8 at u8 v8 hp'
     have u9:=qg (o:=HO.tup [V.str r.1,.ref q']) hp'
     have h9:upd G8 p' (.tup [V.str r.1,.ref q']) p'=some (.tup [V.str r.1,.ref q']):=qd
     generalize upd G8 p' (.tup [V.str r.1,.ref q'])=H9 at u9 h9
     have u59:Same H5 H9:=(((((u13.trans u4).trans u5).trans u6).trans u7).trans u8).trans u9
     have hfo9:=u59 _ _ hfo5
     have kx:Wt (ps.map V.ref).length (k:Int)=some k:=by
       unfold Wt
       rw[List.length_map,lps]
       simp [hk]
     refine⟨_,rfl,_,rfl,fo,_,_,k,rfl,rfl,hfo9,kx,?_⟩
     have ems:(ps.map V.ref).set k (V.ref p')=(ps.set k p').map V.ref:=(List.map_set ..).symm
     rw[ems]
     have le1:(so.take jn).length=jn:=by rw[List.length_take];omega
     have lE:(so.take jn++[ot]++so.drop jn).length=so.length+1:=by
       rw[List.length_append,List.length_append,List.length_drop,le1,List.length_singleton]
       omega
     have inS:∀z∈so.take jn++[ot]++so.drop jn,z∈r.2\/z=ot:=λz hz=>by
       rcases List.mem_append.mp hz with h | h
       . rcases List.mem_append.mp h with h | h
         . exact .inl (sm z (List.mem_of_mem_take h)).1
         . exact .inr (List.mem_singleton.mp h)
       . exact .inl (sm z (List.mem_of_mem_drop h)).1
     have ndE:(so.take jn++[ot]++so.drop jn).Nodup:=by
       have pm:(so.take jn++[ot]++so.drop jn).Perm (ot::so):=by
         have h1:(so.take jn++[ot]++so.drop jn).Perm ([ot]++so.take jn++so.drop jn):=List.Perm.append_right _ List.perm_append_comm
         rw[List.append_assoc [ot],List.take_append_drop]at h1
         exact h1
       exact pm.nodup_iff.mpr (List.nodup_cons.mpr ⟨λm=>(sm ot m).2 rfl,sn⟩)
     have ed:UN (rs.map (·.1)) (so.take jn++[ot]++so.drop jn++[ot]) (.twice ot):=by
       have tk:(so.take jn++[ot]++so.drop jn++[ot]).take (so.length+1)=so.take jn++[ot]++so.drop jn:=by
         rw[<-lE,List.take_left]
       refine⟨so.length+1,ot,?_,by rw[tk];exact ndE,λy hy=>?_,.inr ⟨mo,?_,rfl⟩⟩
       . rw[List.getElem?_append_right (by rw[lE];exact Nat.le_refl _),lE,Nat.sub_self]
         rfl
       . rw[tk]at hy
         rcases inS y hy with h | h
         . exact g.good.to r mr y h
         . rw[h];exact mo
       . rw[tk]
         exact List.mem_append_left _ (List.mem_append_right _ List.mem_cons_self)
     have nmE:∀z∈so.take jn++[ot]++so.drop jn++[ot],qw z=true:=λz hz=>by
       rcases List.mem_append.mp hz with h | h
       . rcases inS z h with h | h
         . exact g.good.names r mr z h
         . rw[h];exact not_
       . rw[List.mem_singleton.mp h];exact not_
     obtain⟨raw,nm',lens,ver⟩:=W1 (K:=K) (c:=c) g.good g.pos le hfo9 (ra5.mono u59) rfl (λj _=>rfl) (λx hx=>⟨g.good.names x hx,Nat.le_trans (g.good.len x hx) (by decide)⟩) er h9 (u9 _ _ v8) nmE (by rw[List.length_append,lE,List.length_singleton];omega) ed
     have ndf:d≠fo:=λe=>by rw[<-e,hd5]at hfo5;cases hfo5
     have hd10:upd H9 fo (.lst ((ps.set k p').map V.ref)) d=some (.dK (qN n3 sd t3)):=by rw[qi ndf];exact u59 _ _ hd5
     have fr10:Fr H d (upd H9 fo (.lst ((ps.set k p').map V.ref))):=λb u hb nb=>by
       rw[qi (qt hb nHfo)]
       exact u59 _ _ (fr5 _ _ hb nb)
     generalize upd H9 fo (.lst ((ps.set k p').map V.ref))=H10 at raw ver hd10 fr10
     refine⟨_,rfl,_,rfl,by show 3<=sizeLine;decide,λdu hdu=>⟨by show 2<=sizeLine;decide,λR hR=>?_⟩⟩
     have s11:=qg (o:=HO.lst [V.str (Str.ofString "twice"),.str ot,.bl true]) hdu
     have s12:=qg (o:=HO.lst [V.ref fo,.ref du]) hR
     have s13:=s11.trans s12
     exact q R fo du n3 t3 _ (ps.set k p') _ (.twice ot) ot (fr10.same s13) (s13 _ _ hd10) qd nHfo nfo (raw.mono s13) nm' lens (λH' E s o=>ver H' E (s13.trans s) o) (.inr rfl) not_ (s12 _ _ qd)
end
end Rh
set_option Elab.async false
set_option linter.all false
set_option maxRecDepth 100000
set_option maxHeartbeats 4000000
namespace Rh
open PySem L2 PyProof.Rows
theorem qH.app {H:Hp} {ps qs:List Addr} {rs us:JX} (a:qH H ps rs) (b:qH H qs us):qH H (ps++qs) (rs++us):=⟨by rw[List.length_append,List.length_append,a.1,b.1],λi p r e1 e2=>by
 by_cases hi:i < ps.length
 . rw[List.getElem?_append_left hi]at e1
   rw[List.getElem?_append_left (by rw[<-a.1];exact hi)]at e2
   exact a.2 i p r e1 e2
 . rw[List.getElem?_append_right (by omega)]at e1
   rw[List.getElem?_append_right (by rw[<-a.1];omega),<-a.1]at e2
   exact b.2 _ p r e1 e2⟩
theorem qH.takeR {H:Hp} {ps:List Addr} {rs:JX} (a:qH H ps rs) (k:Nat):qH H (ps.take k) (rs.take k):=⟨by rw[List.length_take,List.length_take,a.1],λi p r e1 e2=>by
 have hi:=(List.getElem?_eq_some_iff.mp e1).1
 rw[List.length_take]at hi
 rw[List.getElem?_take_of_lt (by omega)]at e1 e2
 exact a.2 i p r e1 e2⟩
theorem qH.dropR {H:Hp} {ps:List Addr} {rs:JX} (a:qH H ps rs) (k:Nat):qH H (ps.drop k) (rs.drop k):=⟨by rw[List.length_drop,List.length_drop,a.1],λi p r e1 e2=>by
 rw[List.getElem?_drop]at e1 e2
 exact a.2 _ p r e1 e2⟩
theorem qH.oneR {H:Hp} {p q:Addr} {r:Str×List Str} (hp:H p=some (.tup [.str r.1,.ref q])) (hq:H q=some (.tup (r.2.map V.str))):qH H [p] [r]:=⟨rfl,λi p' r' e1 e2=>by
 cases i with
 | zero=>
   obtain rfl:p=p':=by simpa using e1
   obtain rfl:r=r':=by simpa using e2
   exact⟨q,hp,hq⟩
 | succ i=>simp at e1⟩
section
variable {P:Program} {w:World} {K:PySem.W.Frag} {mg:Str->Option Value} {base:Heap}
abbrev nPT:List Str:=["_law_rows_here","_law_source_here","_law_at","_law_names_here","_law_free","_law_place","_law_found"]
theorem V0:qK nPT QR (qv Ky):=⟨rfl,rfl,rfl,by decide+kernel,rfl,by decide+kernel,by decide+kernel⟩
theorem uI {f fT fPl:Addr} {c:C4} {fd fdT fdPl:FuncData} (F:Ql K "_law_place_twice" "_law_place_twice" Ky f fd) (B:Zg mg) (G:QA mg) (hT:jR K mg "_law_take" Qr ["_law_source_here","_law_many"] fT fdT) (hPl:jR K mg "_law_places" yb QR fPl fdPl):qz P w K mg base jc 3 f fd QR (jX K c):=by
 have GT:qz P w K mg base jc 1 fT fdT ["_law_source_here","_law_many"] j7:=jN hT.fn
 have GPl:qz P w K mg base jc 2 fPl fdPl QR VT:=Xz hPl.fn B hT
 refine F.okJ V0 (λvs H Q E z=>?_) (λcdv A outer s H vs Q E hr z=>?_)
 . obtain⟨l,d,ps,rs,n,sd,t,rfl,_⟩:=z
   rfl
 . obtain⟨l,d,ps,rs,n,sd,t,rfl,g,nf,hd,q⟩:=z
   have r1:q5 1 _:=hr.mono (by decide)
   refine⟨_,qh (jy (qS hPl GPl hr (by rfl) (qb (jv 0) (qb (jv 1) qf))) (Q8 rfl (qF (qr (i:=2) V0.nd rfl (Or.inl rfl)) (qF (qr (i:=3) V0.nd rfl (Or.inl rfl)) (qF (qr (i:=4) V0.nd rfl (Or.inl rfl)) js)))))
     (qh (qB (i:=5) V0.nd rfl (Or.inl rfl) (qG jx (qG jx (jv 2) qj) (qS hT GT r1 (by rfl) (qb (jv 1) (qb (qG zD (ql qy (by rfl) B.len boot_len (qb (jv 0) qf)) (jv 2)) qf)))))
     (qh (qB (i:=6) V0.nd rfl (Or.inl rfl) (qG QE (qG QE (jK Zi (jv 0) Qc (Qb (jv 5))) (qA (qb (qM (qb (qP qO (jv 3) (jv 2) (λ_ _=>rfl)) (qb (qM qf) qf))) qf))) (jK Zi (jv 0) (Qb (jv 5)) Qc)))
     (qh (qR (qu JZ (ql qy (by rfl) B.len boot_len (qb (jv 6) qf)) qj (qC _)) (qk (qL (qA (qb (jv 6) (qb (qA (qb qE (qb (ql qy (by rfl) B.len boot_len (qb (jv 6) qf)) (qb je qf)))) qf))))) qD)
     (qk (qL (qA (qb (jv 6) (qb (qA (qb qE (qb (qP qO (jv 3) (jv 2) (λ_ _=>rfl)) (qb je qf)))) qf)))))))),?_⟩
   have lps:=g.rows.1
   have le:=g.le
   refine⟨_,rfl,_,rfl,l,d,ps,rs,n,sd,t,rfl,g,nf,hd,λR0 ln k fr n1 t1 H1 fr1 hd1 hR0 nln hln hk nfr ifr=>?_⟩
   have g1:qX H1 l ps rs:=⟨fr1 _ _ g.at_ (λe=>by have:=g.at_;rw[e,hd]at this;cases this),⟨lps,λi p r e1 e2=>let ⟨u,a,b⟩:=g.rows.2 i p r e1 e2;⟨u,fr1 _ _ a (λe=>by rw[e,hd]at a;cases a),fr1 _ _ b (λe=>by rw[e,hd]at b;cases b)⟩⟩,g.good,g.pos,g.le⟩
   refine⟨R0,_,rfl,.of hR0,rfl,_,_,rfl,_,_,rfl,_,_,rfl,rfl,?_⟩
   have er:rs[k]?=some rs[k]:=List.getElem?_eq_getElem hk
   have mr:rs[k]∈rs:=List.getElem_mem hk
   generalize rs[k]=r at er mr
   refine⟨_,rfl,_,_,rfl,rfl,_,rfl,_,rfl,l,_,rfl,.inl (.of g1.at_),_,rfl,_,_,rfl,rfl,d,_,n1,sd,t1,rfl,hd1,by rw[List.length_map,lps];omega,by rw[List.length_map,lps];omega,λj n2 t2 j0 j1=>⟨_,_,rfl,rfl,?_⟩⟩
   rw[List.length_map,lps]at j1
   have epl:∃pl:Nat,(λi j:Int=>V.int (i+j)) ((λi j:Int=>i+j) (k:Int) 1) j=V.int (pl:Int)/\k < pl/\pl<=rs.length:=⟨((k:Int)+1+j).toNat,congrArg V.int (by show (k:Int)+1+j=_;omega),by omega,by omega⟩
   obtain⟨pl,epl,kpl,plr⟩:=epl
   have epl':(k:Int)+1+j=(pl:Int):=V.int.inj epl
   have nd:∀{b:Addr} {u:HO},H1 b=some u->(∀kv,u≠.dK kv)->upd H1 d (.dK (qN n2 sd t2)) b=some u:=λ{b u} hb no=>by
     rw[qi (λe=>by rw[e,hd1]at hb;exact no _ (Option.some.inj hb).symm)]
     exact hb
   have hd2:upd H1 d (.dK (qN n2 sd t2)) d=some (.dK (qN n2 sd t2)):=qd
   have g2:qX (upd H1 d (.dK (qN n2 sd t2))) l ps rs:=⟨nd g1.at_ (λ_ z=>nomatch z),⟨lps,λi p r e1 e2=>let ⟨u,a,b⟩:=g1.rows.2 i p r e1 e2;⟨u,nd a (λ_ z=>nomatch z),nd b (λ_ z=>nomatch z)⟩⟩,g.good,g.pos,g.le⟩
   have hln2:=nd hln (λ_ z=>nomatch z)
   have fr2:Fr H d (upd H1 d (.dK (qN n2 sd t2))):=fr1.at_d
   generalize upd H1 d (.dK (qN n2 sd t2))=H2 at hd2 g2 fr2 hln2
   have ez:Xd ((rs.map (·.1)).map V.str) (k:Int)=some (.str r.1):=jp (j:=k) (by rw[List.getElem?_map,List.getElem?_map,er];rfl)
   refine⟨_,rfl,_,rfl,_,rfl,l,_,rfl,.of g2.at_,λa1 ha1=>?_⟩
   rw[show L2.cutV (ps.map V.ref) none (some ((k:Int)+1+j))=(ps.map V.ref).take pl by rw[epl'];exact ZM _ _,<-List.map_take]
   have u1:=qg (o:=HO.lst ((ps.take pl).map V.ref)) ha1
   have v1:upd H2 a1 (.lst ((ps.take pl).map V.ref)) a1=some (.lst ((ps.take pl).map V.ref)):=qd
   generalize upd H2 a1 (.lst ((ps.take pl).map V.ref))=G1 at u1 v1
   refine⟨_,rfl,_,rfl,ln,_,_,_,rfl,rfl,.of (u1 _ _ hln2),ez,by show 0<=sizeLine;decide,λqe hqe=>⟨by show 2<=sizeLine;decide,λpe hpe=>⟨by show 1<=sizeLine;decide,λa2 ha2=>?_⟩⟩⟩
   have u2:=qg (o:=HO.tup []) hqe
   have v2:upd G1 qe (.tup []) qe=some (.tup (([]:List Str).map V.str)):=qd
   generalize upd G1 qe (.tup [])=G2 at u2 v2 hpe ha2
   have u3:=qg (o:=HO.tup [V.str r.1,.ref qe]) hpe
   have v3:upd G2 pe (.tup [V.str r.1,.ref qe]) pe=some (.tup [V.str r.1,.ref qe]):=qd
   generalize upd G2 pe (.tup [V.str r.1,.ref qe])=G3 at u3 v3 ha2
   have u4:=qg (o:=HO.lst [V.ref pe]) ha2
   have v4:upd G3 a2 (.lst [V.ref pe]) a2=some (.lst [V.ref pe]):=qd
   generalize upd G3 a2 (.lst [V.ref pe])=G4 at u4 v4
   have lt:((ps.take pl).map V.ref).length=pl:=by rw[List.length_map,List.length_take];omega
   refine⟨a1,a2,_,_,rfl,rfl,.of (((u2.trans u3).trans u4) _ _ v1),.of v4,Nat.le_of_lt (qp (by show _+1<=1000;omega)),λc1 hc1=>?_⟩
   have u5:=qg (o:=HO.lst ((ps.take pl).map V.ref++[V.ref pe])) hc1
   have v5:upd G4 c1 (.lst ((ps.take pl).map V.ref++[V.ref pe])) c1=some (.lst ((ps.take pl).map V.ref++[V.ref pe])):=qd
   generalize upd G4 c1 (.lst ((ps.take pl).map V.ref++[V.ref pe]))=G5 at u5 v5
   have u15:=(((u1.trans u2).trans u3).trans u4).trans u5
   refine⟨_,rfl,_,rfl,_,rfl,l,_,rfl,.of (u15 _ _ g2.at_),λa3 ha3=>?_⟩
   rw[show L2.cutV (ps.map V.ref) (some ((k:Int)+1+j)) none=(ps.map V.ref).drop pl by rw[epl'];exact ZL _ _ (by rw[List.length_map,lps];exact plr),<-List.map_drop]
   have u6:=qg (o:=HO.lst ((ps.drop pl).map V.ref)) ha3
   have v6:upd G5 a3 (.lst ((ps.drop pl).map V.ref)) a3=some (.lst ((ps.drop pl).map V.ref)):=qd
   generalize upd G5 a3 (.lst ((ps.drop pl).map V.ref))=G6 at u6 v6
   have lt2:((ps.drop pl).map V.ref).length=rs.length - pl:=by rw[List.length_map,List.length_drop,lps]
   refine⟨c1,a3,_,_,rfl,rfl,.of (u6 _ _ v5),.of v6,Nat.le_of_lt (qp (by rw[List.length_append];show _+1+_<=1000;omega)),λfo hfo=>?_⟩
   have eps:(ps.take pl).map V.ref++[V.ref pe]++(ps.drop pl).map V.ref=(ps.take pl++[pe]++ps.drop pl).map V.ref:=by
     rw[List.map_append,List.map_append]
     rfl
   rw[eps]
   have u7:=qg (o:=HO.lst ((ps.take pl++[pe]++ps.drop pl).map V.ref)) hfo
   have v7:upd G6 fo (.lst ((ps.take pl++[pe]++ps.drop pl).map V.ref)) fo=some (.lst ((ps.take pl++[pe]++ps.drop pl).map V.ref)):=qd
   generalize upd G6 fo (.lst ((ps.take pl++[pe]++ps.drop pl).map V.ref))=G7 at u7 v7
   have u27:=(u15.trans u6).trans u7
   have u37:=((u4.trans u5).trans u6).trans u7
   have ra:qH G7 (ps.take pl++[pe]++ps.drop pl) (rs.take pl++[(r.1,[])]++rs.drop pl):=(((g2.rows.mono u27).takeR pl).app (.oneR (r:=(r.1,[])) (u37 _ _ v3) ((u3.trans u37) _ _ v2))).app ((g2.rows.mono u27).dropR pl)
   have ll:(rs.take pl++[(r.1,([]:List Str))]++rs.drop pl).length=rs.length+1:=by
     rw[List.length_append,List.length_append,List.length_take,List.length_drop,List.length_singleton]
     omega
   have lp7:=ra.1
   have fr7:Fr H d G7:=fr2.same u27
   have hd7:=u27 _ _ hd2
   have mem:∀x∈rs.take pl++[(r.1,([]:List Str))]++rs.drop pl,x∈rs\/x=(r.1,[]):=λx hx=>by
     rcases List.mem_append.mp hx with h | h
     . rcases List.mem_append.mp h with h | h
       . exact .inl (List.mem_of_mem_take h)
       . exact .inr (List.mem_singleton.mp h)
     . exact .inl (List.mem_of_mem_drop h)
   have nm:∀x∈rs.take pl++[(r.1,([]:List Str))]++rs.drop pl,qw x.1=true:=λx hx=>(mem x hx).elim (g.good.nm x) λe=>by rw[e];exact g.good.nm r mr
   have nms:∀x∈rs.take pl++[(r.1,([]:List Str))]++rs.drop pl,∀z∈x.2,qw z=true:=λx hx z hz=>(mem x hx).elim (λh=>g.good.names x h z hz) λe=>by rw[e]at hz;cases hz
   have lns:∀x∈rs.take pl++[(r.1,([]:List Str))]++rs.drop pl,x.2.length<=40:=λx hx=>(mem x hx).elim (g.good.len x) λe=>by rw[e];exact Nat.zero_le _
   have rep:Qy K G7 fo:=Jm v7 ra nm nms (λx hx=>Nat.le_trans (lns x hx) (by decide)) (by omega)
   generalize hrs':rs.take pl++[(r.1,([]:List Str))]++rs.drop pl=rs' at ra ll nm nms lns lp7
   have lp8:((ps.take pl++[pe]++ps.drop pl).map V.ref).length=rs.length+1:=by rw[List.length_map,lp7,ll]
   refine⟨_,rfl,fo,_,rfl,.inl (.of v7),_,_,rfl,rfl,_,rfl,?_⟩
   by_cases cc:14 < rs.length+1
   . refine Qd (decide_eq_true (by show (14:Int) < _;rw[lp8];omega)) ?_
     refine⟨_,rfl,_,rfl,fo,_,rfl,.inl (.of v7),by show 3<=sizeLine;decide,λdu hdu=>⟨by show 2<=sizeLine;decide,λR hR=>?_⟩⟩
     rw[lp8]at hR ⊢
     have s11:=qg (o:=HO.lst [V.str (Str.ofString "many"),.int ((rs.length+1:Nat):Int),.bl true]) hdu
     have s12:=qg (o:=HO.lst [V.ref fo,.ref du]) hR
     have s13:=s11.trans s12
     refine q R fo du n2 t2 _ (fr7.same s13) (s13 _ _ hd7) qd (rep.keep s13.keep) (.inr ⟨.many (rs.length+1),λH' E s o=>.inl (.inr (.inr (.inl ⟨fo,_,rfl,s _ _ (s13 _ _ v7),by rw[lp8];exact cc,by rw[lp8];omega,?_⟩))),s12 _ _ qd,(λz e=>nomatch e),λn e=>?_⟩)
     . rw[lp8];exact o
     . have:=V.int.inj e
       omega
   . refine jw (decide_eq_false (by show ¬(14:Int) < _;rw[lp8];omega)) ?_
     refine⟨_,rfl,_,rfl,_,rfl,ln,_,_,_,rfl,rfl,.of (u27 _ _ hln2),ez,by show 3<=sizeLine;decide,λdu hdu=>⟨by show 2<=sizeLine;decide,λR hR=>?_⟩⟩
     have s11:=qg (o:=HO.lst [V.str (Str.ofString "twice"),.str r.1,.bl true]) hdu
     have s12:=qg (o:=HO.lst [V.ref fo,.ref du]) hR
     have s13:=s11.trans s12
     have raw:jE G7 fo (ps.take pl++[pe]++ps.drop pl) rs':=⟨v7,ra,nm,nms,λx hx=>Nat.le_trans (lns x hx) (by decide),by omega,by omega⟩
     have en:rs'.map (·.1)=(rs.map (·.1)).take pl++[r.1]++(rs.map (·.1)).drop pl:=by
       rw[<-hrs',List.map_append,List.map_append,List.map_take,List.map_drop]
       rfl
     have lt3:((rs.map (·.1)).take pl).length=pl:=by rw[List.length_take,List.length_map];omega
     have tk:(rs'.map (·.1)).take pl=(rs.map (·.1)).take pl:=by
       rw[en,List.append_assoc,List.take_append_of_le_length (by omega),List.take_take,Nat.min_self]
     refine q R fo du n2 t2 _ (fr7.same s13) (s13 _ _ hd7) qd (rep.keep s13.keep) (.inr ⟨.twice r.1,λH' E s o=>.inr ⟨fo,_,rs',rfl,raw.mono (s13.trans s),.inl ⟨pl,r.1,?_,?_,?_,o⟩⟩,s12 _ _ qd,λz e=>?_,(λn e=>nomatch e)⟩)
     . rw[en,List.append_assoc,List.getElem?_append_right (by omega),lt3,Nat.sub_self]
       rfl
     . rw[tk]
       exact List.mem_of_getElem? (i:=k) (by rw[List.getElem?_take_of_lt kpl,List.getElem?_map,er];rfl)
     . rw[tk]
       exact g.good.nd.sublist (List.take_sublist _ _)
     . obtain rfl:=V.str.inj e
       exact⟨Nat.le_trans (jA (g.good.nm r mr)) (by decide),(Zb (g.good.nm r mr)).1⟩
end
end Rh
set_option Elab.async false
set_option linter.all false
set_option maxRecDepth 100000
set_option maxHeartbeats 4000000
namespace Rh
open PySem L2 PyProof.Rows
structure IT (K:PySem.W.Frag) (H:Hp) (n:Nat) (v:V) (d:PyData):Prop where
 dh:DH K H v d
 dv:DV K H v d
 sh:d.showable=true
 dp:d.depth<=3
 ln:d.shown.length<=n
theorem IT.le {K:PySem.W.Frag} {H:Hp} {n m:Nat} {v:V} {d:PyData} (h:IT K H n v d) (l:n<=m):IT K H m v d:=⟨h.dh,h.dv,h.sh,h.dp,Nat.le_trans h.ln l⟩
def Ug (z:Str):Prop:=z.length<=20/\∀c∈z.cps.toList,c<=122
theorem YR {K:PySem.W.Frag} {H:Hp} {z:Str} (h:Ug z):IT K H 202 (.str z) (.str z):=⟨.str z (by have:=h.1;omega),.str z,rfl,Nat.zero_le _,by
 have:=StrLaws.reprText_len z λc hc=>Nat.lt_of_le_of_lt (h.2 c hc) (by decide)
 have:=h.1
 show (reprText z).length<=202
 omega⟩
theorem zF {z:Str} (h:qw z=true):Ug z:=⟨Nat.le_trans (jA h) (by decide),(Zb h).1⟩
theorem yF {K:PySem.W.Frag} {H:Hp} {q:Addr} {zs:List Str} (hq:H q=some (.tup (zs.map V.str))) (h:∀z∈zs,qw z=true) (l:zs.length<=25):IT K H 2200 (.ref q) (.tuple (zs.map PyData.str)):=by
 obtain⟨a1,a2,a3,a4⟩:=YE (n:=82) (ds:=zs.map PyData.str) λd hd=>by
   obtain⟨z,hz,rfl⟩:=List.mem_map.mp hd
   exact UZ (h z hz)
 have i1:=tupleText_len_le (PyData.shownAll (zs.map PyData.str))
 rw[List.length_map]at a3 a4
 refine⟨.tup hq (by rw[List.length_map];omega) (zX λz hz=>Nat.le_trans (jA (h z hz)) (by decide)),.tup (.of hq) (zR _),a1,?_,?_⟩
 . simp only[PyData.depth,wC]
   omega
 . show (tupleText (PyData.shownAll (zs.map PyData.str))).length<=2200
   omega
inductive VL (K:PySem.W.Frag) (H:Hp):Nat->List V->List PyData->Prop
 | nil:VL K H 0 [] []
 | cons {n m:Nat} {v:V} {d:PyData} {vs:List V} {ds:List PyData}:IT K H n v d->VL K H m vs ds->VL K H (n+m) (v::vs) (d::ds)
theorem VL.all {K:PySem.W.Frag} {H:Hp}:∀{n:Nat} {vs:List V} {ds:List PyData},VL K H n vs ds->DHs K H vs ds/\DVs K H vs ds/\PyData.showableAll ds=true/\PyData.depthAll ds<=3/\((PyData.shownAll ds).map (·.length)).sum<=n/\(PyData.shownAll ds).length=vs.length
 | _,_,_,.nil=>⟨.nil,.nil,rfl,by rw[PyData.depthAll];decide,Nat.le_refl _,rfl⟩
 | _,_,_,.cons h hs=>by
   obtain⟨a,b,c,d,e,f⟩:=hs.all
   refine⟨.cons h.dh a,.cons h.dv b,by rw[PyData.showableAll,h.sh,c];rfl,?_,?_,by rw[PyData.shownAll,List.length_cons,List.length_cons,f]⟩
   . rw[PyData.depthAll]
     have:=h.dp
     omega
   . rw[PyData.shownAll,List.map_cons,List.sum_cons]
     have:=h.ln
     omega
def Z2 (K:PySem.W.Frag) (H:Hp) (v:V):Prop:=∃d,DH K H v d/\z8 d=false/\Sz 5000 d/\(DV K H v d\/RV K H v d)
theorem zI {K:PySem.W.Frag} {H:Hp} {n:Nat} {p:Addr} {vs:List V} {ds:List PyData} (hp:H p=some (.tup vs)) (h:VL K H n vs ds) (l:vs.length<=10) (ln:n<=4900) (no:z8 (.tuple ds)=false):Z2 K H (.ref p):=by
 obtain⟨a,b,c,d,e,f⟩:=h.all
 have i1:=tupleText_len_le (PyData.shownAll ds)
 refine⟨.tuple ds,.tup hp (by omega) a,no,⟨c,by simp only[PyData.depth];omega,?_⟩,.inl (.tup (.of hp) b)⟩
 show (tupleText (PyData.shownAll ds)).length<=5000
 omega
theorem wa {K:PySem.W.Frag} {H:Hp} {n:Nat} {p:Addr} {vs:List V} {ds:List PyData} (hp:H p=some (.lst vs)) (h:VL K H n vs ds) (l:vs.length<=10) (ln:n<=4900):Z2 K H (.ref p):=by
 obtain⟨a,b,c,d,e,f⟩:=h.all
 have i1:=listText_len_le (PyData.shownAll ds)
 refine⟨.list ds,.lst hp b,rfl,⟨c,by simp only[PyData.depth];omega,?_⟩,.inl (.lst (.of hp) b)⟩
 show (listText (PyData.shownAll ds)).length<=5000
 omega
theorem xk {K:PySem.W.Frag} {H:Hp} {n:Nat} {v:V} {d:PyData} (h:IT K H n v d) (l:n<=5000) (no:z8 d=false):Z2 K H v:=⟨d,h.dh,no,⟨h.sh,Nat.le_trans h.dp (by decide),Nat.le_trans h.ln l⟩,.inl h.dv⟩
def Km (K:PySem.W.Frag) (H:Hp) (v:V):Prop:=∃d,IT K H 300 v d/\QT d=false
theorem zG {K:PySem.W.Frag} {H:Hp} {z:Str} (h:Ug z) (n:qw z=false):Km K H (.str z):=⟨.str z,(YR h).le (by decide),n⟩
def Ui (la ta:Addr):List V:=[.str (Str.ofString ""),.str (Str.ofString "A"),.str (Str.ofString "a1"),.str (Str.ofString "abcdefghi"),.str (Str.ofString "a b"),.int 5,.non,.ref la,.ref ta,.bl true,.str (Str.ofString "mill\n"),.str (Str.ofString "\nmill")]
instance (z:Str):Decidable (Ug z):=by unfold Ug;exact inferInstance
theorem yw {K:PySem.W.Frag} {H:Hp} {la ta:Addr} (h1:H la=some (.lst [.str (Str.ofString "a")])) (h2:H ta=some (.tup [.str (Str.ofString "a")])):∀v∈Ui la ta,Km K H v:=by
 intro v hv
 simp only[Ui,List.mem_cons,List.mem_nil_iff,or_false]at hv
 have sa:Ug (Str.ofString "a"):=by decide+kernel
 rcases hv with rfl | rfl | rfl | rfl | rfl | rfl | rfl | rfl | rfl | rfl | rfl | rfl
 . exact zG (by decide+kernel) (by decide+kernel)
 . exact zG (by decide+kernel) (by decide+kernel)
 . exact zG (by decide+kernel) (by decide+kernel)
 . exact zG (by decide+kernel) (by decide+kernel)
 . exact zG (by decide+kernel) (by decide+kernel)
 . exact⟨.int 5,⟨.int 5,.int 5,by decide+kernel,Nat.zero_le _,by decide+kernel⟩,rfl⟩
 . exact⟨.none,⟨.non,.non,rfl,Nat.zero_le _,by decide+kernel⟩,rfl⟩
 . exact⟨.list [.str (Str.ofString "a")],⟨.lst h1 (.cons (.str _) .nil),.lst (.of h1) (.cons (.str _) .nil),rfl,by decide+kernel,by decide+kernel⟩,rfl⟩
 . exact⟨.tuple [.str (Str.ofString "a")],⟨.tup h2 (by decide) (.cons (.str _ (by decide+kernel)) .nil),.tup (.of h2) (.cons (.str _) .nil),rfl,by decide+kernel,by decide+kernel⟩,rfl⟩
 . exact⟨.bool true,⟨.bl true,.bl true,rfl,Nat.zero_le _,by decide+kernel⟩,rfl⟩
 . exact zG (by decide+kernel) (by decide+kernel)
 . exact zG (by decide+kernel) (by decide+kernel)
theorem Vo {K:PySem.W.Frag} {H:Hp} {z:Str} (h:qw z=true):IT K H 82 (.str z) (.str z):=⟨.str z (Nat.le_trans (jA h) (by decide)),.str z,rfl,Nat.zero_le _,Zl h⟩
theorem JJ {K:PySem.W.Frag} {H:Hp}:∀{zs:List Str},(∀z∈zs,qw z=true)->∃n,n<=82*zs.length/\VL K H n (zs.map V.str) (zs.map PyData.str)
 | [],_=>⟨0,Nat.le_refl _,.nil⟩
 | z::zs,h=>by
   obtain⟨n,ln,t⟩:=JJ (K:=K) (H:=H) λy hy=>h y (List.mem_cons_of_mem _ hy)
   exact⟨82+n,by rw[List.length_cons];omega,.cons (Vo (h z List.mem_cons_self)) t⟩
theorem VL.app {K:PySem.W.Frag} {H:Hp} {m:Nat} {ws:List V} {es:List PyData} (b:VL K H m ws es):∀{n:Nat} {vs:List V} {ds:List PyData},VL K H n vs ds->VL K H (n+m) (vs++ws) (ds++es)
 | _,_,_,.nil=>by rw[Nat.zero_add];exact b
 | _,_,_,.cons h hs=>by rw[Nat.add_assoc];exact .cons h (VL.app b hs)
theorem vM {K:PySem.W.Frag} {H:Hp} {t a:Addr} {z:Str} {di:PyData} (ht:H t=some (.tup [.str z,.ref a])) (iz:qw z=true) (dh:DH K H (.ref a) di) (dv:DV K H (.ref a) di) (sh:di.showable=true) (dp:di.depth<=4) (ln:di.shown.length<=4500) (no:VP di=false):Z2 K H (.ref t):=by
 refine⟨.tuple [.str z,di],.tup ht (by show 2<=100;decide) (.cons (Vo (K:=K) (H:=H) iz).dh (.cons dh .nil)),?_,⟨?_,?_,?_⟩,.inl (.tup (.of ht) (.cons (.str z) (.cons dv .nil)))⟩
 . show (QT (.str z)&&VP di)=false
   rw[no,Bool.and_false]
 . show (true&&(di.showable&&true))=true
   rw[sh]
   rfl
 . simp only[PyData.depth,PyData.depthAll]
   omega
 . show (tupleText [reprText z,di.shown]).length<=5000
   have i2:=tupleText_len_le [reprText z,di.shown]
   have:=Zl iz
   simp only[List.map_cons,List.map_nil,List.sum_cons,List.sum_nil,List.length_cons,List.length_nil]at i2
   omega
theorem vN {K:PySem.W.Frag} {H:Hp} {t a:Addr} {z:Str} {n:Nat} {vs:List V} {ds:List PyData} (ht:H t=some (.tup [.str z,.ref a])) (iz:qw z=true) (ha:H a=some (.tup vs)) (it:VL K H n vs ds) (ln:n<=4000) (lv:vs.length<=60) (no:ds.all QT=false):Z2 K H (.ref t):=by
 obtain⟨x1,x2,x3,x4,x5,x6⟩:=it.all
 have i1:=tupleText_len_le (PyData.shownAll ds)
 refine vM ht iz (.tup ha (by omega) x1) (.tup (.of ha) x2) x3 (by simp only[PyData.depth];omega) ?_ no
 show (tupleText (PyData.shownAll ds)).length<=4500
 omega
/-- all stays but lists of old -/
def Kt (H J G:Hp):Prop:=∀(b:Addr) (o:HO),J b=some o->((∀xs,o≠.lst xs)\/H b=none)->G b=some o
theorem Kt.mono {H J J' G:Hp} (s:Same J J') (k:Kt H J' G):Kt H J G:=λb o h c=>k b o (s _ _ h) c
theorem none_of {H J:Hp} {b:Addr} (s:Same H J) (h:J b=none):H b=none:=by
 cases e:H b with
 | none=>rfl
 | some o=>rw[s _ _ e]at h;cases h
def xH (K:PySem.W.Frag):Sp:=λvs H Q _=>∃(p q:Addr) (r:Str×List Str) (n:Int),vs=[.ref p,.int n]/\H p=some (.tup [.str r.1,.ref q])/\H q=some (.tup (r.2.map V.str))/\qw r.1=true/\(∀z∈r.2,qw z=true)/\r.2.length<=25/\0<=n/\n < 2^60/\∀v H',Same H H'->(∀G,Kt H H' G->Z2 K G v)->Q v H'
theorem WF {xs:List V} {i:Int} (h0:0<=i) (h1:i < xs.length):∃v,v∈xs/\Xd xs i=some v:=by
 have hi:i.toNat < xs.length:=by omega
 have:=jp (xs:=xs) (j:=i.toNat) (v:=xs[i.toNat]) (List.getElem?_eq_getElem hi)
 rw[show ((i.toNat:Nat):Int)=i by omega]at this
 exact⟨_,List.getElem_mem hi,this⟩
theorem wl {i m:Int} (h:0 < m):0<=i % m/\i % m < m:=⟨Int.emod_nonneg _ (by omega),Int.emod_lt_of_pos _ h⟩
section
variable {P:Program} {w:World} {K:PySem.W.Frag} {mg:Str->Option Value} {base:Heap}
abbrev nBR:List Str:=["_law_row","_law_number","_law_name","_law_others","_law_odd","_law_some","_law_strange"]
theorem V1:qK nBR ["_law_row","_law_number"] (qv uo):=⟨rfl,rfl,rfl,by decide+kernel,rfl,by decide+kernel,by decide+kernel⟩
theorem xj {f:Addr} {fd:FuncData} (F:Ql K "_law_bad_row" "_law_bad_row" uo f fd) (G:QA mg):qz P w K mg base jc 1 f fd ["_law_row","_law_number"] (xH K):=by
 refine F.okJ V1 (λvs H Q E z=>?_) (λcdv A outer s H vs Q E hr z=>?_)
 . obtain⟨p,q,r,n,rfl,_⟩:=z
   rfl
 . obtain⟨p,qo,r,n,rfl,hp,hqo,in1,inz,l40,n0,n60,q⟩:=z
   refine⟨_,qh (jy (jv 0) (Q9 rfl (qF (qr (i:=2) V1.nd rfl (Or.inl rfl)) (qF (qr (i:=3) V1.nd rfl (Or.inl rfl)) js))))
     (qh (qB (i:=4) V1.nd rfl (Or.inl rfl) (qP qO (qA (qb qE (qb qE (qb qE (qb qE (qb qE (qb qj (qb zM (qb (qA (qb qE qf)) (qb (qM (qb qE qf)) (qb je (qb qE (qb qE qf))))))))))))) (qG jP (qG Z9 (jv 1) qj) qj) (λ_ _=>rfl)))
     (qh (qB (i:=5) V1.nd rfl (Or.inl rfl) (qA (qb (qM (qb (jv 4) (qb (jv 3) qf))) (qb (qM (qb (jv 2) (qb (qG zc (jv 3) (qM (qb (jv 4) qf))) qf))) (qb (qM (qb (jv 2) (qb (qG zc (qM (qb (jv 4) qf)) (jv 3)) qf))) (qb (qM (qb (jv 2) (qb (ji Zt (by rfl) G.lst boot_list (qb (jv 3) qf)) qf))) (qb (qM (qb (jv 2) qf)) qf)))))))
     (qh (qB (i:=6) V1.nd rfl (Or.inl rfl) (qP qO (qA (qb zM (qb qj (qb qE (qb Qw (qb (qM qf) (qb (jv 2) (qb (qM (qb (jv 3) (qb (jv 2) qf))) qf)))))))) (qG jP (qG Z9 (jv 1) qj) qj) (λ_ _=>rfl)))
     (qk (qL (qP qO (qG QE (jv 5) (qA (qb (qM (qb (jv 2) (qb (jv 3) (qb (jv 3) qf)))) (qb (qA (qb (jv 2) (qb (jv 3) qf))) (qb (jv 6) qf))))) (qG jP (jv 1) qj) (λ_ _=>rfl))))))),?_⟩
   refine⟨_,rfl,p,_,rfl,.of hp,rfl,_,_,rfl,_,_,rfl,rfl,?_⟩
   refine⟨by show 1<=sizeLine;decide,λla hla=>⟨by show 1<=sizeLine;decide,λta hta=>⟨by show 12<=sizeLine;decide,λlo hlo=>?_⟩⟩⟩
   have s1:=qg (o:=HO.lst [V.str (Str.ofString "a")]) hla
   have h1:upd H la (.lst [V.str (Str.ofString "a")]) la=some (.lst [V.str (Str.ofString "a")]):=qd
   generalize upd H la (.lst [V.str (Str.ofString "a")])=H1 at s1 h1 hta hlo ⊢
   have s2:=qg (o:=HO.tup [V.str (Str.ofString "a")]) hta
   have h2:upd H1 ta (.tup [V.str (Str.ofString "a")]) ta=some (.tup [V.str (Str.ofString "a")]):=qd
   generalize upd H1 ta (.tup [V.str (Str.ofString "a")])=H2 at s2 h2 hlo ⊢
   have eL:[V.str (Str.ofString ""),.str (Str.ofString "A"),.str (Str.ofString "a1"),.str (Str.ofString "abcdefghi"),.str (Str.ofString "a b"),.int 5,.non,.ref la,.ref ta,.bl true,.str (Str.ofString "mill\n"),.str (Str.ofString "\nmill")]=Ui la ta:=rfl
   obtain⟨m0,m1⟩:=wl (i:=n / 8) (m:=12) (by decide)
   obtain⟨ov,mov,eov⟩:=WF (xs:=Ui la ta) m0 (by show _ < (12:Int);exact m1)
   have s3:=qg (o:=HO.lst (Ui la ta)) hlo
   refine⟨_,rfl,_,_,rfl,rfl,⟨by decide,by decide⟩,_,_,rfl,rfl,(by show (0:Int) < 12;decide),lo,_,_,ov,rfl,rfl,.of qd,eov,?_⟩
   have s03:=(s1.trans s2).trans s3
   rw[eL]
   generalize upd H2 lo (.lst (Ui la ta))=H3 at s3 s03
   have hq3:=s03 _ _ hqo
   -- the five
   refine⟨_,rfl,_,rfl,by show 2<=sizeLine;decide,λt0 ht0=>?_⟩
   have u1:=qg (o:=HO.tup [ov,V.ref qo]) ht0
   have w1:upd H3 t0 (.tup [ov,V.ref qo]) t0=some (.tup [ov,V.ref qo]):=qd
   generalize upd H3 t0 (.tup [ov,V.ref qo])=G1 at u1 w1
   refine⟨_,rfl,_,rfl,_,rfl,by show 1<=sizeLine;decide,λx1 hx1=>?_⟩
   have u2:=qg (o:=HO.tup [ov]) hx1
   have w2:upd G1 x1 (.tup [ov]) x1=some (.tup [ov]):=qd
   generalize upd G1 x1 (.tup [ov])=G2 at u2 w2
   refine⟨qo,x1,_,_,rfl,rfl,(u1.trans u2) _ _ hq3,w2,by rw[List.length_map];exact Nat.le_of_lt (qp (by show _+1<=1000;omega)),λr1 G3 u3 w3=>⟨by show 2<=sizeLine;decide,λt1 ht1=>?_⟩⟩
   have u4:=qg (o:=HO.tup [V.str r.1,.ref r1]) ht1
   have w4:upd G3 t1 (.tup [V.str r.1,.ref r1]) t1=some (.tup [V.str r.1,.ref r1]):=qd
   generalize upd G3 t1 (.tup [V.str r.1,.ref r1])=G4 at u4 w4
   have u14:=((u1.trans u2).trans u3).trans u4
   refine⟨_,rfl,_,rfl,by show 1<=sizeLine;decide,λx2 hx2=>?_⟩
   have u5:=qg (o:=HO.tup [ov]) hx2
   have w5:upd G4 x2 (.tup [ov]) x2=some (.tup [ov]):=qd
   generalize upd G4 x2 (.tup [ov])=G5 at u5 w5
   refine⟨_,rfl,x2,qo,_,_,rfl,rfl,w5,(u14.trans u5) _ _ hq3,by rw[List.length_map];exact Nat.le_of_lt (qp (by show 1+_<=1000;omega)),λr2 G6 u6 w6=>⟨by show 2<=sizeLine;decide,λt2 ht2=>?_⟩⟩
   have u7:=qg (o:=HO.tup [V.str r.1,.ref r2]) ht2
   have w7:upd G6 t2 (.tup [V.str r.1,.ref r2]) t2=some (.tup [V.str r.1,.ref r2]):=qd
   generalize upd G6 t2 (.tup [V.str r.1,.ref r2])=G7 at u7 w7
   have u17:=((u14.trans u5).trans u6).trans u7
   refine⟨_,rfl,_,rfl,qo,_,rfl,.inr (.of (u17 _ _ hq3)),λl3 hl3=>⟨by show 2<=sizeLine;decide,λt3 ht3=>?_⟩⟩
   have u8:=qg (o:=HO.lst (r.2.map V.str)) hl3
   have w8:upd G7 l3 (.lst (r.2.map V.str)) l3=some (.lst (r.2.map V.str)):=qd
   generalize upd G7 l3 (.lst (r.2.map V.str))=G8 at u8 w8 ht3 ⊢
   have u9:=qg (o:=HO.tup [V.str r.1,.ref l3]) ht3
   have w9:upd G8 t3 (.tup [V.str r.1,.ref l3]) t3=some (.tup [V.str r.1,.ref l3]):=qd
   generalize upd G8 t3 (.tup [V.str r.1,.ref l3])=G9 at u9 w9
   refine⟨_,rfl,by show 1<=sizeLine;decide,λt4 ht4=>⟨by show 5<=sizeLine;decide,λso hso=>?_⟩⟩
   have u10:=qg (o:=HO.tup [V.str r.1]) ht4
   have w10:upd G9 t4 (.tup [V.str r.1]) t4=some (.tup [V.str r.1]):=qd
   generalize upd G9 t4 (.tup [V.str r.1])=G10 at u10 w10 hso ⊢
   have u11:=qg (o:=HO.lst [V.ref t0,.ref t1,.ref t2,.ref t3,.ref t4]) hso
   have w11:upd G10 so (.lst [V.ref t0,.ref t1,.ref t2,.ref t3,.ref t4]) so=some (.lst [V.ref t0,.ref t1,.ref t2,.ref t3,.ref t4]):=qd
   generalize upd G10 so (.lst [V.ref t0,.ref t1,.ref t2,.ref t3,.ref t4])=G11 at u11 w11
   have u81:=((u8.trans u9).trans u10).trans u11
   have u1b:=u17.trans u81
   have u03:=s03.trans u1b
   -- the strange one
   refine λdd hdd=>⟨by show 0<=sizeLine;decide,λe0 he0=>⟨_,rfl,_,rfl,_,rfl,by show 2<=sizeLine;decide,λt7 ht7=>⟨by show 7<=sizeLine;decide,λst hst=>?_⟩⟩⟩
   have x1:=qg (o:=HO.dK []) hdd
   have y1:upd G11 dd (.dK []) dd=some (.dK []):=qd
   generalize upd G11 dd (.dK [])=J1 at x1 y1 he0 ht7 hst ⊢
   have x2:=qg (o:=HO.tup []) he0
   have y2:upd J1 e0 (.tup []) e0=some (.tup []):=qd
   generalize upd J1 e0 (.tup [])=J2 at x2 y2 ht7 hst ⊢
   have x3:=qg (o:=HO.tup [V.ref qo,.str r.1]) ht7
   have y3:upd J2 t7 (.tup [V.ref qo,.str r.1]) t7=some (.tup [V.ref qo,.str r.1]):=qd
   generalize upd J2 t7 (.tup [V.ref qo,.str r.1])=J3 at x3 y3 hst ⊢
   have itN:∀{X:Hp},IT K X 202 (.str r.1) (.str r.1):=YR (zF in1)
   obtain⟨m2,m3⟩:=wl (i:=n / 8) (m:=7) (by decide)
   obtain⟨sv,msv,esv⟩:=WF (xs:=[V.non,.int 5,.str (Str.ofString "ab"),.ref dd,.ref e0,.str r.1,.ref t7]) m2 (by show _ < (7:Int);exact m3)
   have x4:=qg (o:=HO.lst [V.non,.int 5,.str (Str.ofString "ab"),.ref dd,.ref e0,.str r.1,.ref t7]) hst
   refine⟨_,rfl,_,_,rfl,rfl,⟨by decide,by decide⟩,_,_,rfl,rfl,(by show (0:Int) < 7;decide),st,_,_,sv,rfl,rfl,.of qd,esv,?_⟩
   generalize upd J3 st (.lst [V.non,.int 5,.str (Str.ofString "ab"),.ref dd,.ref e0,.str r.1,.ref t7])=J4 at x4
   have x14:=((x1.trans x2).trans x3).trans x4
   -- the last
   refine⟨_,rfl,_,rfl,_,rfl,_,rfl,by show 3<=sizeLine;decide,λt5 ht5=>⟨_,rfl,_,rfl,by show 2<=sizeLine;decide,λl6 hl6=>⟨_,rfl,by show 3<=sizeLine;decide,λyl hyl=>?_⟩⟩⟩
   have x5:=qg (o:=HO.tup [V.str r.1,.ref qo,.ref qo]) ht5
   have y5:upd J4 t5 (.tup [V.str r.1,.ref qo,.ref qo]) t5=some (.tup [V.str r.1,.ref qo,.ref qo]):=qd
   generalize upd J4 t5 (.tup [V.str r.1,.ref qo,.ref qo])=J5 at x5 y5 hl6 hyl ⊢
   have x6:=qg (o:=HO.lst [V.str r.1,.ref qo]) hl6
   have y6:upd J5 l6 (.lst [V.str r.1,.ref qo]) l6=some (.lst [V.str r.1,.ref qo]):=qd
   generalize upd J5 l6 (.lst [V.str r.1,.ref qo])=J6 at x6 y6 hyl ⊢
   have x7:=qg (o:=HO.lst [V.ref t5,.ref l6,sv]) hyl
   have y7:upd J6 yl (.lst [V.ref t5,.ref l6,sv]) yl=some (.lst [V.ref t5,.ref l6,sv]):=qd
   generalize upd J6 yl (.lst [V.ref t5,.ref l6,sv])=J7 at x7 y7
   have x17:=((x14.trans x5).trans x6).trans x7
   have u07:=u03.trans x17
   refine⟨so,yl,_,_,rfl,rfl,.of (x17 _ _ w11),.of y7,by show 8<=sizeLine;decide,λzl hzl=>?_⟩
   obtain⟨m4,m5⟩:=wl (i:=n) (m:=8) (by decide)
   obtain⟨v,mv,ev⟩:=WF (xs:=[V.ref t0,.ref t1,.ref t2,.ref t3,.ref t4]++[V.ref t5,.ref l6,sv]) m4 (by show _ < (8:Int);exact m5)
   refine⟨_,rfl,_,_,rfl,rfl,(by show (0:Int) < 8;decide),zl,_,_,v,rfl,rfl,.of qd,ev,?_⟩
   have x8:=qg (o:=HO.lst ([V.ref t0,.ref t1,.ref t2,.ref t3,.ref t4]++[V.ref t5,.ref l6,sv])) hzl
   have no:∀GG,Kt H J7 GG->Z2 K GG v:=by
     intro GG kG
     have kT:∀{b:Addr} {xs:List V},J7 b=some (.tup xs)->GG b=some (.tup xs):=λh=>kG _ _ h (.inl λ_ z=>nomatch z)
     have g1:=(((((u2.trans u3).trans u4).trans u5).trans u6).trans u7).trans u81
     have o1:=(s3.trans u1b).trans x17
     obtain⟨od,iod,nod⟩:=yw (K:=K) (kG la _ ((s2.trans o1) _ _ h1) (.inr hla)) (kT (o1 _ _ h2)) ov mov
     have itO7:IT K GG 2200 (.ref qo) (.tuple (r.2.map PyData.str)):=yF (kT (u07 _ _ hqo)) inz l40
     simp only[List.mem_append,List.mem_cons,List.mem_nil_iff,or_false]at mv
     rcases mv with (rfl | rfl | rfl | rfl | rfl) | rfl | rfl | rfl
     . refine zI (kT ((g1.trans x17) _ _ w1)) (.cons iod (.cons itO7 .nil)) (by show 2<=10;decide) (by decide) ?_
       show (QT od&&_)=false
       rw[nod]
       rfl
     . obtain⟨nn,lnn,itn⟩:=JJ (K:=K) (H:=GG) inz
       have k3:=(((u4.trans u5).trans u6).trans u7).trans u81
       refine vN (ds:=r.2.map PyData.str++[od]) (kT ((((((u5.trans u6).trans u7).trans u81).trans x17)) _ _ w4)) in1 (kT ((k3.trans x17) _ _ w3)) (.app (.cons iod .nil) itn) (by omega) (by rw[List.length_append,List.length_map];show _+1<=60;omega) ?_
       rw[List.all_append]
       simp [nod]
     . obtain⟨nn,lnn,itn⟩:=JJ (K:=K) (H:=GG) inz
       refine vN (ds:=[od]++r.2.map PyData.str) (kT ((u81.trans x17) _ _ w7)) in1 (kT (((u7.trans u81).trans x17) _ _ w6)) (.app itn (.cons iod .nil)) (by omega) (by rw[List.length_append,List.length_map];show 1+_<=60;omega) ?_
       rw[List.all_append]
       simp [nod]
     . obtain⟨nn,lnn,itn⟩:=JJ (K:=K) (H:=GG) inz
       obtain⟨x1',x2',x3',x4',x5',x6'⟩:=itn.all
       have k9:=(u10.trans u11).trans x17
       have i1:=listText_len_le (PyData.shownAll (r.2.map PyData.str))
       have ha:=kG l3 _ ((u9.trans k9) _ _ w8) (.inr (none_of (s03.trans u17) hl3))
       refine vM (di:=.list (r.2.map PyData.str)) (kT (k9 _ _ w9)) in1 (.lst ha x2') (.lst (.of ha) x2') x3' (by simp only[PyData.depth];omega) ?_ rfl
       show (listText (PyData.shownAll (r.2.map PyData.str))).length<=4500
       rw[List.length_map]at x6'
       omega
     . refine zI (kT ((u11.trans x17) _ _ w10)) (.cons itN .nil) (by show 1<=10;decide) (by decide) rfl
     . exact zI (kT ((x6.trans x7) _ _ y5)) (.cons itN (.cons itO7 (.cons itO7 .nil))) (by show 3<=10;decide) (by decide) rfl
     . exact wa (kG l6 _ (x7 _ _ y6) (.inr (none_of (u03.trans (x14.trans x5)) hl6))) (.cons itN (.cons itO7 .nil)) (by show 2<=10;decide) (by decide)
     . have x47:=((x4.trans x5).trans x6).trans x7
       have hdd:=kG dd _ ((x2.trans (x3.trans x47)) _ _ y1) (.inl λ_ z=>nomatch z)
       simp only[List.mem_cons,List.mem_nil_iff,or_false]at msv
       rcases msv with rfl | rfl | rfl | rfl | rfl | rfl | rfl
       . exact⟨.none,.non,rfl,⟨rfl,Nat.zero_le _,by decide+kernel⟩,.inl .non⟩
       . exact⟨.int 5,.int 5,rfl,⟨by decide+kernel,Nat.zero_le _,by decide+kernel⟩,.inl (.int 5)⟩
       . exact xk (YR (by decide+kernel:Ug (Str.ofString "ab"))) (by decide) rfl
       . exact⟨.dict [],.dct hdd,rfl,⟨rfl,by decide+kernel,by decide+kernel⟩,.inr (.inr ⟨dd,rfl,hdd,rfl⟩)⟩
       . exact zI (kT ((x3.trans x47) _ _ y2)) .nil (by decide) (by decide) rfl
       . exact xk itN (by decide) rfl
       . exact zI (kT (x47 _ _ y3)) (.cons itO7 (.cons itN .nil)) (by show 2<=10;decide) (by decide) rfl
   exact q v _ (u07.trans x8) λGG kG=>no GG (kG.mono x8)
end
end Rh
set_option Elab.async false
set_option linter.all false
set_option maxRecDepth 100000
set_option maxHeartbeats 4000000
/-! SCENES:of one bad row;_law_two_roads. -/
namespace Rh
open PySem L2 PyProof.Rows
/-- a scene of one bad row is a scene -/
theorem ZN {K:PySem.W.Frag} {c:C4} {vs:List V} {H:Hp} {Q:VK} {E:XK} (h:jX K c vs H Q E):Yf K c vs H Q E:=by
 obtain⟨l,d,ps,rs,n,s,t,e,g,nf,hd,q⟩:=h
 refine⟨l,d,ps,rs,n,s,t,e,g,nf,hd,λR fo du n' t' H' ps' rs' res z fr hd' hR nfo nsy raw nm ln ver rz iz hdu=>?_⟩
 refine q R fo du n' t' H' fr hd' hR (Jm raw.at_ raw.rows raw.nm raw.nms ln (Nat.le_trans raw.le (by decide))) (.inr ⟨res,ver,?_,?_,?_⟩)
 . rcases rz with rfl | rfl<;>exact hdu
 . intro y ey
   have:y=z:=by rcases rz with rfl | rfl<;>exact(V.str.inj ey).symm
   rw[this]
   exact zF iz
 . intro y ey
   rcases rz with rfl | rfl<;>exact nomatch ey
theorem wx {z:Str} (h:qw z=true):qw (Txt.slice z none (some ((7:Nat):Int))++Str.ofString "b")=true:=by
 have hc:(Txt.slice z none (some ((7:Nat):Int))++Str.ofString "b").cps.toList=z.cps.toList.take 7++[98]:=by
   rw[Str.cps_append,Array.toList_append,Q0]
   rfl
 have hl:(Txt.slice z none (some ((7:Nat):Int))++Str.ofString "b").length=(z.cps.toList.take 7).length+1:=by
   show (Txt.slice z none (some ((7:Nat):Int))++Str.ofString "b").cps.size=_
   rw[<-Array.length_toList,hc,List.length_append]
   rfl
 have l7:(z.cps.toList.take 7).length<=7:=by rw[List.length_take];omega
 unfold qw at h ⊢
 simp only[Bool.and_eq_true,decide_eq_true_eq]at h ⊢
 refine⟨⟨by omega,by omega⟩,?_⟩
 rw[hc,List.all_append,Bool.and_eq_true]
 refine⟨?_,rfl⟩
 have:=h.2
 rw[List.all_eq_true]at this ⊢
 exact λx hx=>this x (List.mem_of_mem_take hx)
section
variable {P:Program} {w:World} {K:PySem.W.Frag} {mg:Str->Option Value} {base:Heap}
abbrev nTR:List Str:=["_law_rows_here","_law_source_here","_law_at","_law_names_here","_law_free","_law_name","_law_others","_law_other","_law_way","_law_found","_law_behind"]
theorem z6:qK nTR QR (qv Kw):=⟨rfl,rfl,rfl,by decide+kernel,rfl,by decide+kernel,by decide+kernel⟩
theorem uG {f fT fPl:Addr} {c:C4} {fd fdT fdPl:FuncData} (F:Ql K "_law_two_roads" "_law_two_roads" Kw f fd) (B:Zg mg) (G:QA mg) (hT:jR K mg "_law_take" Qr ["_law_source_here","_law_many"] fT fdT) (hPl:jR K mg "_law_places" yb QR fPl fdPl):qz P w K mg base jc 3 f fd QR (Yf K c):=by
 have GT:qz P w K mg base jc 1 fT fdT ["_law_source_here","_law_many"] j7:=jN hT.fn
 have GPl:qz P w K mg base jc 2 fPl fdPl QR VT:=Xz hPl.fn B hT
 refine F.okJ z6 (λvs H Q E z=>?_) (λcdv A outer s H vs Q E hr z=>?_)
 . obtain⟨l,d,ps,rs,n,sd,t,rfl,_⟩:=z
   rfl
 . obtain⟨l,d,ps,rs,n,sd,t,rfl,g,nf,hd,q⟩:=z
   have r1:q5 1 _:=hr.mono (by decide)
   refine⟨_,qh (jy (qS hPl GPl hr (by rfl) (qb (jv 0) (qb (jv 1) qf))) (Q8 rfl (qF (qr (i:=2) z6.nd rfl (Or.inl rfl)) (qF (qr (i:=3) z6.nd rfl (Or.inl rfl)) (qF (qr (i:=4) z6.nd rfl (Or.inl rfl)) js)))))
     (qh (jy (qP qO (jv 0) (jv 2) (λ_ _=>rfl)) (Q9 rfl (qF (qr (i:=5) z6.nd rfl (Or.inl rfl)) (qF (qr (i:=6) z6.nd rfl (Or.inl rfl)) js))))
     (qh (qB (i:=7) z6.nd rfl (Or.inl rfl) (qP qO (jv 3) (qS hT GT r1 (by rfl) (qb (jv 1) (qb (ql qy (by rfl) B.len boot_len (qb (jv 3) qf)) qf))) (λ_ _=>rfl)))
     (qh (qB (i:=8) z6.nd rfl (Or.inl rfl) (qS hT GT r1 (by rfl) (qb (jv 1) (qb qj qf))))
     (qh (qB (i:=9) z6.nd rfl (Or.inl rfl) (ji Qe (by rfl) G.lst boot_list (qb (jv 0) qf)))
     (qh (qR (qu jY (jv 8) qj (qC _))
       (qh (jy (qM (qb (jv 5) (qb (qP qO (qA (qb (qM (qb (jv 7) (qb (jv 7) (qb (jv 4) qf)))) (qb (qM (qb (jv 4) (qb (jv 7) (qb (jv 7) qf)))) qf))) (jv 8) (λ_ _=>rfl)) qf))) (Zd (jv 9) (jv 2) Qq))
       (qk (qL (qA (qb (jv 9) (qb (qP qO (qA (qb (qA (qb qE (qb (jv 7) (qb je qf)))) (qb (qA (qb qE (qb (jv 4) (qb je qf)))) qf))) (jv 8) (λ_ _=>rfl)) qf)))))) qD)
     (qh (qB (i:=10) z6.nd rfl (Or.inl rfl) (qG jx (jv 2) qj))
     (yC (qR (qu jY (jv 10) (ql qy (by rfl) B.len boot_len (qb (jv 0) qf)) (qC _))
       (qk (jy (qM (qb (qP j2 (qP qO (jv 0) (jv 10) (λ_ _=>rfl)) qj (λ_ _=>rfl)) (qb (qP qO (qA (qb (qM (qb (qG Q5 (jK Wd (jv 4) Qc (Qb qj)) qE) qf)) (qb (qM (qb (jv 7) (qb (jv 7) qf))) qf))) (qS hT GT r1 (by rfl) (qb (jv 1) (qb qj qf))) (λ_ _=>rfl)) qf))) (Zd (jv 9) (jv 10) Qq))) qD)
     (qh (jy (qM (qb (jv 5) (qb (qP qO (qA (qb (qM (qb (jv 7) (qb (jv 7) qf))) (qb (qM (qb (jv 4) (qb (jv 4) qf))) qf))) (qG zD (jv 8) qj) (λ_ _=>rfl)) qf))) (Zd (jv 9) (jv 2) Qq))
     (qk (qL (qA (qb (jv 9) (qb (qP qO (qA (qb (qA (qb qE (qb (jv 7) (qb je qf)))) (qb (qA (qb qE (qb (jv 4) (qb je qf)))) qf))) (qG zD (jv 8) qj) (λ_ _=>rfl)) qf))))))))))))),?_⟩
   have lps:=g.rows.1
   have le:=g.le
   refine⟨_,rfl,_,rfl,l,d,ps,rs,n,sd,t,rfl,g,nf,hd,λR0 ln k fr n1 t1 H1 fr1 hd1 hR0 nln hln hk nfr ifr=>?_⟩
   have g1:qX H1 l ps rs:=⟨fr1 _ _ g.at_ (λe=>by have:=g.at_;rw[e,hd]at this;cases this),⟨lps,λi p r e1 e2=>let ⟨u,a,b⟩:=g.rows.2 i p r e1 e2;⟨u,fr1 _ _ a (λe=>by rw[e,hd]at a;cases a),fr1 _ _ b (λe=>by rw[e,hd]at b;cases b)⟩⟩,g.good,g.pos,g.le⟩
   refine⟨R0,_,rfl,.of hR0,rfl,_,_,rfl,_,_,rfl,_,_,rfl,rfl,?_⟩
   have er:rs[k]?=some rs[k]:=List.getElem?_eq_getElem hk
   have mr:rs[k]∈rs:=List.getElem_mem hk
   generalize rs[k]=r at er mr
   have ep:ps[k]?=some ps[k]:=List.getElem?_eq_getElem (by rw[lps];exact hk)
   generalize ps[k]'(by rw[lps];exact hk)=p at ep
   obtain⟨qo,hp,hqo⟩:=g1.rows.2 k p r ep er
   refine⟨_,rfl,_,rfl,l,_,_,_,rfl,rfl,.of g1.at_,jp (j:=k) (by rw[List.getElem?_map,ep];rfl),p,_,rfl,.of hp,rfl,_,_,rfl,_,_,rfl,rfl,?_⟩
   refine⟨_,rfl,_,rfl,_,rfl,ln,_,rfl,.inl (.of hln),d,_,n1,sd,t1,rfl,hd1,by rw[List.length_map,List.length_map];omega,by rw[List.length_map,List.length_map];omega,λo n2 t2 o0 o1=>?_⟩
   rw[List.length_map,List.length_map]at o1
   have ho:o.toNat < (rs.map (·.1)).length:=by rw[List.length_map];omega
   have eo:(rs.map (·.1))[o.toNat]?=some (rs.map (·.1))[o.toNat]:=List.getElem?_eq_getElem ho
   have mo:(rs.map (·.1))[o.toNat]∈rs.map (·.1):=List.getElem_mem ho
   generalize (rs.map (·.1))[o.toNat]=ot at eo mo
   have eo':=jp (xs:=(rs.map (·.1)).map V.str) (j:=o.toNat) (v:=.str ot) (by rw[List.getElem?_map,eo];rfl)
   rw[show ((o.toNat:Nat):Int)=o by omega]at eo'
   have not_:qw ot=true:=by
     obtain⟨x,hx,e⟩:=List.mem_map.mp mo
     rw[<-e]
     exact g.good.nm x hx
   have nd:∀{b:Addr} {u:HO},H1 b=some u->(∀kv,u≠.dK kv)->upd H1 d (.dK (qN n2 sd t2)) b=some u:=λ{b u} hb no=>by
     rw[qi (λe=>by rw[e,hd1]at hb;exact no _ (Option.some.inj hb).symm)]
     exact hb
   refine⟨ln,_,o,_,rfl,rfl,.of (nd hln (λ_ z=>nomatch z)),eo',?_⟩
   refine⟨_,rfl,d,4,n2,sd,t2,rfl,qd,by decide,by decide,λwy n3 t3 w0 w4=>?_⟩
   rw[qY]
   have nd:∀{b:Addr} {u:HO},H1 b=some u->(∀kv,u≠.dK kv)->upd H1 d (.dK (qN n3 sd t3)) b=some u:=λ{b u} hb no=>by
     rw[qi (λe=>by rw[e,hd1]at hb;exact no _ (Option.some.inj hb).symm)]
     exact hb
   have hd2:upd H1 d (.dK (qN n3 sd t3)) d=some (.dK (qN n3 sd t3)):=qd
   have g2:qX (upd H1 d (.dK (qN n3 sd t3))) l ps rs:=⟨nd g1.at_ (λ_ z=>nomatch z),⟨lps,λi p r e1 e2=>let ⟨u,a,b⟩:=g1.rows.2 i p r e1 e2;⟨u,nd a (λ_ z=>nomatch z),nd b (λ_ z=>nomatch z)⟩⟩,g.good,g.pos,g.le⟩
   have fr2:Fr H d (upd H1 d (.dK (qN n3 sd t3))):=fr1.at_d
   generalize upd H1 d (.dK (qN n3 sd t3))=H2 at hd2 g2 fr2
   refine⟨_,rfl,l,_,rfl,.inl (.of g2.at_),λfo hfo nfo=>?_⟩
   have s3:=qg (o:=HO.lst (ps.map V.ref)) hfo
   have h3:upd H2 fo (.lst (ps.map V.ref)) fo=some (.lst (ps.map V.ref)):=qd
   have nHfo:H fo=none:=fr2.fresh hd2 hfo
   generalize upd H2 fo (.lst (ps.map V.ref))=H3 at s3 h3
   have g3:=g2.mono s3
   have hd3:=s3 _ _ hd2
   have kx:∀{qs:List Addr} {j:Nat},qs.length=rs.length->j < rs.length->Wt (qs.map V.ref).length (j:Int)=some j:=λ{qs j} e h=>by
     unfold Wt
     rw[List.length_map,e]
     simp [h]
   have okr:∀x∈rs,(∀z∈x.2,qw z=true)/\x.2.length<=45:=λx hx=>⟨g.good.names x hx,Nat.le_trans (g.good.len x hx) (by decide)⟩
   -- the end of all ways
   have fin:∀{X:Hp} {ps1:List Addr} {rs1:JX} {es:List Str} {res:JQ} {z:Str} {p' q':Addr} {nn tt:Int},Fr H d X->X d=some (.dK (qN nn sd tt))->X fo=some (.lst (ps1.map V.ref))->qH X ps1 rs1->rs1.map (·.1)=rs.map (·.1)->(∀j,j < k->rs1[j]?=rs[j]?)->(∀x∈rs1,(∀z∈x.2,qw z=true)/\x.2.length<=45)->X p'=some (.tup [.str r.1,.ref q'])->X q'=some (.tup (es.map V.str))->(∀z∈es,qw z=true)->es.length<=45->UN (rs.map (·.1)) es res->(res=.place z\/res=.twice z)->qw z=true->
       ∀Y R du,Same (upd X fo (.lst ((ps1.set k p').map V.ref))) Y->Y R=some (.lst [.ref fo,.ref du])->Y du=some (.lst [.str res.tag,.str z,.bl true])->Q (.ref R) Y:=λ{X ps1 rs1 es res z p' q' nn tt} frX hdX hfoX raX nm1 pre ok1 hp' hq' ne lee ed rz iz Y R du sY hR hdu=>by
     obtain⟨raw,nm',lens,ver⟩:=W1 (K:=K) (c:=c) g.good g.pos le hfoX raX nm1 pre ok1 er hp' hq' ne lee ed
     have ndf:d≠fo:=λe=>by rw[<-e,hdX]at hfoX;cases hfoX
     have hd10:upd X fo (.lst ((ps1.set k p').map V.ref)) d=some (.dK (qN nn sd tt)):=by rw[qi ndf];exact hdX
     have fr10:Fr H d (upd X fo (.lst ((ps1.set k p').map V.ref))):=λb u hb nb=>by
       rw[qi (qt hb nHfo)]
       exact frX _ _ hb nb
     exact q R fo du nn tt Y (ps1.set k p') _ res z (fr10.same sY) (sY _ _ hd10) hR nHfo nfo (raw.mono sY) nm' lens (λH' E s o=>ver H' E (sY.trans s) o) rz iz hdu
   have ed1:∀{y:Str} {tl:List Str},y∈rs.map (·.1)->UN (rs.map (·.1)) (y::y::tl) (.twice y):=λ{y tl} my=>⟨1,y,rfl,List.nodup_cons.mpr ⟨List.not_mem_nil,List.nodup_nil⟩,λx hx=>by rw[List.mem_singleton.mp hx];exact my,.inr ⟨my,List.mem_cons_self,rfl⟩⟩
   have ed0:∀{tl:List Str},UN (rs.map (·.1)) (fr::tl) (.place fr):=λ{tl}=>⟨0,fr,rfl,List.nodup_nil,λx hx=>(nomatch hx),.inl ⟨nfr,rfl⟩⟩
   refine⟨_,rfl,_,_,rfl,rfl,_,rfl,QL (λc2=>?_) (λc2=>?_)⟩
   . have w2:wy < 2:=of_decide_eq_true c2
     refine⟨_,rfl,_,rfl,_,rfl,_,rfl,by show 3<=sizeLine;decide,λta hta=>⟨_,rfl,_,rfl,_,rfl,by show 3<=sizeLine;decide,λtb htb=>⟨by show 2<=sizeLine;decide,λtl htl=>?_⟩⟩⟩
     have u1:=qg (o:=HO.tup [V.str ot,.str ot,.str fr]) hta
     have v1:upd H3 ta (.tup [V.str ot,.str ot,.str fr]) ta=some (.tup [V.str ot,.str ot,.str fr]):=qd
     generalize upd H3 ta (.tup [V.str ot,.str ot,.str fr])=G1 at u1 v1 htb htl ⊢
     have u2:=qg (o:=HO.tup [V.str fr,.str ot,.str ot]) htb
     have v2:upd G1 tb (.tup [V.str fr,.str ot,.str ot]) tb=some (.tup [V.str fr,.str ot,.str ot]):=qd
     generalize upd G1 tb (.tup [V.str fr,.str ot,.str ot])=G2 at u2 v2 htl ⊢
     have u3:=qg (o:=HO.lst [V.ref ta,.ref tb]) htl
     have v3:upd G2 tl (.lst [V.ref ta,.ref tb]) tl=some (.lst [V.ref ta,.ref tb]):=qd
     generalize upd G2 tl (.lst [V.ref ta,.ref tb])=G3 at u3 v3 ⊢
     have u13:=(u1.trans u2).trans u3
     have ew:wy=0\/wy=1:=by omega
     rcases ew with rfl | rfl
     . refine⟨_,rfl,tl,_,0,_,rfl,rfl,.of v3,rfl,by show 2<=sizeLine;decide,λp' hp'=>⟨_,rfl,_,rfl,fo,ps.map V.ref,_,k,rfl,rfl,?_⟩⟩
       have u4:=qg (o:=HO.tup [V.str r.1,.ref ta]) hp'
       have v4:upd G3 p' (.tup [V.str r.1,.ref ta]) p'=some (.tup [V.str r.1,.ref ta]):=qd
       generalize upd G3 p' (.tup [V.str r.1,.ref ta])=G4 at u4 v4 ⊢
       have u14:=u13.trans u4
       refine⟨u14 _ _ h3,kx lps hk,?_⟩
       rw[show (ps.map V.ref).set k (V.ref p')=(ps.set k p').map V.ref from(List.map_set ..).symm]
       have end_:=fin (es:=[ot,ot,fr]) (res:=(.twice ot)) (z:=ot) (p':=p') (q':=ta) (fr2.same (s3.trans u14)) (u14 _ _ hd3) (u14 _ _ h3) (g3.rows.mono u14) rfl (λ_ _=>rfl) okr v4 ((((u2.trans u3).trans u4) _ _ v1)) (by intro z hz;simp only[List.mem_cons,List.mem_nil_iff,or_false]at hz;rcases hz with rfl | rfl | rfl<;>assumption) (by show 3<=45;decide) (ed1 mo) (.inr rfl) not_
       refine⟨_,rfl,_,rfl,by show 3<=sizeLine;decide,λd1 hd1'=>⟨_,rfl,by show 3<=sizeLine;decide,λd2 hd2'=>⟨by show 2<=sizeLine;decide,λdl hdl=>⟨_,rfl,dl,_,0,_,rfl,rfl,.of qd,rfl,by show 2<=sizeLine;decide,λR hR=>?_⟩⟩⟩⟩
       generalize upd G4 fo (.lst ((ps.set k p').map V.ref))=G5 at end_ hd1' hd2' hdl hR ⊢
       have z1:=qg (o:=HO.lst [V.str (Str.ofString "twice"),.str ot,.bl true]) hd1'
       have y1:upd G5 d1 (.lst [V.str (Str.ofString "twice"),.str ot,.bl true]) d1=some (.lst [V.str (Str.ofString "twice"),.str ot,.bl true]):=qd
       generalize upd G5 d1 (.lst [V.str (Str.ofString "twice"),.str ot,.bl true])=Y1 at z1 y1 hd2' hdl hR ⊢
       have z2:=qg (o:=HO.lst [V.str (Str.ofString "place"),.str fr,.bl true]) hd2'
       have y2:upd Y1 d2 (.lst [V.str (Str.ofString "place"),.str fr,.bl true]) d2=some (.lst [V.str (Str.ofString "place"),.str fr,.bl true]):=qd
       generalize upd Y1 d2 (.lst [V.str (Str.ofString "place"),.str fr,.bl true])=Y2 at z2 y2 hdl hR ⊢
       have z3:=qg (o:=HO.lst [V.ref d1,.ref d2]) hdl
       generalize upd Y2 dl (.lst [V.ref d1,.ref d2])=Y3 at z3 hR ⊢
       have z4:=qg (o:=HO.lst [V.ref fo,.ref d1]) hR
       exact end_ _ R d1 (((z1.trans z2).trans z3).trans z4) qd (((z2.trans z3).trans z4) _ _ y1)
     . refine⟨_,rfl,tl,_,1,_,rfl,rfl,.of v3,rfl,by show 2<=sizeLine;decide,λp' hp'=>⟨_,rfl,_,rfl,fo,ps.map V.ref,_,k,rfl,rfl,?_⟩⟩
       have u4:=qg (o:=HO.tup [V.str r.1,.ref tb]) hp'
       have v4:upd G3 p' (.tup [V.str r.1,.ref tb]) p'=some (.tup [V.str r.1,.ref tb]):=qd
       generalize upd G3 p' (.tup [V.str r.1,.ref tb])=G4 at u4 v4 ⊢
       have u14:=u13.trans u4
       refine⟨u14 _ _ h3,kx lps hk,?_⟩
       rw[show (ps.map V.ref).set k (V.ref p')=(ps.set k p').map V.ref from(List.map_set ..).symm]
       have end_:=fin (es:=[fr,ot,ot]) (res:=(.place fr)) (z:=fr) (p':=p') (q':=tb) (fr2.same (s3.trans u14)) (u14 _ _ hd3) (u14 _ _ h3) (g3.rows.mono u14) rfl (λ_ _=>rfl) okr v4 (((u3.trans u4) _ _ v2)) (by intro z hz;simp only[List.mem_cons,List.mem_nil_iff,or_false]at hz;rcases hz with rfl | rfl | rfl<;>assumption) (by show 3<=45;decide) ed0 (.inl rfl) ifr
       refine⟨_,rfl,_,rfl,by show 3<=sizeLine;decide,λd1 hd1'=>⟨_,rfl,by show 3<=sizeLine;decide,λd2 hd2'=>⟨by show 2<=sizeLine;decide,λdl hdl=>⟨_,rfl,dl,_,1,_,rfl,rfl,.of qd,rfl,by show 2<=sizeLine;decide,λR hR=>?_⟩⟩⟩⟩
       generalize upd G4 fo (.lst ((ps.set k p').map V.ref))=G5 at end_ hd1' hd2' hdl hR ⊢
       have z1:=qg (o:=HO.lst [V.str (Str.ofString "twice"),.str ot,.bl true]) hd1'
       have y1:upd G5 d1 (.lst [V.str (Str.ofString "twice"),.str ot,.bl true]) d1=some (.lst [V.str (Str.ofString "twice"),.str ot,.bl true]):=qd
       generalize upd G5 d1 (.lst [V.str (Str.ofString "twice"),.str ot,.bl true])=Y1 at z1 y1 hd2' hdl hR ⊢
       have z2:=qg (o:=HO.lst [V.str (Str.ofString "place"),.str fr,.bl true]) hd2'
       have y2:upd Y1 d2 (.lst [V.str (Str.ofString "place"),.str fr,.bl true]) d2=some (.lst [V.str (Str.ofString "place"),.str fr,.bl true]):=qd
       generalize upd Y1 d2 (.lst [V.str (Str.ofString "place"),.str fr,.bl true])=Y2 at z2 y2 hdl hR ⊢
       have z3:=qg (o:=HO.lst [V.ref d1,.ref d2]) hdl
       generalize upd Y2 dl (.lst [V.ref d1,.ref d2])=Y3 at z3 hR ⊢
       have z4:=qg (o:=HO.lst [V.ref fo,.ref d2]) hR
       exact end_ _ R d2 (((z1.trans z2).trans z3).trans z4) qd ((z3.trans z4) _ _ y2)
   . have w2:¬wy < 2:=λh=>c2 (decide_eq_true h)
     refine⟨_,rfl,_,_,rfl,rfl,?_⟩
     refine⟨λσ' X=>σ'=[some (.ref l),some (.ref d),some (.int (k:Nat)),some (.ref ln),some (.str fr),some (.str r.1),some (.ref qo),some (.str ot),some (.int wy),some (.ref fo),some (.int ((k:Int)+1))]/\∃(ps1:List Addr) (rs1:JX) (nn tt:Int),Fr H d X/\X d=some (.dK (qN nn sd tt))/\X fo=some (.lst (ps1.map V.ref))/\qH X ps1 rs1/\ps1.length=rs.length/\rs1.map (·.1)=rs.map (·.1)/\(∀j,j < k->rs1[j]?=rs[j]?)/\(∀x∈rs1,(∀z∈x.2,qw z=true)/\x.2.length<=45),?_,?_⟩
     . refine⟨_,rfl,_,rfl,l,_,rfl,.inl (.of g3.at_),_,_,rfl,rfl,_,rfl,QL (λc3=>?_) (λc3=>⟨rfl,ps,rs,n3,t3,fr2.same s3,hd3,h3,g3.rows,lps,rfl,(λ_ _=>rfl),okr⟩)⟩
       have k1:k+1 < rs.length:=by
         have:=of_decide_eq_true c3
         rw[List.length_map,lps]at this
         omega
       have er2:rs[k+1]?=some rs[k+1]:=List.getElem?_eq_getElem k1
       have mr2:rs[k+1]∈rs:=List.getElem_mem k1
       generalize rs[k+1]=r2 at er2 mr2
       have ep2:ps[k+1]?=some ps[k+1]:=List.getElem?_eq_getElem (by rw[lps];exact k1)
       generalize ps[k+1]'(by rw[lps];exact k1)=p2 at ep2
       obtain⟨q2,hp2,hq2⟩:=g3.rows.2 (k+1) p2 r2 ep2 er2
       have e10:((k:Int)+1)=(((k+1:Nat)):Int):=rfl
       have a10:Xd (ps.map V.ref) ((k:Int)+1)=some (.ref p2):=by
         rw[e10]
         exact jp (j:=k+1) (by rw[List.getElem?_map,ep2];rfl)
       have lfr:fr.length<=8:=jA ifr
       have ifb:=wx ifr
       have lfb:=jA ifb
       refine⟨_,rfl,_,rfl,l,_,_,_,rfl,rfl,.of g3.at_,a10,p2,_,0,_,rfl,rfl,.of hp2,rfl,_,rfl,_,rfl,fr,7,rfl,rfl,rfl,by omega,_,_,rfl,rfl,?_,by show 1<=sizeLine;decide,λtc htc=>⟨_,rfl,_,rfl,by show 2<=sizeLine;decide,λte hte=>⟨by show 2<=sizeLine;decide,λtf htf=>?_⟩⟩⟩
       . show (Txt.slice fr none (some ((7:Nat):Int))).length+(Str.ofString "b").length<=sizeLine
         have e1:(Txt.slice fr none (some ((7:Nat):Int))).length<=8:=by
           show (Txt.slice fr none (some ((7:Nat):Int))).cps.size<=8
           rw[<-Array.length_toList,Q0,List.length_take]
           omega
         have e2:(Str.ofString "b").length=1:=by decide+kernel
         rw[e2]
         exact Nat.le_of_lt (qp (by omega))
       . have z1:=qg (o:=HO.tup [V.str (Txt.slice fr none (some ((7:Nat):Int))++Str.ofString "b")]) htc
         have v4':upd H3 tc (.tup [V.str (Txt.slice fr none (some ((7:Nat):Int))++Str.ofString "b")]) tc=some (.tup [V.str (Txt.slice fr none (some ((7:Nat):Int))++Str.ofString "b")]):=qd
         change upd H3 tc (.tup [V.str (Txt.slice fr none (some ((7:Nat):Int))++Str.ofString "b")]) te=none at hte
         generalize upd H3 tc (.tup [V.str (Txt.slice fr none (some ((7:Nat):Int))++Str.ofString "b")])=G4 at z1 v4' hte htf ⊢
         have z2:=qg (o:=HO.tup [V.str ot,.str ot]) hte
         have v5:upd G4 te (.tup [V.str ot,.str ot]) te=some (.tup [V.str ot,.str ot]):=qd
         generalize upd G4 te (.tup [V.str ot,.str ot])=G5 at z2 v5 htf ⊢
         have z3:=qg (o:=HO.lst [V.ref tc,.ref te]) htf
         have v6':upd G5 tf (.lst [V.ref tc,.ref te]) tf=some (.lst [V.ref tc,.ref te]):=qd
         generalize upd G5 tf (.lst [V.ref tc,.ref te])=G5' at z3 v6' ⊢
         have z13:=(z1.trans z2).trans z3
         have hd5:=z13 _ _ hd3
         refine⟨_,rfl,d,2,n3,sd,t3,rfl,hd5,by decide,by decide,λbb n4 t4 b0 b1=>?_⟩
         have nd6:∀{b:Addr} {u:HO},G5' b=some u->(∀kv,u≠.dK kv)->upd G5' d (.dK (qN n4 sd t4)) b=some u:=λ{b u} hb no=>by
           rw[qi (λe=>by rw[e,hd5]at hb;exact no _ (Option.some.inj hb).symm)]
           exact hb
         have hd6:upd G5' d (.dK (qN n4 sd t4)) d=some (.dK (qN n4 sd t4)):=qd
         have v6:=nd6 v6' (λ_ z=>nomatch z)
         have w4:=nd6 ((z2.trans z3) _ _ v4') (λ_ z=>nomatch z)
         have w5:=nd6 (z3 _ _ v5) (λ_ z=>nomatch z)
         have hfo6:=nd6 (z13 _ _ h3) (λ_ z=>nomatch z)
         have ra6:qH (upd G5' d (.dK (qN n4 sd t4))) ps rs:=⟨lps,λi p r e1 e2=>let ⟨u,a,b⟩:=g3.rows.2 i p r e1 e2;⟨u,nd6 (z13 _ _ a) (λ_ z=>nomatch z),nd6 (z13 _ _ b) (λ_ z=>nomatch z)⟩⟩
         have fr6:Fr H d (upd G5' d (.dK (qN n4 sd t4))):=(fr2.same (s3.trans z13)).at_d
         generalize upd G5' d (.dK (qN n4 sd t4))=G6 at hd6 v6 w4 w5 hfo6 ra6 fr6
         have ebb:bb=0\/bb=1:=by omega
         rcases ebb with rfl | rfl
         . refine⟨tf,_,0,_,rfl,rfl,.of v6,rfl,by show 2<=sizeLine;decide,λp3 hp3=>⟨_,rfl,_,rfl,fo,ps.map V.ref,_,k+1,rfl,rfl,?_⟩⟩
           have u4:=qg (o:=HO.tup [V.str r2.1,.ref tc]) hp3
           have v4:upd G6 p3 (.tup [V.str r2.1,.ref tc]) p3=some (.tup [V.str r2.1,.ref tc]):=qd
           generalize upd G6 p3 (.tup [V.str r2.1,.ref tc])=G7 at u4 v4 ⊢
           have hfo7:=u4 _ _ hfo6
           refine⟨hfo7,kx lps k1,?_⟩
           rw[show (ps.map V.ref).set (k+1) (V.ref p3)=(ps.set (k+1) p3).map V.ref from(List.map_set ..).symm]
           have ndf:d≠fo:=λe=>by rw[<-e,hd6]at hfo6;cases hfo6
           refine⟨rfl,ps.set (k+1) p3,rs.set (k+1) (r2.1,[Txt.slice fr none (some ((7:Nat):Int))++Str.ofString "b"]),n4,t4,λb u hb nb=>?_,?_,qd,((ra6.mono u4).set (es:=[Txt.slice fr none (some ((7:Nat):Int))++Str.ofString "b"]) v4 (u4 _ _ (w4))).upd_lst hfo7,by rw[List.length_set,lps],ZH er2,λj hj=>List.getElem?_set_ne (by omega),λx hx=>?_⟩
           . rw[qi (qt hb nHfo)]
             exact u4 _ _ (fr6 _ _ hb nb)
           . rw[qi ndf]
             exact u4 _ _ hd6
           . rcases List.mem_or_eq_of_mem_set hx with h | h
             . exact okr x h
             . rw[h]
               exact⟨λz hz=>by rw[List.mem_singleton.mp hz];exact ifb,by show 1<=45;decide⟩
         . refine⟨tf,_,1,_,rfl,rfl,.of v6,rfl,by show 2<=sizeLine;decide,λp3 hp3=>⟨_,rfl,_,rfl,fo,ps.map V.ref,_,k+1,rfl,rfl,?_⟩⟩
           have u4:=qg (o:=HO.tup [V.str r2.1,.ref te]) hp3
           have v4:upd G6 p3 (.tup [V.str r2.1,.ref te]) p3=some (.tup [V.str r2.1,.ref te]):=qd
           generalize upd G6 p3 (.tup [V.str r2.1,.ref te])=G7 at u4 v4 ⊢
           have hfo7:=u4 _ _ hfo6
           refine⟨hfo7,kx lps k1,?_⟩
           rw[show (ps.map V.ref).set (k+1) (V.ref p3)=(ps.set (k+1) p3).map V.ref from(List.map_set ..).symm]
           have ndf:d≠fo:=λe=>by rw[<-e,hd6]at hfo6;cases hfo6
           refine⟨rfl,ps.set (k+1) p3,rs.set (k+1) (r2.1,[ot,ot]),n4,t4,λb u hb nb=>?_,?_,qd,((ra6.mono u4).set (es:=[ot,ot]) v4 (u4 _ _ (w5))).upd_lst hfo7,by rw[List.length_set,lps],ZH er2,λj hj=>List.getElem?_set_ne (by omega),λx hx=>?_⟩
           . rw[qi (qt hb nHfo)]
             exact u4 _ _ (fr6 _ _ hb nb)
           . rw[qi ndf]
             exact u4 _ _ hd6
           . rcases List.mem_or_eq_of_mem_set hx with h | h
             . exact okr x h
             . rw[h]
               exact⟨λz hz=>by simp only[List.mem_cons,List.mem_nil_iff,or_false]at hz;rcases hz with rfl | rfl<;>assumption,by show 2<=45;decide⟩
     rintro σ' X ⟨rfl,ps1,rs1,nn,tt,frX,hdX,hfoX,raX,lp1,nm1,pre,ok1⟩
     refine⟨_,rfl,_,rfl,_,rfl,by show 2<=sizeLine;decide,λta hta=>⟨_,rfl,_,rfl,by show 2<=sizeLine;decide,λtb htb=>⟨by show 2<=sizeLine;decide,λtl htl=>?_⟩⟩⟩
     have u1:=qg (o:=HO.tup [V.str ot,.str ot]) hta
     have v1:upd X ta (.tup [V.str ot,.str ot]) ta=some (.tup [V.str ot,.str ot]):=qd
     generalize upd X ta (.tup [V.str ot,.str ot])=G1 at u1 v1 htb htl ⊢
     have u2:=qg (o:=HO.tup [V.str fr,.str fr]) htb
     have v2:upd G1 tb (.tup [V.str fr,.str fr]) tb=some (.tup [V.str fr,.str fr]):=qd
     generalize upd G1 tb (.tup [V.str fr,.str fr])=G2 at u2 v2 htl ⊢
     have u3:=qg (o:=HO.lst [V.ref ta,.ref tb]) htl
     have v3:upd G2 tl (.lst [V.ref ta,.ref tb]) tl=some (.lst [V.ref ta,.ref tb]):=qd
     generalize upd G2 tl (.lst [V.ref ta,.ref tb])=G3 at u3 v3 ⊢
     have u13:=(u1.trans u2).trans u3
     have ew:wy=2\/wy=3:=by omega
     rcases ew with rfl | rfl
     . refine⟨_,rfl,_,_,rfl,rfl,tl,_,0,_,rfl,rfl,.of v3,rfl,by show 2<=sizeLine;decide,λp' hp'=>⟨_,rfl,_,rfl,fo,ps1.map V.ref,_,k,rfl,rfl,?_⟩⟩
       have u4:=qg (o:=HO.tup [V.str r.1,.ref ta]) hp'
       have v4:upd G3 p' (.tup [V.str r.1,.ref ta]) p'=some (.tup [V.str r.1,.ref ta]):=qd
       generalize upd G3 p' (.tup [V.str r.1,.ref ta])=G4 at u4 v4 ⊢
       have u14:=u13.trans u4
       refine⟨u14 _ _ hfoX,kx lp1 hk,?_⟩
       rw[show (ps1.map V.ref).set k (V.ref p')=(ps1.set k p').map V.ref from(List.map_set ..).symm]
       have end_:=fin (es:=[ot,ot]) (res:=(.twice ot)) (z:=ot) (p':=p') (q':=ta) (frX.same u14) (u14 _ _ hdX) (u14 _ _ hfoX) (raX.mono u14) nm1 pre ok1 v4 ((((u2.trans u3).trans u4) _ _ v1)) (by intro z hz;simp only[List.mem_cons,List.mem_nil_iff,or_false]at hz;rcases hz with rfl | rfl<;>assumption) (by show 2<=45;decide) (ed1 mo) (.inr rfl) not_
       refine⟨_,rfl,_,rfl,by show 3<=sizeLine;decide,λd1 hd1'=>⟨_,rfl,by show 3<=sizeLine;decide,λd2 hd2'=>⟨by show 2<=sizeLine;decide,λdl hdl=>⟨_,rfl,_,_,rfl,rfl,dl,_,0,_,rfl,rfl,.of qd,rfl,by show 2<=sizeLine;decide,λR hR=>?_⟩⟩⟩⟩
       generalize upd G4 fo (.lst ((ps1.set k p').map V.ref))=G5 at end_ hd1' hd2' hdl hR ⊢
       have z1:=qg (o:=HO.lst [V.str (Str.ofString "twice"),.str ot,.bl true]) hd1'
       have y1:upd G5 d1 (.lst [V.str (Str.ofString "twice"),.str ot,.bl true]) d1=some (.lst [V.str (Str.ofString "twice"),.str ot,.bl true]):=qd
       generalize upd G5 d1 (.lst [V.str (Str.ofString "twice"),.str ot,.bl true])=Y1 at z1 y1 hd2' hdl hR ⊢
       have z2:=qg (o:=HO.lst [V.str (Str.ofString "place"),.str fr,.bl true]) hd2'
       have y2:upd Y1 d2 (.lst [V.str (Str.ofString "place"),.str fr,.bl true]) d2=some (.lst [V.str (Str.ofString "place"),.str fr,.bl true]):=qd
       generalize upd Y1 d2 (.lst [V.str (Str.ofString "place"),.str fr,.bl true])=Y2 at z2 y2 hdl hR ⊢
       have z3:=qg (o:=HO.lst [V.ref d1,.ref d2]) hdl
       generalize upd Y2 dl (.lst [V.ref d1,.ref d2])=Y3 at z3 hR ⊢
       have z4:=qg (o:=HO.lst [V.ref fo,.ref d1]) hR
       exact end_ _ R d1 (((z1.trans z2).trans z3).trans z4) qd (((z2.trans z3).trans z4) _ _ y1)
     . refine⟨_,rfl,_,_,rfl,rfl,tl,_,1,_,rfl,rfl,.of v3,rfl,by show 2<=sizeLine;decide,λp' hp'=>⟨_,rfl,_,rfl,fo,ps1.map V.ref,_,k,rfl,rfl,?_⟩⟩
       have u4:=qg (o:=HO.tup [V.str r.1,.ref tb]) hp'
       have v4:upd G3 p' (.tup [V.str r.1,.ref tb]) p'=some (.tup [V.str r.1,.ref tb]):=qd
       generalize upd G3 p' (.tup [V.str r.1,.ref tb])=G4 at u4 v4 ⊢
       have u14:=u13.trans u4
       refine⟨u14 _ _ hfoX,kx lp1 hk,?_⟩
       rw[show (ps1.map V.ref).set k (V.ref p')=(ps1.set k p').map V.ref from(List.map_set ..).symm]
       have end_:=fin (es:=[fr,fr]) (res:=(.place fr)) (z:=fr) (p':=p') (q':=tb) (frX.same u14) (u14 _ _ hdX) (u14 _ _ hfoX) (raX.mono u14) nm1 pre ok1 v4 (((u3.trans u4) _ _ v2)) (by intro z hz;simp only[List.mem_cons,List.mem_nil_iff,or_false]at hz;rcases hz with rfl | rfl<;>assumption) (by show 2<=45;decide) ed0 (.inl rfl) ifr
       refine⟨_,rfl,_,rfl,by show 3<=sizeLine;decide,λd1 hd1'=>⟨_,rfl,by show 3<=sizeLine;decide,λd2 hd2'=>⟨by show 2<=sizeLine;decide,λdl hdl=>⟨_,rfl,_,_,rfl,rfl,dl,_,1,_,rfl,rfl,.of qd,rfl,by show 2<=sizeLine;decide,λR hR=>?_⟩⟩⟩⟩
       generalize upd G4 fo (.lst ((ps1.set k p').map V.ref))=G5 at end_ hd1' hd2' hdl hR ⊢
       have z1:=qg (o:=HO.lst [V.str (Str.ofString "twice"),.str ot,.bl true]) hd1'
       have y1:upd G5 d1 (.lst [V.str (Str.ofString "twice"),.str ot,.bl true]) d1=some (.lst [V.str (Str.ofString "twice"),.str ot,.bl true]):=qd
       generalize upd G5 d1 (.lst [V.str (Str.ofString "twice"),.str ot,.bl true])=Y1 at z1 y1 hd2' hdl hR ⊢
       have z2:=qg (o:=HO.lst [V.str (Str.ofString "place"),.str fr,.bl true]) hd2'
       have y2:upd Y1 d2 (.lst [V.str (Str.ofString "place"),.str fr,.bl true]) d2=some (.lst [V.str (Str.ofString "place"),.str fr,.bl true]):=qd
       generalize upd Y1 d2 (.lst [V.str (Str.ofString "place"),.str fr,.bl true])=Y2 at z2 y2 hdl hR ⊢
       have z3:=qg (o:=HO.lst [V.ref d1,.ref d2]) hdl
       generalize upd Y2 dl (.lst [V.ref d1,.ref d2])=Y3 at z3 hR ⊢
       have z4:=qg (o:=HO.lst [V.ref fo,.ref d2]) hR
       exact end_ _ R d2 (((z1.trans z2).trans z3).trans z4) qd ((z3.trans z4) _ _ y2)
end
end Rh
set_option Elab.async false
set_option linter.all false
set_option maxRecDepth 100000
set_option maxHeartbeats 4000000
/-! SCENES:of two faults;_law_two. -/
namespace Rh
open PySem L2 PyProof.Rows
theorem Wq {α:Type}:∀{l m:List α},l.Nodup->(∀z∈l,z∈m)->l.length<=m.length
 | [],_,_,_=>Nat.zero_le _
 | x::l,m,nd,h=>by
   obtain⟨hx,nd⟩:=List.nodup_cons.mp nd
   obtain⟨a,b,rfl⟩:=List.append_of_mem (h x List.mem_cons_self)
   have:=Wq (m:=a++b) nd λz hz=>by
     have hz':=h z (List.mem_cons_of_mem _ hz)
     rcases List.mem_append.mp hz' with h1 | h1
     . exact List.mem_append.mpr (.inl h1)
     . rcases List.mem_cons.mp h1 with h2 | h2
       . rw[h2]at hz
         exact absurd hz hx
       . exact List.mem_append.mpr (.inr h2)
   rw[List.length_append]at this ⊢
   rw[List.length_cons,List.length_cons]
   omega
theorem jI {H H':Hp} {d b:Addr} {o:HO} {kv:List (qW×V)} (fr:Fr H d H') (hd:H d=some (.dK kv)) (hb:H b=some o) (no:∀kv,o≠.dK kv):H' b=some o:=fr _ _ hb λe=>by
 rw[e,hd]at hb
 exact no _ (Option.some.inj hb).symm
theorem qH.fr {H H':Hp} {d:Addr} {kv:List (qW×V)} {ps:List Addr} {rs:JX} (a:qH H ps rs) (fr:Fr H d H') (hd:H d=some (.dK kv)):qH H' ps rs:=⟨a.1,λi p r e1 e2=>let ⟨u,x,y⟩:=a.2 i p r e1 e2;⟨u,jI fr hd x (λ_ z=>nomatch z),jI fr hd y (λ_ z=>nomatch z)⟩⟩
theorem qX.frd {H H':Hp} {d l:Addr} {kv:List (qW×V)} {ps:List Addr} {rs:JX} (g:qX H l ps rs) (fr:Fr H d H') (hd:H d=some (.dK kv)):qX H' l ps rs:=⟨jI fr hd g.at_ (λ_ z=>nomatch z),g.rows.fr fr hd,g.good,g.pos,g.le⟩
theorem jE.fr {H H':Hp} {d l:Addr} {kv:List (qW×V)} {ps:List Addr} {rs:JX} (g:jE H l ps rs) (fr:Fr H d H') (hd:H d=some (.dK kv)):jE H' l ps rs:=⟨jI fr hd g.at_ (λ_ z=>nomatch z),g.rows.fr fr hd,g.nm,g.nms,g.len,g.pos,g.le⟩
theorem Vu {K:PySem.W.Frag} {H:Hp} {v:V} {d:PyData} (h:DV K H v d):∀{xs:List V} {ds:List PyData} {k:Nat},DVs K H xs ds->DVs K H (xs.set k v) (ds.set k d)
 | _,_,_,.nil=>.nil
 | _,_,0,.cons _ hs=>.cons h hs
 | _,_,_+1,.cons a hs=>.cons a (Vu h hs)
theorem W7 {K:PySem.W.Frag} {H:Hp} {v:V} {d:PyData} (h:RV K H v d):∀{xs:List V} {ds:List PyData} {k:Nat},UL K H xs ds->UL K H (xs.set k v) (ds.set k d)
 | _,_,_,.nil=>.nil
 | _,_,0,.cons _ hs=>.cons h hs
 | _,_,_+1,.cons a hs=>.cons a (W7 h hs)
theorem Vh:∀zs:List Str,nlAll (zs.map PyData.str)=true
 | []=>rfl
 | _::zs=>by
   rw[List.map_cons,nlAll,Vh zs]
   rfl
theorem vj {K:PySem.W.Frag} {H:Hp}:∀{xs:List V} {rs:JX},DVs K H xs (rs.map zS)->UL K H xs (rs.map zS)
 | _,[],.nil=>.nil
 | _,r::rs,.cons h hs=>.cons (.inl ⟨h,by
     show (true&&(nlAll (r.2.map PyData.str)&&true))=true
     rw[Vh]
     rfl⟩) (vj hs)
theorem Vw {K:PySem.W.Frag} {H:Hp} {ys:List V} {es:List PyData} (b:DVs K H ys es):∀{xs:List V} {ds:List PyData},DVs K H xs ds->DVs K H (xs++ys) (ds++es)
 | _,_,.nil=>b
 | _,_,.cons h hs=>.cons h (Vw b hs)
theorem Vv {K:PySem.W.Frag} {H:Hp}:∀n:Nat,DVs K H (List.replicate n V.non) (List.replicate n PyData.none)
 | 0=>.nil
 | n+1=>.cons .non (Vv n)
/-- one row is set to a thing that is none -/
theorem kB {K:PySem.W.Frag} {c:C4} {Hc J:Hp} {fo:Addr} {ps1:List Addr} {rs1:JX} {k:Nat} {v:V} {o:HO} (raw:jE J fo ps1 rs1) (nfo:fo≠sysModules) (l45:∀r∈rs1,r.2.length<=45) (hk:k < rs1.length) (hc:Hc fo=some o) (no:∀G,Kt Hc J G->Z2 K G v):
   yP K c (upd J fo (.lst ((ps1.map V.ref).set k v))) (.ref fo) (.ground k)/\Qy K (upd J fo (.lst ((ps1.map V.ref).set k v))) fo:=by
 have ra:=raw.rows.upd_lst (o:=.lst ((ps1.map V.ref).set k v)) raw.at_
 have lps:=raw.rows.1
 have h1:upd J fo (.lst ((ps1.map V.ref).set k v)) fo=some (.lst ((ps1.map V.ref).set k v)):=qd
 obtain⟨d,dh,rw_,sz,dv⟩:=no (upd J fo (.lst ((ps1.map V.ref).set k v))) λb u hb h=>by
   rcases Decidable.em (b=fo) with e | e
   . rw[e]at hb h
     rcases h with h | h
     . rw[raw.at_]at hb
       exact absurd (Option.some.inj hb).symm (h _)
     . rw[hc]at h
       cases h
   . rw[qi e]
     exact hb
 generalize upd J fo (.lst ((ps1.map V.ref).set k v))=X at ra h1 dh dv
 have szs:∀y∈(rs1.map zS).set k d,Sz 5000 y:=λy hy=>by
   rcases List.mem_or_eq_of_mem_set hy with h | h
   . obtain⟨r,hr,rfl⟩:=List.mem_map.mp h
     exact X8 (raw.nm r hr) (raw.nms r hr) (l45 r hr)
   . rw[h]
     exact sz
 have l20:((rs1.map zS).set k d).length<=20:=by
   rw[List.length_set,List.length_map]
   exact Nat.le_trans raw.le (by decide)
 refine⟨λH' E s ot=>.inl (.inr (.inr (.inr ⟨fo,_,k,v,d,rfl,s _ _ h1,by rw[List.length_set,List.length_map,lps];exact raw.le,List.getElem?_set_self (by rw[List.length_map,lps];exact hk),dh.keep s.keep,rw_,λj y hj ey=>?_,ot⟩))),?_⟩
 . rw[List.getElem?_set_ne (by omega)]at ey
   obtain⟨p,q,r,rfl,er,hr,a,b⟩:=(ra.mono s).item ey
   exact⟨zS r,kM a b (Nat.le_trans (jA (raw.nm r hr)) (by decide)) (λz hz=>Nat.le_trans (jA (raw.nms r hr z hz)) (by decide)) (raw.len r hr),Xu (raw.nm r hr) (raw.nms r hr)⟩
 . rcases dv with dv | rv
   . exact Wh h1 (Vu dv (Jy ra)) szs l20
   . exact xO h1 nfo (W7 rv (vj (Jy ra))) szs l20
section
variable {P:Program} {w:World} {K:PySem.W.Frag} {mg:Str->Option Value} {base:Heap}
abbrev nTw:List Str:=["_law_rows_here","_law_source_here","_law_at","_law_names_here","_law_free","_law_bad","_law_due","_law_way"]
theorem Wf:qK nTw QR (qv Kv):=⟨rfl,rfl,rfl,by decide+kernel,rfl,by decide+kernel,by decide+kernel⟩
abbrev KB:List Str:=["_law_row","_law_number"]
theorem uF {f fT fPl fW fR fB:Addr} {c:C4} {fd fdT fdPl fdW fdR fdB:FuncData} (F:Ql K "_law_two" "_law_two" Kv f fd) (B:Zg mg) (G:QA mg) (hT:jR K mg "_law_take" Qr ["_law_source_here","_law_many"] fT fdT) (hPl:jR K mg "_law_places" yb QR fPl fdPl)
   (hW:jR K mg "_law_wrong_road" uk QR fW fdW) (hR:jR K mg "_law_road_twice" um QR fR fdR) (hB:jR K mg "_law_bad_row" uo KB fB fdB):qz P w K mg base jc 4 f fd QR (jX K c):=by
 have GT:qz P w K mg base jc 1 fT fdT ["_law_source_here","_law_many"] j7:=jN hT.fn
 have GPl:qz P w K mg base jc 2 fPl fdPl QR VT:=Xz hPl.fn B hT
 have GW:qz P w K mg base jc 3 fW fdW QR (Yf K c):=xh hW.fn B G hT hPl
 have GR:qz P w K mg base jc 3 fR fdR QR (Yf K c):=xi hR.fn B G hT hPl
 have GB:qz P w K mg base jc 1 fB fdB KB (xH K):=xj hB.fn G
 refine F.okJ Wf (λvs H Q E z=>?_) (λcdv A outer s H vs Q E hr z=>?_)
 . obtain⟨l,d,ps,rs,n,sd,t,rfl,_⟩:=z
   rfl
 . obtain⟨l,d,ps,rs,n,sd,t,rfl,g,nf,hd,q⟩:=z
   have r1:q5 1 _:=hr.mono (by decide)
   have r2:q5 2 _:=hr.mono (by decide)
   have r3:q5 3 _:=hr.mono (by decide)
   refine⟨_,qh (jy (qS hPl GPl r2 (by rfl) (qb (jv 0) (qb (jv 1) qf))) (Q8 rfl (qF (qr (i:=2) Wf.nd rfl (Or.inl rfl)) (qF (qr (i:=3) Wf.nd rfl (Or.inl rfl)) (qF (qr (i:=4) Wf.nd rfl (Or.inl rfl)) js)))))
     (qh (jy (qP qO (qA (qb (qS hW GW r3 (by rfl) (qb (jv 0) (qb (jv 1) qf))) (qb (qS hR GR r3 (by rfl) (qb (jv 0) (qb (jv 1) qf))) qf))) (qS hT GT r1 (by rfl) (qb (jv 1) (qb qj qf))) (λ_ _=>rfl)) (Q8 rfl (qF (qr (i:=5) Wf.nd rfl (Or.inl rfl)) (qF (qr (i:=6) Wf.nd rfl (Or.inl rfl)) js))))
     (qh (qB (i:=7) Wf.nd rfl (Or.inl rfl) (qS hT GT r1 (by rfl) (qb (jv 1) (qb qj qf))))
     (qh (qR (qu jU (jv 7) qj (qC _))
       (qh (jy (qS hB GB r1 (by rfl) (qb (qP qO (jv 0) (jv 2) (λ_ _=>rfl)) (qb (qS hT GT r1 (by rfl) (qb (jv 1) (qb qj qf))) qf))) (Zd (jv 5) (jv 2) Qq))
       (qk (qL (qA (qb (jv 5) (qb (qA (qb qE (qb (jv 2) (qb je qf)))) qf)))))) qD)
     (qh (qR (Qk (qu jU (jv 7) qj (qC _)) (jZ (qu jY (ql qy (by rfl) B.len boot_len (qb (jv 5) qf)) qj (qC _)))).pt
       (qk (qL (qA (qb (qG QE (jv 5) (qA (qb (qM (qb (qP qO (jv 3) (jv 2) (λ_ _=>rfl)) (qb (qM qf) qf))) qf))) (qb (qA (qb qE (qb (qP qO (jv 3) (jv 2) (λ_ _=>rfl)) (qb je qf)))) qf))))) qD)
     (qk (qL (qA (qb (qG QE (jv 5) (qG yi (qA (qb zM qf)) (qG zD qj (ql qy (by rfl) B.len boot_len (qb (jv 5) qf))))) (qb (qA (qb qE (qb qj (qb je qf)))) qf))))))))),?_⟩
   have lps:=g.rows.1
   have le:=g.le
   refine⟨_,rfl,_,rfl,l,d,ps,rs,n,sd,t,rfl,g,nf,hd,λR0 ln k fr n1 t1 H1 fr1 hd1 hR0 nln hln hk nfr ifr=>?_⟩
   have g1:=g.frd fr1 hd
   refine⟨R0,_,rfl,.of hR0,rfl,_,_,rfl,_,_,rfl,_,_,rfl,rfl,?_⟩
   have er:rs[k]?=some rs[k]:=List.getElem?_eq_getElem hk
   have mr:rs[k]∈rs:=List.getElem_mem hk
   generalize rs[k]=r at er mr
   have ep:ps[k]?=some ps[k]:=List.getElem?_eq_getElem (by rw[lps];exact hk)
   generalize ps[k]'(by rw[lps];exact hk)=p at ep
   refine⟨_,rfl,_,rfl,l,d,ps,rs,n1,sd,t1,rfl,g1,nf,hd1,λRa fa ua n2 t2 H2 psa rsa resa za fr2 hd2 hRa nfa sya rawa nma lna vera rza iza hua=>?_⟩
   have g2:=g1.frd fr2 hd1
   refine⟨_,rfl,_,rfl,l,d,ps,rs,n2,sd,t2,rfl,g2,nf,hd2,λRb fb ub n3 t3 H3 psb rsb resb zb fr3 hd3 hRb nfb syb rawb nmb lnb verb rzb izb hub=>?_⟩
   have g3:=g2.frd fr3 hd2
   have rawa3:=rawa.fr fr3 hd2
   have hRa3:=jI fr3 hd2 hRa (λ_ z=>nomatch z)
   have hln3:=jI fr3 hd2 (jI fr2 hd1 hln (λ_ z=>nomatch z)) (λ_ z=>nomatch z)
   have fr13:=(fr1.trans fr2).trans fr3
   have nfa':H fa=none:=fr1.fresh hd1 nfa
   have nfb':H fb=none:=(fr1.trans fr2).fresh hd2 nfb
   refine⟨by show 2<=sizeLine;decide,λL hL=>?_⟩
   have s4:=qg (o:=HO.lst [V.ref Ra,.ref Rb]) hL
   have h4:upd H3 L (.lst [V.ref Ra,.ref Rb]) L=some (.lst [V.ref Ra,.ref Rb]):=qd
   generalize upd H3 L (.lst [V.ref Ra,.ref Rb])=H4 at s4 h4
   refine⟨_,rfl,d,2,n3,sd,t3,rfl,s4 _ _ hd3,by decide,by decide,λwc n4 t4 c0 c1=>?_⟩
   have hd5:upd H4 d (.dK (qN n4 sd t4)) d=some (.dK (qN n4 sd t4)):=qd
   have fr5:Fr H4 d (upd H4 d (.dK (qN n4 sd t4))):=Fr.refl.at_d
   generalize upd H4 d (.dK (qN n4 sd t4))=H5 at hd5 fr5
   have hd4:=s4 _ _ hd3
   have pick:∃(R fo du:Addr) (ps':List Addr) (rs':JX),Xd [V.ref Ra,.ref Rb] wc=some (.ref R)/\H4 R=some (.lst [.ref fo,.ref du])/\H fo=none/\fo≠sysModules/\jE H4 fo ps' rs'/\rs'.map (·.1)=rs.map (·.1)/\∀r∈rs',r.2.length<=45:=by
     have e:wc=0\/wc=1:=by omega
     rcases e with rfl | rfl
     . exact⟨Ra,fa,ua,psa,rsa,rfl,s4 _ _ hRa3,nfa',sya,rawa3.mono s4,nma,lna⟩
     . exact⟨Rb,fb,ub,psb,rsb,rfl,s4 _ _ hRb,nfb',syb,rawb.mono s4,nmb,lnb⟩
   obtain⟨R,fo,du,ps',rs',eR,hR4,nfo,sy,raw4,nm,l45⟩:=pick
   have l':rs'.length=rs.length:=by have:=congrArg List.length nm;simpa using this
   have lps':=raw4.rows.1
   refine⟨L,_,wc,_,rfl,rfl,.of (jI fr5 hd4 h4 (λ_ z=>nomatch z)),eR,R,_,rfl,.of (jI fr5 hd4 hR4 (λ_ z=>nomatch z)),rfl,_,_,rfl,_,_,rfl,rfl,?_⟩
   have raw5:=raw4.fr fr5 hd4
   have g5:=(g3.mono s4).frd fr5 hd4
   have hln5:=jI fr5 hd4 (s4 _ _ hln3) (λ_ z=>nomatch z)
   have f05:Fr H d H5:=(fr13.same s4).trans fr5
   refine⟨_,rfl,d,3,n4,sd,t4,rfl,hd5,by decide,by decide,λwy n5 t5 w0 w3=>?_⟩
   have hd6:upd H5 d (.dK (qN n5 sd t5)) d=some (.dK (qN n5 sd t5)):=qd
   have fr6:Fr H5 d (upd H5 d (.dK (qN n5 sd t5))):=Fr.refl.at_d
   generalize upd H5 d (.dK (qN n5 sd t5))=H6 at hd6 fr6
   have raw6:=raw5.fr fr6 hd5
   have g6:=g5.frd fr6 hd5
   have hln6:=jI fr6 hd5 hln5 (λ_ z=>nomatch z)
   have f06:Fr H d H6:=f05.trans fr6
   have ez:Xd ((rs.map (·.1)).map V.str) (k:Int)=some (.str r.1):=jp (j:=k) (by rw[List.getElem?_map,List.getElem?_map,er];rfl)
   have ll:(ps'.map V.ref).length=rs.length:=by rw[List.length_map,lps',l']
   obtain⟨qo,hp,hqo⟩:=g6.rows.2 k p r ep er
   refine⟨_,rfl,rfl,_,rfl,QL (λc2=>?_) (λc2=>?_)⟩
   . refine⟨_,rfl,_,rfl,l,_,_,_,rfl,rfl,.of g6.at_,jp (j:=k) (by rw[List.getElem?_map,ep];rfl),_,rfl,d,560,n5,sd,t5,rfl,hd6,by decide,by decide,λnn n6 t6 m0 m1=>?_⟩
     have hd7:upd H6 d (.dK (qN n6 sd t6)) d=some (.dK (qN n6 sd t6)):=qd
     have fr7:Fr H6 d (upd H6 d (.dK (qN n6 sd t6))):=Fr.refl.at_d
     generalize upd H6 d (.dK (qN n6 sd t6))=H7 at hd7 fr7
     have raw7:=raw6.fr fr7 hd6
     have f07:Fr H d H7:=f06.trans fr7
     have lr:r.2.length<=25:=Nat.le_trans (Wq (g.good.rd r mr) (g.good.to r mr)) (by rw[List.length_map];omega)
     refine⟨p,qo,r,nn,rfl,jI fr7 hd6 hp (λ_ z=>nomatch z),jI fr7 hd6 hqo (λ_ z=>nomatch z),g.good.nm r mr,g.good.names r mr,lr,m0,Int.lt_trans m1 (by decide),λv H8 s8 no=>?_⟩
     have raw8:=raw7.mono s8
     obtain⟨ver,rep⟩:=kB (c:=c) raw8 sy l45 (by omega:k < rs'.length) raw7.at_ no
     refine⟨_,rfl,_,rfl,fo,_,_,k,rfl,rfl,raw8.at_,?_,?_⟩
     . unfold Wt
       rw[ll]
       simp [hk]
     have hd8:=s8 _ _ hd7
     have ndf:d≠fo:=λe=>by rw[<-e,hd]at nfo;cases nfo
     have hd9:upd H8 fo (.lst ((ps'.map V.ref).set k v)) d=some (.dK (qN n6 sd t6)):=by rw[qi ndf];exact hd8
     have f09:Fr H d (upd H8 fo (.lst ((ps'.map V.ref).set k v))):=(f07.same s8).own nfo
     generalize upd H8 fo (.lst ((ps'.map V.ref).set k v))=H9 at ver rep hd9 f09
     refine⟨_,rfl,_,rfl,by show 3<=sizeLine;decide,λdu' hdu=>⟨by show 2<=sizeLine;decide,λR' hR'=>?_⟩⟩
     have s11:=qg (o:=HO.lst [V.str (Str.ofString "ground"),.int (k:Nat),.bl true]) hdu
     have s12:=qg (o:=HO.lst [V.ref fo,.ref du']) hR'
     have s13:=s11.trans s12
     refine q R' fo du' n6 t6 _ (f09.same s13) (s13 _ _ hd9) qd (rep.keep s13.keep) (.inr ⟨.ground k,λH' E s o=>ver H' E (s13.trans s) o,s12 _ _ qd,(λz e=>nomatch e),λn e=>?_⟩)
     have:=V.int.inj e
     omega
   . have fin:∀{X:Hp} {fo2 du2 R2:Addr} {xs:List V} {res:JQ},Same H6 X->X R2=some (.lst [.ref fo2,.ref du2])->Qy K X fo2->yP K c X (.ref fo2) res->X du2=some (.lst [.str res.tag,res.val,.bl true])->(∀z,res.val=.str z->z.length<=20/\∀x∈z.cps.toList,x<=122)->(∀n,res.val=.int n->0<=n/\n<=1000)->Q (.ref R2) X:=
       λ{X fo2 du2 R2 xs res} s hR rep ver hdu a b=>q R2 fo2 du2 n5 t5 X (f06.same s) (s _ _ hd6) hR rep (.inr ⟨res,ver,hdu,a,b⟩)
     have nn5:∀{xs:List V},(∀z:Str,(JQ.many 15).val=.str z->z.length<=20/\∀x∈z.cps.toList,x<=122)/\∀n,(JQ.many 15).val=.int n->0<=n/\n<=1000:=⟨(λz e=>nomatch e),λn e=>by
       have:=V.int.inj e
       omega⟩
     refine⟨_,rfl,rfl,_,rfl,QL (λc3=>⟨_,rfl,fo,_,rfl,.inl (.of raw6.at_),_,_,rfl,rfl,_,rfl,QL (λc4=> ?tw) (λc4=>?_)⟩) (λc3=>jw rfl ?_)⟩
     case tw=>
       have k14:rs.length < 14:=by
         have:=of_decide_eq_true c4
         rw[ll]at this
         omega
       refine⟨_,rfl,_,rfl,_,rfl,ln,_,_,_,rfl,rfl,.of hln6,ez,by show 0<=sizeLine;decide,λqe hqe=>⟨by show 2<=sizeLine;decide,λpe hpe=>⟨by show 1<=sizeLine;decide,λa2 ha2=>?_⟩⟩⟩
       have u2:=qg (o:=HO.tup []) hqe
       have v2:upd H6 qe (.tup []) qe=some (.tup (([]:List Str).map V.str)):=qd
       generalize upd H6 qe (.tup [])=G2 at u2 v2 hpe ha2
       have u3:=qg (o:=HO.tup [V.str r.1,.ref qe]) hpe
       have v3:upd G2 pe (.tup [V.str r.1,.ref qe]) pe=some (.tup [V.str r.1,.ref qe]):=qd
       generalize upd G2 pe (.tup [V.str r.1,.ref qe])=G3 at u3 v3 ha2
       have u4:=qg (o:=HO.lst [V.ref pe]) ha2
       have v4:upd G3 a2 (.lst [V.ref pe]) a2=some (.lst [V.ref pe]):=qd
       generalize upd G3 a2 (.lst [V.ref pe])=G4 at u4 v4
       have u24:=(u2.trans u3).trans u4
       refine⟨fo,a2,_,_,rfl,rfl,.of (u24 _ _ raw6.at_),.of v4,Nat.le_of_lt (qp (by show _+1<=1000;omega)),λf2 hf2=>?_⟩
       rw[show ps'.map V.ref++[V.ref pe]=(ps'++[pe]).map V.ref by rw[List.map_append];rfl]
       have u5:=qg (o:=HO.lst ((ps'++[pe]).map V.ref)) hf2
       have v5:upd G4 f2 (.lst ((ps'++[pe]).map V.ref)) f2=some (.lst ((ps'++[pe]).map V.ref)):=qd
       generalize upd G4 f2 (.lst ((ps'++[pe]).map V.ref))=G5 at u5 v5
       have u25:=u24.trans u5
       have u45:=u4.trans u5
       have ra:qH G5 (ps'++[pe]) (rs'++[(r.1,[])]):=(raw6.rows.mono u25).app (.oneR (r:=(r.1,[])) (u45 _ _ v3) ((u3.trans u45) _ _ v2))
       have mem:∀x∈rs'++[(r.1,([]:List Str))],x∈rs'\/x=(r.1,[]):=λx hx=>(List.mem_append.mp hx).imp id List.mem_singleton.mp
       have raw:jE G5 f2 (ps'++[pe]) (rs'++[(r.1,[])]):=⟨v5,ra,λx hx=>(mem x hx).elim (raw6.nm x) λe=>by rw[e];exact g.good.nm r mr,λx hx z hz=>(mem x hx).elim (λh=>raw6.nms x h z hz) λe=>(by rw[e]at hz;cases hz),
         λx hx=>(mem x hx).elim (raw6.len x) λe=>by rw[e];exact Nat.zero_le _,by rw[List.length_append];show 0 < _+1;omega,by rw[List.length_append];show _+1<=14;omega⟩
       have rep:Qy K G5 f2:=Jm v5 ra raw.nm raw.nms (λx hx=>(mem x hx).elim (l45 x) λe=>by rw[e];exact Nat.zero_le _) (Nat.le_trans raw.le (by decide))
       refine⟨_,rfl,_,rfl,ln,_,_,_,rfl,rfl,.of (u25 _ _ hln6),ez,by show 3<=sizeLine;decide,λdu' hdu=>⟨by show 2<=sizeLine;decide,λR' hR'=>?_⟩⟩
       have s11:=qg (o:=HO.lst [V.str (Str.ofString "twice"),.str r.1,.bl true]) hdu
       have s12:=qg (o:=HO.lst [V.ref f2,.ref du']) hR'
       have s13:=s11.trans s12
       have en:(rs'++[(r.1,([]:List Str))]).map (·.1)=rs.map (·.1)++[r.1]:=by rw[List.map_append,nm];rfl
       have tk:((rs'++[(r.1,([]:List Str))]).map (·.1)).take rs.length=rs.map (·.1):=by
         rw[en,List.take_append_of_le_length (by rw[List.length_map];exact Nat.le_refl _),List.take_of_length_le (by rw[List.length_map];exact Nat.le_refl _)]
       refine fin (xs:=[]) (res:=.twice r.1) (u25.trans s13) qd (rep.keep s13.keep) (λH' E s o=>.inr ⟨f2,_,_,rfl,raw.mono (s13.trans s),.inl ⟨rs.length,r.1,?_,?_,?_,o⟩⟩) (s12 _ _ qd) (λz e=>?_) (λn e=>nomatch e)
       . rw[en,List.getElem?_append_right (by rw[List.length_map];exact Nat.le_refl _),List.length_map,Nat.sub_self]
         rfl
       . rw[tk]
         exact List.mem_map.mpr ⟨r,mr,rfl⟩
       . rw[tk]
         exact g.good.nd
       . obtain rfl:=V.str.inj e
         exact zF (g.good.nm r mr)
     all_goals
       refine⟨_,rfl,by show 1<=sizeLine;decide,λa1 ha1=>⟨_,rfl,fo,_,rfl,.inl (.of (qg ha1 _ _ raw6.at_)),_,_,rfl,rfl,a1,.non,15 - rs.length,rfl,?_,.of qd,by omega,λa2 ha2=>?_⟩⟩
       . rw[ll]
         exact congrArg V.int (by show (15:Int) - (rs.length:Int)=_;omega)
       have u1:=qg (o:=HO.lst [V.non]) ha1
       generalize upd H6 a1 (.lst [V.non])=G1 at u1 ha2
       have u2:=qg (o:=HO.lst (List.replicate (15 - rs.length) V.non)) ha2
       have v2:upd G1 a2 (.lst (List.replicate (15 - rs.length) V.non)) a2=some (.lst (List.replicate (15 - rs.length) V.non)):=qd
       generalize upd G1 a2 (.lst (List.replicate (15 - rs.length) V.non))=G2 at u2 v2
       have u12:=u1.trans u2
       refine⟨fo,a2,_,_,rfl,rfl,.of (u12 _ _ raw6.at_),.of v2,Nat.le_of_lt (qp (by rw[List.length_replicate,ll];omega)),λf2 hf2=>?_⟩
       have l15:(ps'.map V.ref++List.replicate (15 - rs.length) V.non).length=15:=by rw[List.length_append,ll,List.length_replicate];omega
       have u3:=qg (o:=HO.lst (ps'.map V.ref++List.replicate (15 - rs.length) V.non)) hf2
       have v3:upd G2 f2 (.lst (ps'.map V.ref++List.replicate (15 - rs.length) V.non)) f2=some (.lst (ps'.map V.ref++List.replicate (15 - rs.length) V.non)):=qd
       generalize upd G2 f2 (.lst (ps'.map V.ref++List.replicate (15 - rs.length) V.non))=G3 at u3 v3
       have u13:=u12.trans u3
       have ra:=raw6.rows.mono u13
       have rep:Qy K G3 f2:=Wh v3 (Vw (Vv (15 - rs.length)) (Jy ra)) (λy hy=>by
         rcases List.mem_append.mp hy with h | h
         . obtain⟨x,hx,rfl⟩:=List.mem_map.mp h
           exact X8 (raw6.nm x hx) (raw6.nms x hx) (l45 x hx)
         . rw[List.eq_of_mem_replicate h]
           exact⟨rfl,Nat.zero_le _,by decide+kernel⟩) (by rw[List.length_append,List.length_map,List.length_replicate];omega)
       refine⟨by show 3<=sizeLine;decide,λdu' hdu=>⟨by show 2<=sizeLine;decide,λR' hR'=>?_⟩⟩
       have s11:=qg (o:=HO.lst [V.str (Str.ofString "many"),.int 15,.bl true]) hdu
       have s12:=qg (o:=HO.lst [V.ref f2,.ref du']) hR'
       have s13:=s11.trans s12
       refine fin (xs:=[]) (res:=.many 15) (u13.trans s13) qd (rep.keep s13.keep) (λH' E s o=>.inl (.inr (.inr (.inl ⟨f2,_,rfl,s _ _ (s13 _ _ v3),by rw[l15];decide,by rw[l15];decide,?_⟩)))) (s12 _ _ qd) (nn5 (xs:=[])).1 (nn5 (xs:=[])).2
       rw[l15]
       exact o
end
end Rh
set_option Elab.async false
set_option linter.all false
set_option maxRecDepth 100000
set_option maxHeartbeats 4000000
/-! SCENES:a ground of fourteen places and forty roads or so:_law_full. -/
namespace Rh
open PySem L2 PyProof.Rows
theorem xI {H X:Hp} {p:Addr} {o:HO} (s:Same H X) (h:H p=none):Same H (upd X p o):=λb u hb=>by
 rw[qi (qt hb h)]
 exact s _ _ hb
def wG:Str:=Str.ofString "abcdefghijklmn"
theorem VI:wG.length<=sizeLine:=by decide+kernel
theorem kE {k:Nat} (h:k < 14):Xd wG.cps.toList (k:Int)=some (97+k):=by
 have:∀k,k < 14->wG.cps.toList[k]?=some (97+k):=by decide+kernel
 exact jp (this k h)
def vP (k:Nat):Str:=⟨#[97+k]⟩
def UO (m:Nat):List (Nat×Nat):=(List.range m).map λk=>(k % 14,(k / 14+3*k) % 14)
def UP (m k:Nat):List Str:=((UO m).filter λx=>x.1==k).map λx=>vP x.2
def kr (m:Nat):JX:=(List.range 14).map λk=>(vP k,UP m k)
structure Gx (rs:JX) (m:Nat):Prop where
 nm:∀r∈rs,qw r.1=true
 nms:∀r∈rs,∀z∈r.2,qw z=true
 nd:(rs.map (·.1)).Nodup
 rd:∀r∈rs,r.2.Nodup/\∀z∈r.2,z∈rs.map (·.1)
 sm:(rs.map λr=>r.2.length).sum=m
 len:∀r∈rs,r.2.length<=45
theorem Kf {m:Nat} (h0:38<=m) (h1:m<=43):Gx (kr m) m:=by
 have e:m=38\/m=39\/m=40\/m=41\/m=42\/m=43:=by omega
 rcases e with rfl | rfl | rfl | rfl | rfl | rfl<;>exact⟨by decide+kernel,by decide+kernel,by decide+kernel,by decide+kernel,by decide+kernel,by decide+kernel⟩
theorem Jv (m:Nat):(kr m).length=14:=by unfold kr;rw[List.length_map,List.length_range]
theorem ZD (m:Nat):(UO m).length=m:=by unfold UO;rw[List.length_map,List.length_range]
def ui (K:PySem.W.Frag) (c:C4):Sp:=λvs H Q _=>∃(d:Addr) (n s t:Int),vs=[.ref d]/\H d=some (.dK (qN n s t))/\
 ∀(R fo du:Addr) (n' t':Int) (H':Hp),Fr H d H'->H' d=some (.dK (qN n' s t'))->H' R=some (.lst [.ref fo,.ref du])->Qy K H' fo->Due K c H' fo du->Q (.ref R) H'
abbrev xQ (K:PySem.W.Frag):List V->Hp->VK->Prop:=λxs H Q=>∃p ys,xs=[V.ref p]/\((SqL K H p ys/\∀l,H l=none->Q (.ref l) (upd H l (.tup ys)))\/(SqT K H p ys/\Q (.ref p) H))
theorem Qf.it {H:Hp} {ps:List Addr} {ks:List (Nat×Nat)} (h:Qf H ps ks) {i:Nat} {y:V} (e:(ps.map V.ref)[i]?=some y):∃p k,y=.ref p/\ks[i]?=some k/\H p=some (.tup [.int (k.1:Nat),.int (k.2:Nat)]):=by
 rw[List.getElem?_map]at e
 cases ep:ps[i]? with
 | none=>rw[ep]at e;cases e
 | some p=>
   rw[ep]at e
   have hi:i < ks.length:=by rw[<-h.1];exact(List.getElem?_eq_some_iff.mp ep).1
   exact⟨p,_,(Option.some.inj e).symm,List.getElem?_eq_getElem hi,h.2 i p _ ep (List.getElem?_eq_getElem hi)⟩
section
variable {P:Program} {w:World} {K:PySem.W.Frag} {mg:Str->Option Value} {base:Heap}
abbrev nFu:List Str:=["_law_source_here","_law_letters","_law_many","_law_pairs","_law_rows_here"]
theorem vg:qK nFu ["_law_source_here"] (qv KA):=⟨rfl,rfl,rfl,by decide+kernel,rfl,by decide+kernel,by decide+kernel⟩
abbrev nF1:List Str:=["_law_k","_law_letters","_law_pairs"]
abbrev nF2:List Str:=["_law_one","_law_j","_law_k","_law_letters"]
theorem K9:nF1.Nodup:=by decide+kernel
theorem uQ:nF2.Nodup:=by decide+kernel
theorem uK {f fT:Addr} {c:C4} {fd fdT:FuncData} (F:Ql K "_law_full" "_law_full" KA f fd) (B:Zg mg) (G:QA mg) (hT:jR K mg "_law_take" Qr ["_law_source_here","_law_many"] fT fdT):qz P w K mg base jc 2 f fd ["_law_source_here"] (ui K c):=by
 have GT:qz P w K mg base jc 1 fT fdT ["_law_source_here","_law_many"] j7:=jN hT.fn
 refine F.okJ vg (λvs H Q E z=>?_) (λcdv A outer s H vs Q E hr z=>?_)
 . obtain⟨d,n,sd,t,rfl,_⟩:=z
   rfl
 . obtain⟨d,n,sd,t,rfl,hd,q⟩:=z
   have r1:q5 1 _:=hr.mono (by decide)
   refine⟨_,qh (qB (i:=1) vg.nd rfl (Or.inr rfl) qE)
     (qh (qB (i:=2) vg.nd rfl (Or.inl rfl) (qG jx qj (qS hT GT r1 (by rfl) (qb (jv 0) (qb qj qf)))))
     (qh (qB (i:=3) vg.nd rfl (Or.inr rfl) (QS (N':=["_law_k"]) (ix:=[none]) rfl ⟨rfl,rfl,rfl,rfl,rfl⟩ (jG (by rfl) B.rng (qb (jv 2) qf)) (λC s2 H2 fp pins=>
       ⟨qr (i:=0) (Vj _) rfl (Or.inl rfl),jr,qM (qb (qG jP (jv 0) qj) (qb (qG jP (qG jx (qG Z9 (jv 0) qj) (qG QH qj (jv 0))) qj) qf))⟩)))
     (qh (vT (i:=4) (N':=nF1) (ix:=[none,some 1,some 3])
         (te:=kS (jd (YD xS (qZ 1) (qZ 0)) (jd (yZ (xQ K) (jd (xC (Vq K (qZ 2)) [none,none,some 0,some 1] (ko K 2 (Zp (jH 0) (Zp (jH 1) kq))) (Ye (YD rEq (qZ 0) (qZ 2))) (YD xS (qZ 3) (qZ 1))) Qh)) Qh))) vg.nd rfl (Or.inl rfl) rfl ⟨rfl,by decide+kernel,rfl,rfl⟩ (jG (by rfl) B.rng (qb qj qf)) (λC s2 H2 fp pins=>
       ⟨qr (i:=0) K9 rfl (Or.inr rfl),jr,qM (qb (qP zN (jv 1) (jv 0) (λ_ _=>rfl)) (qb (ji QN (by rfl) G.tup boot_tuple (qb
         (QS (N':=nF2) (ix:=[none,none,some 0,some 1]) rfl ⟨rfl,rfl,rfl,rfl,rfl⟩ (jf (jv 2)) (λC' s3 H3 fp' pins'=>
           ⟨Q9 rfl (qF (qr (i:=0) uQ rfl (Or.inl rfl)) (qF (qr (i:=1) uQ rfl (Or.inl rfl)) js)),Zn (qu jU (jv 0) (jv 2) (by with_unfolding_all rfl)),qP zN (jv 3) (jv 1) (λ_ _=>rfl)⟩)) qf)) qf))⟩))
     (qh (qR (qu JZ (jv 2) qj (qC _)) (qk (qL (qA (qb (jv 4) (qb (qA (qb qE (qb (jv 2) (qb je qf)))) qf))))) qD)
     (qk (qL (qA (qb (jv 4) (qb (qA (qb qE (qb qj qf))) qf))))))))),?_⟩
   refine⟨_,rfl,d,6,n,sd,t,rfl,hd,by decide,by decide,λm0 n1 t1 m1 m2=>⟨_,_,rfl,rfl,?_⟩⟩
   have em:∃m:Nat,(λi j:Int=>V.int (i+j)) 38 m0=V.int (m:Int)/\38<=m/\m<=43:=⟨(38+m0).toNat,congrArg V.int (by show (38:Int)+m0=_;omega),by omega,by omega⟩
   obtain⟨m,em,m38,m43⟩:=em
   have em':(38:Int)+m0=(m:Int):=V.int.inj em
   dsimp only
   rw[em']
   have hd1:upd H d (.dK (qN n1 sd t1)) d=some (.dK (qN n1 sd t1)):=qd
   have fr1:Fr H d (upd H d (.dK (qN n1 sd t1))):=Fr.refl.at_d
   generalize upd H d (.dK (qN n1 sd t1))=H1 at hd1 fr1
   -- the pairs
   refine⟨_,rfl,m,rfl,by omega,by omega,λlp hlp=>?_⟩
   refine QV (λi σ' X=>∃(v:Option V) (qs:List Addr),σ'=[v]/\Same H1 X/\X lp=some (.lst (qs.map V.ref))/\Qf X qs ((UO m).take i)) ⟨none,[],rfl,qg hlp,qd,⟨rfl,λi p k e=>(nomatch e)⟩⟩ ?_ ?_
   . rintro i σ' X hi ⟨v,qs,rfl,sX,hX,pa⟩
     rw[Int.zero_add]
     have hi:i < m:=by simpa using hi
     refine⟨_,rfl,_,_,rfl,rfl,(by show (0:Int) < 14;decide),_,rfl,_,_,rfl,rfl,⟨by decide,by decide⟩,_,rfl,_,_,rfl,rfl,.inl ⟨by omega,by omega⟩,_,_,rfl,rfl,_,_,rfl,rfl,(by show (0:Int) < 14;decide),by show 2<=sizeLine;decide,λp hp=>?_⟩
     have e1:V.int ((i:Int) % 14)=V.int ((i % 14:Nat):Int):=congrArg V.int (by omega)
     have e2:V.int (((i:Int) / 14+3*(i:Int)) % 14)=V.int (((i / 14+3*i) % 14:Nat):Int):=congrArg V.int (by omega)
     have hX1:=qg (o:=HO.tup [V.int ((i:Int) % 14),V.int (((i:Int) / 14+3*(i:Int)) % 14)]) hp _ _ hX
     have lq:=pa.1
     rw[List.length_take,ZD]at lq
     refine⟨_,hX1,by rw[List.length_map];exact qp (by omega),_,qs++[p],rfl,xI (sX.trans (qg hp)) hlp,?_,?_⟩
     . rw[List.map_append]
       exact qd
     . have npl:p≠lp:=λe=>by rw[e,hX]at hp;cases hp
       have ek:(UO m)[i]?=some (i % 14,(i / 14+3*i) % 14):=by
         unfold UO
         rw[List.getElem?_map,List.getElem?_range hi]
         rfl
       rw[List.take_add_one,ek]
       refine⟨by rw[List.length_append,List.length_append,pa.1];rfl,λj p' k' a b=>?_⟩
       by_cases hj:j < qs.length
       . rw[List.getElem?_append_left hj]at a
         rw[List.getElem?_append_left (by rw[<-pa.1];exact hj)]at b
         have h:=pa.2 j p' k' a b
         rw[qi (λe=>by rw[e,hX]at h;cases h)]
         exact qm h hp
       . rw[List.getElem?_append_right (by omega)]at a
         rw[List.getElem?_append_right (by rw[<-pa.1];omega),<-pa.1]at b
         have hj':=(List.getElem?_eq_some_iff.mp a).1
         have hz:j - qs.length=0:=by
           simp at hj'
           omega
         rw[hz]at a b
         obtain rfl:p=p':=by simpa using a
         obtain rfl:(i % 14,(i / 14+3*i) % 14)=k':=by simpa using b
         rw[qi npl,qd]
         show some (HO.tup [V.int ((i:Int) % 14),V.int (((i:Int) / 14+3*(i:Int)) % 14)])=some (HO.tup [V.int ((i % 14:Nat):Int),V.int (((i / 14+3*i) % 14:Nat):Int)])
         rw[e1,e2]
   . rintro σ' X ⟨v,qs,rfl,sX,hX,pa⟩
     have pa:Qf X qs (UO m):=by
       have h0:(m:Int).toNat=m:=by omega
       rw[h0,List.take_of_length_le (by rw[ZD];exact Nat.le_refl _)]at pa
       exact pa
     have lq:=pa.1
     rw[ZD]at lq
     have hdX:=sX _ _ hd1
     have frX:Fr H d X:=fr1.same sX
     -- the rows
     refine⟨14,rfl,by decide,by decide,λlr hlr=>?_⟩
     refine QV (λi σ' Y=>∃(v:Option V) (us:List Addr),σ'=[v,some (.str wG),some (.ref lp)]/\Same X Y/\Y lr=some (.lst (us.map V.ref))/\qH Y us ((kr m).take i)) ⟨none,[],rfl,qg hlr,qd,⟨rfl,λi p k e=>(nomatch e)⟩⟩ ?_ ?_
     . rintro i σ' Y hi ⟨v,us,rfl,sY,hY,ra⟩
       rw[Int.zero_add]
       have hi:i < 14:=by simpa using hi
       have hlp':=sY _ _ hX
       have paY:=pa.mono sY
       refine⟨_,rfl,_,rfl,wG,_,_,rfl,rfl,VI,kE hi,_,rfl,lp,rfl,⟨_,.of hlp'⟩,λU hU=>?_⟩
       refine jD (K:=K) (a:=lp) (xs:=qs.map V.ref) (λj σ'' Z=>∃v0 v1:Option V,σ''=[v0,v1,some (.int (i:Nat)),some (.str wG)]/\Z=upd Y U (.lst (((((UO m).take j).filter λx=>x.1==i).map λx=>vP x.2).map V.str))) ⟨none,none,rfl,rfl⟩ (λj σ'' Z _ ⟨_,_,_,e⟩=>e▸.of (qm hlp' hU)) ?_ ?_
       . rintro j y σ'' Z hy ⟨v0,v1,rfl,rfl⟩
         obtain⟨p,k,rfl,ek,hp⟩:=paY.it hy
         have hj:=(List.getElem?_eq_some_iff.mp ek).1
         rw[ZD]at hj
         have k14:k.2 < 14:=by
           unfold UO at ek
           rw[List.getElem?_map,List.getElem?_range hj]at ek
           obtain rfl:=Option.some.inj ek
           exact Nat.mod_lt _ (by decide)
         refine⟨p,_,rfl,.of (qm hp hU),rfl,_,_,rfl,_,_,rfl,rfl,_,rfl,_,rfl,rfl,_,rfl,?_⟩
         have et:((UO m).take (j+1)).filter (λx=>x.1==i)=((UO m).take j).filter (λx=>x.1==i)++if k.1=i then [k] else []:=by
           rw[List.take_add_one,ek,List.filter_append]
           congr 1
           by_cases e:k.1=i
           . simp [e]
           . simp [e]
         rw[et]
         by_cases e:k.1=i
         . refine Qd (decide_eq_true (by rw[e])) ⟨_,rfl,_,rfl,wG,_,_,rfl,rfl,VI,kE k14,_,qd,?_,_,_,rfl,?_⟩
           . rw[List.length_map,List.length_map]
             refine qp (Nat.le_trans (List.length_filter_le _ _) ?_)
             rw[List.length_take,ZD]
             omega
           . rw[qY,if_pos e,List.map_append,List.map_append]
             rfl
         . refine jw (decide_eq_false (λz=>e (by have:=V.int.inj z;omega))) ⟨_,_,rfl,?_⟩
           rw[if_neg e,List.append_nil]
       . rintro σ'' Z ⟨v0,v1,rfl,rfl⟩
         have ed:(((UO m).take (qs.map V.ref).length).filter λx=>x.1==i).map (λx=>vP x.2)=UP m i:=by
           rw[List.length_map,lq,List.take_of_length_le (by rw[ZD];exact Nat.le_refl _)]
           rfl
         rw[ed]
         have s1:=qg (o:=HO.lst ((UP m i).map V.str)) hU
         have h1:upd Y U (.lst ((UP m i).map V.str)) U=some (.lst ((UP m i).map V.str)):=qd
         generalize upd Y U (.lst ((UP m i).map V.str))=Y1 at s1 h1
         refine⟨U,_,rfl,.inl ⟨.of h1,λtq htq=>⟨by show 2<=sizeLine;decide,λp hp=>?_⟩⟩⟩
         have s2:=qg (o:=HO.tup ((UP m i).map V.str)) htq
         have h2:upd Y1 tq (.tup ((UP m i).map V.str)) tq=some (.tup ((UP m i).map V.str)):=qd
         generalize upd Y1 tq (.tup ((UP m i).map V.str))=Y2 at s2 h2 hp
         have s3:=qg (o:=HO.tup [V.str (vP i),.ref tq]) hp
         have h3:upd Y2 p (.tup [V.str (vP i),.ref tq]) p=some (.tup [V.str (vP i),.ref tq]):=qd
         have e97:(⟨#[97+i]⟩:Str)=vP i:=rfl
         rw[e97]
         generalize upd Y2 p (.tup [V.str (vP i),.ref tq])=Y3 at s3 h3
         have s13:=(s1.trans s2).trans s3
         have hY3:=s13 _ _ hY
         have er:(kr m)[i]?=some (vP i,UP m i):=by
           unfold kr
           rw[List.getElem?_map,List.getElem?_range hi]
           rfl
         have lu:=ra.1
         rw[List.length_take,Jv]at lu
         refine⟨_,hY3,by rw[List.length_map];exact qp (by omega),_,us++[p],rfl,xI (sY.trans s13) hlr,?_,?_⟩
         . rw[List.map_append]
           exact qd
         . rw[List.take_add_one,er]
           exact((ra.mono s13).snoc (r:=(vP i,UP m i)) h3 (s3 _ _ h2)).upd_lst hY3
     . rintro σ' Y ⟨v,us,rfl,sY,hY,ra⟩
       have ra:qH Y us (kr m):=by
         rw[List.take_of_length_le (by rw[Jv];decide)]at ra
         exact ra
       have ok:=Kf m38 m43
       have rep:Qy K Y lr:=Jm hY ra ok.nm ok.nms ok.len (by rw[Jv];decide)
       have hdY:=sY _ _ hdX
       have frY:=frX.same sY
       refine⟨_,rfl,_,_,rfl,rfl,_,rfl,QL (λc2=>?_) (λc2=>?_)⟩
       . refine⟨_,rfl,_,rfl,by show 3<=sizeLine;decide,λdu hdu=>⟨by show 2<=sizeLine;decide,λR hR=>?_⟩⟩
         have m40:40 < m:=by
           have:=of_decide_eq_true c2
           omega
         have s11:=qg (o:=HO.lst [V.str (Str.ofString "many"),.int (m:Nat),.bl true]) hdu
         have s12:=qg (o:=HO.lst [V.ref lr,.ref du]) hR
         have s13:=s11.trans s12
         have raw:jE Y lr us (kr m):=⟨hY,ra,ok.nm,ok.nms,λr hr=>Nat.le_trans (ok.len r hr) (by decide),by rw[Jv];decide,by rw[Jv];decide⟩
         refine q R lr du n1 t1 _ (frY.same s13) (s13 _ _ hdY) qd (rep.keep s13.keep) (.inr ⟨.many m,λH' E s o=>.inr ⟨lr,us,kr m,rfl,raw.mono (s13.trans s),.inr (.inr ⟨ok.nd,ok.rd,by rw[ok.sm];exact m40,by rw[ok.sm];exact o⟩)⟩,s12 _ _ qd,(λz e=>nomatch e),λn e=>?_⟩)
         have:=V.int.inj e
         omega
       . have m40:m<=40:=by
           have:¬(40:Int) < (m:Int):=λh=>c2 (decide_eq_true h)
           omega
         refine⟨_,rfl,by show 2<=sizeLine;decide,λdu hdu=>⟨by show 2<=sizeLine;decide,λR hR=>?_⟩⟩
         have s11:=qg (o:=HO.lst [V.str (Str.ofString "good"),.int 14]) hdu
         have s12:=qg (o:=HO.lst [V.ref lr,.ref du]) hR
         have s13:=s11.trans s12
         have gd:qX Y lr us (kr m):=⟨hY,ra,⟨ok.nm,ok.nd,λr hr=>(ok.rd r hr).2,λr hr=>(ok.rd r hr).1,by rw[ok.sm];exact m40⟩,by rw[Jv];decide,by rw[Jv];decide⟩
         exact q R lr du n1 t1 _ (frY.same s13) (s13 _ _ hdY) qd (rep.keep s13.keep) (.inl ⟨us,kr m,gd.mono s13,by rw[Jv];exact s12 _ _ qd⟩)
end
end Rh
set_option Elab.async false
set_option linter.all false
set_option maxRecDepth 100000
set_option maxHeartbeats 4000000
/-! SCENES:_law_scene. -/
namespace Rh
open PySem L2 PyProof.Rows
def KE:Str:=Str.ofString "bcdefghijklmnopq"
theorem yN:KE.length<=sizeLine:=by decide+kernel
theorem wF {k:Nat} (h:k < 16):Xd KE.cps.toList (k:Int)=some (98+k):=by
 have:∀k,k < 16->KE.cps.toList[k]?=some (98+k):=by decide+kernel
 exact jp (this k h)
def K8 (k:Nat):Str:=Str.ofString "a"++Txt.mul ⟨#[98+k]⟩ ((1+k % 7:Nat):Int)
def Xc (m:Nat):List Str:=(List.range m).map K8
def Vg (m:Nat):JX:=(Xc m).map λz=>(z,[])
theorem uO:∀k,k < 16->qw (K8 k)=true:=by decide+kernel
theorem wb:∀k,k < 16->(Str.ofString "a").length+(Txt.mul ⟨#[98+k]⟩ ((1+k % 7:Nat):Int)).length<=sizeLine:=by decide+kernel
theorem uN:(Xc 16).Nodup:=by decide+kernel
theorem Q6 (m:Nat):(Vg m).length=m:=by unfold Vg Xc;rw[List.length_map,List.length_map,List.length_range]
theorem we {m:Nat} (h:m<=16):∀r∈Vg m,qw r.1=true/\r.2=[]:=λr hr=>by
 unfold Vg Xc at hr
 obtain⟨z,hz,rfl⟩:=List.mem_map.mp hr
 obtain⟨k,hk,rfl⟩:=List.mem_map.mp hz
 have:=List.mem_range.mp hk
 exact⟨uO k (by omega),rfl⟩
theorem wf {m:Nat} (h:m<=16):((Vg m).map (·.1)).Nodup:=by
 have e:(Vg m).map (·.1)=Xc m:=by
   unfold Vg
   rw[List.map_map]
   exact List.map_id _
 have e2:Xc m=(Xc 16).take m:=by
   unfold Xc
   rw[<-List.map_take,List.take_range,Nat.min_eq_left h]
 rw[e,e2]
 exact uN.sublist (List.take_sublist _ _)
section
variable {P:Program} {w:World} {K:PySem.W.Frag} {mg:Str->Option Value} {base:Heap}
abbrev nSc:List Str:=["_law_rows_here","_law_source_here","_law_way","_law_many","_law_names_here","_law_at","_law_found"]
theorem VZ:qK nSc QR (qv Kx):=⟨rfl,rfl,rfl,by decide+kernel,rfl,by decide+kernel,by decide+kernel⟩
structure wL (K:PySem.W.Frag) (mg:Str->Option Value):Prop where
 pl:∃f fd,jR K mg "_law_places" yb QR f fd
 wr:∃f fd,jR K mg "_law_wrong_road" uk QR f fd
 rt:∃f fd,jR K mg "_law_road_twice" um QR f fd
 tr:∃f fd,jR K mg "_law_two_roads" Kw QR f fd
 pt:∃f fd,jR K mg "_law_place_twice" Ky QR f fd
 tw:∃f fd,jR K mg "_law_two" Kv QR f fd
 fu:∃f fd,jR K mg "_law_full" KA ["_law_source_here"] f fd
 br:∃f fd,jR K mg "_law_bad_row" uo KB f fd
theorem uH {f fT:Addr} {c:C4} {fd fdT:FuncData} (F:Ql K "_law_scene" "_law_scene" Kx f fd) (B:Zg mg) (G:QA mg) (S:wL K mg) (hT:jR K mg "_law_take" Qr ["_law_source_here","_law_many"] fT fdT):qz P w K mg base jc 5 f fd QR (jX K c):=by
 obtain⟨fPl,fdPl,hPl⟩:=S.pl
 obtain⟨fW,fdW,hW⟩:=S.wr
 obtain⟨fR,fdR,hR⟩:=S.rt
 obtain⟨fTR,fdTR,hTR⟩:=S.tr
 obtain⟨fPT,fdPT,hPT⟩:=S.pt
 obtain⟨fTw,fdTw,hTw⟩:=S.tw
 obtain⟨fFu,fdFu,hFu⟩:=S.fu
 obtain⟨fB,fdB,hB⟩:=S.br
 have GT:qz P w K mg base jc 1 fT fdT ["_law_source_here","_law_many"] j7:=jN hT.fn
 have GW:qz P w K mg base jc 3 fW fdW QR (jX K c):=(xh hW.fn B G hT hPl).imp λ_ _ _ _ h=>ZN h
 have GR:qz P w K mg base jc 3 fR fdR QR (jX K c):=(xi hR.fn B G hT hPl).imp λ_ _ _ _ h=>ZN h
 have GTR:qz P w K mg base jc 3 fTR fdTR QR (jX K c):=(uG hTR.fn B G hT hPl).imp λ_ _ _ _ h=>ZN h
 have GPT:qz P w K mg base jc 3 fPT fdPT QR (jX K c):=uI hPT.fn B G hT hPl
 have GTw:qz P w K mg base jc 4 fTw fdTw QR (jX K c):=uF hTw.fn B G hT hPl hW hR hB
 have GFu:qz P w K mg base jc 2 fFu fdFu ["_law_source_here"] (ui K c):=uK hFu.fn B G hT
 have GB:qz P w K mg base jc 1 fB fdB KB (xH K):=xj hB.fn G
 refine F.okJ VZ (λvs H Q E z=>?_) (λcdv A outer s H vs Q E hr z=>?_)
 . obtain⟨l,d,ps,rs,n,sd,t,rfl,_⟩:=z
   rfl
 . obtain⟨l,d,ps,rs,n,sd,t,rfl,g,nf,hd,q⟩:=z
   have r1:q5 1 _:=hr.mono (by decide)
   have r2:q5 2 _:=hr.mono (by decide)
   have r3:q5 3 _:=hr.mono (by decide)
   have r4:q5 4 _:=hr.mono (by decide)
   refine⟨_,qh (qB (i:=2) VZ.nd rfl (Or.inl rfl) (qS hT GT r1 (by rfl) (qb (jv 1) (qb qj qf))))
     (qh (qR (qu jU (jv 2) qj (qC _)) (qk (qL (qS hW GW r3 (by rfl) (qb (jv 0) (qb (jv 1) qf))))) qD)
     (qh (qR (qu jU (jv 2) qj (qC _)) (qk (qL (qS hTR GTR r3 (by rfl) (qb (jv 0) (qb (jv 1) qf))))) qD)
     (qh (qR (qu jU (jv 2) qj (qC _)) (qk (qL (qS hR GR r3 (by rfl) (qb (jv 0) (qb (jv 1) qf))))) qD)
     (qh (qR (qu jU (jv 2) qj (qC _)) (qk (qL (qS hPT GPT r3 (by rfl) (qb (jv 0) (qb (jv 1) qf))))) qD)
     (qh (qR (qu jU (jv 2) qj (qC _)) (qk (qL (qS hTw GTw r4 (by rfl) (qb (jv 0) (qb (jv 1) qf))))) qD)
     (qh (qR (qu jU (jv 2) qj (qC _)) (qk (qL (qS hFu GFu r2 (by rfl) (qb (jv 1) qf)))) qD)
     (qh (qR (qu jU (jv 2) qj (qC _))
       (qh (qB (i:=3) VZ.nd rfl (Or.inl rfl) (qG jx qj (qS hT GT r1 (by rfl) (qb (jv 1) (qb qj qf)))))
       (qh (Qt (i:=4) (N':=["_law_k"]) (ix:=[none]) VZ.nd rfl (Or.inl rfl) rfl ⟨rfl,rfl,rfl,rfl,rfl⟩ (jG (by rfl) B.rng (qb (jv 3) qf)) (λC s2 H2 fp pins=>
         ⟨qr (i:=0) (Vj _) rfl (Or.inl rfl),jr,qG Q5 qE (qG yh (qP zN qE (jv 0) (λ_ _=>rfl)) (qG jx qj (qG jP (jv 0) qj)))⟩))
       (qk (qL (qA (qb (QS (N':=["_law_name"]) (ix:=[none]) rfl ⟨rfl,rfl,rfl,rfl,rfl⟩ (jf (jv 4)) (λC s2 H2 fp pins=>
         ⟨qr (i:=0) (Vj _) rfl (Or.inl rfl),jr,qM (qb (jv 0) (qb (qM qf) qf))⟩)) (qb (qP qO (qA (qb (qA (qb qE (qb (jv 3) qf))) (qb (qA (qb qE (qb (jv 3) (qb je qf)))) qf))) (ji Yu (by rfl) B.int boot_int (qb (Zo JZ (jv 3) qj (qC _)) qf)) (λ_ _=>rfl)) qf)))))))
       qD)
     (qh (qB (i:=5) VZ.nd rfl (Or.inl rfl) (qS hT GT r1 (by rfl) (qb (jv 1) (qb (ql qy (by rfl) B.len boot_len (qb (jv 0) qf)) qf))))
     (qh (qB (i:=6) VZ.nd rfl (Or.inl rfl) (ji Qe (by rfl) G.lst boot_list (qb (jv 0) qf)))
     (qh (jy (qS hB GB r1 (by rfl) (qb (qP qO (jv 0) (jv 5) (λ_ _=>rfl)) (qb (qS hT GT r1 (by rfl) (qb (jv 1) (qb qj qf))) qf))) (Zd (jv 6) (jv 5) Qq))
     (qk (qL (qA (qb (jv 6) (qb (qA (qb qE (qb (jv 5) (qb je qf)))) qf))))))))))))))),?_⟩
   have lps:=g.rows.1
   have le:=g.le
   refine⟨_,rfl,d,9,n,sd,t,rfl,hd,by decide,by decide,λwy n1 t1 w0 w9=>?_⟩
   have hd1:upd H d (.dK (qN n1 sd t1)) d=some (.dK (qN n1 sd t1)):=qd
   have fr1:Fr H d (upd H d (.dK (qN n1 sd t1))):=Fr.refl.at_d
   have g1:=g.frd fr1 hd
   generalize upd H d (.dK (qN n1 sd t1))=H1 at hd1 fr1 g1
   have sc:jX K c [.ref l,.ref d] H1 Q E0:=⟨l,d,ps,rs,n1,sd,t1,rfl,g1,nf,hd1,λR fo du n' t' H' fr hd' hR rep due=>q R fo du n' t' H' (fr1.trans fr) hd' hR rep due⟩
   refine⟨_,rfl,rfl,_,rfl,QL (λc2=>⟨_,rfl,_,rfl,sc⟩) λc2=>?_⟩
   refine⟨_,rfl,rfl,_,rfl,QL (λc2=>⟨_,rfl,_,rfl,sc⟩) λc2=>?_⟩
   refine⟨_,rfl,rfl,_,rfl,QL (λc2=>⟨_,rfl,_,rfl,sc⟩) λc2=>?_⟩
   refine⟨_,rfl,rfl,_,rfl,QL (λc2=>⟨_,rfl,_,rfl,sc⟩) λc2=>?_⟩
   refine⟨_,rfl,rfl,_,rfl,QL (λc2=>⟨_,rfl,_,rfl,sc⟩) λc2=>?_⟩
   refine⟨_,rfl,rfl,_,rfl,QL (λc2=>⟨_,rfl,d,n1,sd,t1,rfl,hd1,λR fo du n' t' H' fr hd' hR rep due=>q R fo du n' t' H' (fr1.trans fr) hd' hR rep due⟩) λc2=>?_⟩
   refine⟨_,rfl,rfl,_,rfl,QL (λc2=>?_) λc2=>?_⟩
   . refine⟨_,rfl,d,4,n1,sd,t1,rfl,hd1,by decide,by decide,λm0 n2 t2 m1 m2=>⟨_,_,rfl,rfl,?_⟩⟩
     obtain⟨m,em,m13,m16⟩:∃m:Nat,(13:Int)+m0=(m:Int)/\13<=m/\m<=16:=⟨(13+m0).toNat,by omega,by omega,by omega⟩
     dsimp only
     rw[em]
     have hd2:upd H1 d (.dK (qN n2 sd t2)) d=some (.dK (qN n2 sd t2)):=qd
     have fr2:Fr H1 d (upd H1 d (.dK (qN n2 sd t2))):=Fr.refl.at_d
     generalize upd H1 d (.dK (qN n2 sd t2))=H2 at hd2 fr2
     have f02:=fr1.trans fr2
     refine⟨_,rfl,m,rfl,by omega,by omega,λln hln=>?_⟩
     refine QV (λi σ' X=>∃v:Option V,σ'=[v]/\X=upd H2 ln (.lst (((Xc m).take i).map V.str))) ⟨none,rfl,rfl⟩ ?_ ?_
     . rintro i σ' X hi ⟨v,rfl,rfl⟩
       rw[Int.zero_add]
       have hi:i < m:=by simpa using hi
       have e7:(1:Int)+(i:Int) % 7=((1+i % 7:Nat):Int):=by omega
       refine⟨_,rfl,KE,_,_,rfl,rfl,yN,wF (by omega),_,rfl,_,_,rfl,rfl,(by show (0:Int) < 7;decide),_,_,rfl,rfl,_,((1+i % 7:Nat):Int),rfl,congrArg V.int e7,by show 1<=1000;decide,by omega,by omega,_,_,rfl,rfl,wb i (by omega),_,qd,?_,_,rfl,?_⟩
       . rw[List.length_map,List.length_take]
         exact qp (by omega)
       . have ek:(Xc m)[i]?=some (K8 i):=by
           unfold Xc
           rw[List.getElem?_map,List.getElem?_range hi]
           rfl
         rw[qY,List.take_add_one,ek,List.map_append]
         rfl
     . rintro σ' X ⟨v,rfl,rfl⟩
       have ll:(Xc m).length=m:=by unfold Xc;rw[List.length_map,List.length_range]
       rw[List.take_of_length_le (by rw[ll];omega)]
       have s3:=qg (o:=HO.lst ((Xc m).map V.str)) hln
       have h3:upd H2 ln (.lst ((Xc m).map V.str)) ln=some (.lst ((Xc m).map V.str)):=qd
       generalize upd H2 ln (.lst ((Xc m).map V.str))=H3 at s3 h3
       refine⟨_,rfl,ln,rfl,⟨_,.of h3⟩,λlr hlr=>?_⟩
       refine jD (K:=K) (a:=ln) (xs:=(Xc m).map V.str) (λi σ' Y=>∃(v:Option V) (us:List Addr),σ'=[v]/\Same H3 Y/\Y lr=some (.lst (us.map V.ref))/\qH Y us ((Vg m).take i)) ⟨none,[],rfl,qg hlr,qd,⟨rfl,λi p k e=>(nomatch e)⟩⟩ (λi σ' Y _ ⟨_,_,_,sY,_⟩=>.of (sY _ _ h3)) ?_ ?_
       . rintro i y σ' Y hy ⟨v,us,rfl,sY,hY,ra⟩
         obtain⟨z,ez,hz,rfl⟩:=QZ hy
         have hi:=(List.getElem?_eq_some_iff.mp ez).1
         rw[ll]at hi
         refine⟨_,rfl,by show 0<=sizeLine;decide,λqe hqe=>⟨by show 2<=sizeLine;decide,λp hp=>?_⟩⟩
         have u2:=qg (o:=HO.tup []) hqe
         have v2:upd Y qe (.tup []) qe=some (.tup (([]:List Str).map V.str)):=qd
         generalize upd Y qe (.tup [])=Y2 at u2 v2 hp
         have u3:=qg (o:=HO.tup [V.str z,.ref qe]) hp
         have v3:upd Y2 p (.tup [V.str z,.ref qe]) p=some (.tup [V.str z,.ref qe]):=qd
         generalize upd Y2 p (.tup [V.str z,.ref qe])=Y3 at u3 v3
         have u23:=u2.trans u3
         have hY3:=u23 _ _ hY
         have lu:=ra.1
         rw[List.length_take,Q6]at lu
         have er:(Vg m)[i]?=some (z,[]):=by
           unfold Vg
           rw[List.getElem?_map,ez]
           rfl
         refine⟨_,hY3,by rw[List.length_map];exact qp (by omega),_,us++[p],rfl,xI (sY.trans u23) hlr,?_,?_⟩
         . rw[List.map_append]
           exact qd
         . rw[List.take_add_one,er]
           exact((ra.mono u23).snoc (r:=(z,[])) v3 (u3 _ _ v2)).upd_lst hY3
       . rintro σ' Y ⟨v,us,rfl,sY,hY,ra⟩
         have ra:qH Y us (Vg m):=by
           rw[List.length_map,ll,List.take_of_length_le (by rw[Q6];exact Nat.le_refl _)]at ra
           exact ra
         have lu:=ra.1
         rw[Q6]at lu
         have nm:=we m16
         have rep:Qy K Y lr:=Jm hY ra (λr hr=>(nm r hr).1) (λr hr z hz=>by rw[(nm r hr).2]at hz;cases hz) (λr hr=>by rw[(nm r hr).2];exact Nat.zero_le _) (by rw[Q6];omega)
         have hdY:=(s3.trans sY) _ _ hd2
         have frY:=f02.same (s3.trans sY)
         refine⟨_,rfl,by show 2<=sizeLine;decide,λda hda=>⟨_,rfl,by show 3<=sizeLine;decide,λdb hdb=>⟨by show 2<=sizeLine;decide,λdl hdl=>⟨_,rfl,_,_,rfl,rfl,.inr ⟨_,rfl,?_⟩⟩⟩⟩⟩
         have s4:=qg (o:=HO.lst [V.str (Str.ofString "good"),.int (m:Nat)]) hda
         have h4:upd Y da (.lst [V.str (Str.ofString "good"),.int (m:Nat)]) da=some (.lst [V.str (Str.ofString "good"),.int (m:Nat)]):=qd
         generalize upd Y da (.lst [V.str (Str.ofString "good"),.int (m:Nat)])=Y4 at s4 h4 hdb hdl ⊢
         have s5:=qg (o:=HO.lst [V.str (Str.ofString "many"),.int (m:Nat),.bl true]) hdb
         have h5:upd Y4 db (.lst [V.str (Str.ofString "many"),.int (m:Nat),.bl true]) db=some (.lst [V.str (Str.ofString "many"),.int (m:Nat),.bl true]):=qd
         generalize upd Y4 db (.lst [V.str (Str.ofString "many"),.int (m:Nat),.bl true])=Y5 at s5 h5 hdl ⊢
         have s6:=qg (o:=HO.lst [V.ref da,.ref db]) hdl
         have h6:upd Y5 dl (.lst [V.ref da,.ref db]) dl=some (.lst [V.ref da,.ref db]):=qd
         generalize upd Y5 dl (.lst [V.ref da,.ref db])=Y6 at s6 h6 ⊢
         have s46:=(s4.trans s5).trans s6
         by_cases c14:14 < m
         . have e1:(if (decide ((14:Int) < (m:Int)))=true then (1:Int) else 0)=1:=if_pos (decide_eq_true (by omega))
           refine⟨dl,_,_,.ref db,rfl,rfl,.of h6,?_,by show 2<=sizeLine;decide,λR hR=>?_⟩
           . rw[e1]
             rfl
           have s12:=qg (o:=HO.lst [V.ref lr,.ref db]) hR
           have s13:=s46.trans s12
           have lv:(us.map V.ref).length=m:=by rw[List.length_map,lu]
           refine q R lr db n2 t2 _ (frY.same s13) (s13 _ _ hdY) qd (rep.keep s13.keep) (.inr ⟨.many m,λH' E s o=>.inl (.inr (.inr (.inl ⟨lr,_,rfl,s _ _ (s13 _ _ hY),by rw[lv];exact c14,by rw[lv];omega,?_⟩))),s12 _ _ (s6 _ _ h5),(λz e=>nomatch e),λn e=>?_⟩)
           . rw[lv];exact o
           . have:=V.int.inj e
             omega
         . have e1:(if (decide ((14:Int) < (m:Int)))=true then (1:Int) else 0)=0:=if_neg (by rw[decide_eq_false (by omega)];exact Bool.false_ne_true)
           refine⟨dl,_,_,.ref da,rfl,rfl,.of h6,?_,by show 2<=sizeLine;decide,λR hR=>?_⟩
           . rw[e1]
             rfl
           have s12:=qg (o:=HO.lst [V.ref lr,.ref da]) hR
           have s13:=s46.trans s12
           have sm:((Vg m).map λr=>r.2.length).sum=0:=by
             refine Nat.le_zero.mp (Nat.le_trans (U0 (m:=0) λx hx=>?_) (Nat.le_refl _))
             obtain⟨r,hr,rfl⟩:=List.mem_map.mp hx
             rw[(nm r hr).2]
             exact Nat.le_refl _
           have gd:qX Y lr us (Vg m):=⟨hY,ra,⟨λr hr=>(nm r hr).1,wf m16,λr hr z hz=>(by rw[(nm r hr).2]at hz;cases hz),λr hr=>by rw[(nm r hr).2];exact List.nodup_nil,by rw[sm];decide⟩,by rw[Q6];omega,by rw[Q6];omega⟩
           exact q R lr da n2 t2 _ (frY.same s13) (s13 _ _ hdY) qd (rep.keep s13.keep) (.inl ⟨us,Vg m,gd.mono s13,by rw[Q6];exact s12 _ _ ((s5.trans s6) _ _ h4)⟩)
   . refine⟨_,rfl,_,rfl,l,_,rfl,.inl (.of g1.at_),d,_,n1,sd,t1,rfl,hd1,by rw[List.length_map,lps];have:=g.pos;omega,by rw[List.length_map,lps];omega,λk0 n2 t2 k1 k2=>?_⟩
     rw[List.length_map,lps]at k2
     obtain⟨k,rfl⟩:∃k:Nat,k0=(k:Int):=⟨k0.toNat,by omega⟩
     have hk:k < rs.length:=by omega
     have hd2:upd H1 d (.dK (qN n2 sd t2)) d=some (.dK (qN n2 sd t2)):=qd
     have fr2:Fr H1 d (upd H1 d (.dK (qN n2 sd t2))):=Fr.refl.at_d
     have g2:=g1.frd fr2 hd1
     generalize upd H1 d (.dK (qN n2 sd t2))=H2 at hd2 fr2 g2
     have f02:=fr1.trans fr2
     have er:rs[k]?=some rs[k]:=List.getElem?_eq_getElem hk
     have mr:rs[k]∈rs:=List.getElem_mem hk
     generalize rs[k]=r at er mr
     have ep:ps[k]?=some ps[k]:=List.getElem?_eq_getElem (by rw[lps];exact hk)
     generalize ps[k]'(by rw[lps];exact hk)=p at ep
     refine⟨_,rfl,l,_,rfl,.inl (.of g2.at_),λfo hfo nfo=>?_⟩
     have nHfo:H fo=none:=f02.fresh hd2 hfo
     have s3:=qg (o:=HO.lst (ps.map V.ref)) hfo
     have h3:upd H2 fo (.lst (ps.map V.ref)) fo=some (.lst (ps.map V.ref)):=qd
     generalize upd H2 fo (.lst (ps.map V.ref))=H3 at s3 h3
     have g3:=g2.mono s3
     have hd3:=s3 _ _ hd2
     have raw3:jE H3 fo ps rs:=⟨h3,g3.rows,g.good.nm,g.good.names,λx hx=>Nat.le_trans (g.good.len x hx) (by decide),g.pos,g.le⟩
     obtain⟨qo,hp,hqo⟩:=g3.rows.2 k p r ep er
     refine⟨_,rfl,_,rfl,l,_,_,_,rfl,rfl,.of g3.at_,jp (j:=k) (by rw[List.getElem?_map,ep];rfl),_,rfl,d,560,n2,sd,t2,rfl,hd3,by decide,by decide,λnn n6 t6 m0 m1=>?_⟩
     have hd7:upd H3 d (.dK (qN n6 sd t6)) d=some (.dK (qN n6 sd t6)):=qd
     have fr7:Fr H3 d (upd H3 d (.dK (qN n6 sd t6))):=Fr.refl.at_d
     generalize upd H3 d (.dK (qN n6 sd t6))=H7 at hd7 fr7
     have raw7:=raw3.fr fr7 hd3
     have f07:Fr H d H7:=(f02.same s3).trans fr7
     have lr:r.2.length<=25:=Nat.le_trans (Wq (g.good.rd r mr) (g.good.to r mr)) (by rw[List.length_map];omega)
     refine⟨p,qo,r,nn,rfl,jI fr7 hd3 hp (λ_ z=>nomatch z),jI fr7 hd3 hqo (λ_ z=>nomatch z),g.good.nm r mr,g.good.names r mr,lr,m0,Int.lt_trans m1 (by decide),λv H8 s8 no=>?_⟩
     have raw8:=raw7.mono s8
     obtain⟨ver,rep⟩:=kB (c:=c) raw8 nfo (λx hx=>Nat.le_trans (g.good.len x hx) (by decide)) hk raw7.at_ no
     refine⟨_,rfl,_,rfl,fo,_,_,k,rfl,rfl,raw8.at_,?_,?_⟩
     . unfold Wt
       rw[List.length_map,lps]
       simp [hk]
     have hd8:=s8 _ _ hd7
     have ndf:d≠fo:=λe=>by rw[<-e,hd]at nHfo;cases nHfo
     have hd9:upd H8 fo (.lst ((ps.map V.ref).set k v)) d=some (.dK (qN n6 sd t6)):=by rw[qi ndf];exact hd8
     have f09:Fr H d (upd H8 fo (.lst ((ps.map V.ref).set k v))):=(f07.same s8).own nHfo
     generalize upd H8 fo (.lst ((ps.map V.ref).set k v))=H9 at ver rep hd9 f09
     refine⟨_,rfl,_,rfl,by show 3<=sizeLine;decide,λdu' hdu=>⟨by show 2<=sizeLine;decide,λR' hR'=>?_⟩⟩
     have s11:=qg (o:=HO.lst [V.str (Str.ofString "ground"),.int (k:Nat),.bl true]) hdu
     have s12:=qg (o:=HO.lst [V.ref fo,.ref du']) hR'
     have s13:=s11.trans s12
     refine q R' fo du' n6 t6 _ (f09.same s13) (s13 _ _ hd9) qd (rep.keep s13.keep) (.inr ⟨.ground k,λH' E s o=>ver H' E (s13.trans s) o,s12 _ _ qd,(λz e=>nomatch e),λn e=>?_⟩)
     have:=V.int.inj e
     omega
end
end Rh
set_option Elab.async false
set_option linter.all false
set_option maxRecDepth 100000
set_option maxHeartbeats 4000000
/-! THE LAW k03. -/
namespace Rh
open PySem L2 PyProof.Rows
def WZ (K:PySem.W.Frag):Sp:=λvs H Q _=>∃(a:Addr) (ns:List Int),vs=[.ref a]/\SqL K H a (ns.map V.int)/\ns.length<=63/\∀H',Q (.bl true) H'
theorem uW {r:Int} (h0:0<=r) (h1:r < 3):∃mo:Nat,Xd [V.int 5,.int 9,.int 14] r=some (.int (mo:Int))/\0 < mo/\mo<=14:=by
 have:r=0\/r=1\/r=2:=by omega
 rcases this with rfl | rfl | rfl
 . exact⟨5,rfl,by decide,by decide⟩
 . exact⟨9,rfl,by decide,by decide⟩
 . exact⟨14,rfl,by decide,by decide⟩
theorem Ka {n jj:Int} (h0:0<=n) (h:(if (if (30:Int) < n then (30:Int) else n) > 4 then (if (30:Int) < n then (30:Int) else n) else 4)=jj):-(2^62)<=jj/\jj < 2^62:=by
 subst h
 split<;>split<;>omega
theorem WJ {K:PySem.W.Frag} {H H':Hp} {p d:Addr} {ns:List Int} {kvs:List (qW×V)} (h:SqL K H p (ns.map V.int)) (hd:H d=some (.dK kvs)) (f:Fr H d H'):SqL K H' p (ns.map V.int):=by
 rcases h with (h | ⟨o,h⟩) | h
 . exact .inl (.inl (f _ _ h (λe=>by rw[e,hd]at h;cases h)))
 . exact .inl (.inr ⟨o,f _ _ h (λe=>by rw[e,hd]at h;cases h)⟩)
 . exact .inr h
/-- a list shown -/
theorem Jn {K:PySem.W.Frag} {H:Hp} {l:Addr} {xs:List V} {ds:List PyData} {Q:VK} (hl:H l=some (.lst xs)) (dv:DVs K H xs ds) (sz:∀d∈ds,Sz 5000 d) (le:ds.length<=20) (q:Q (.str (PyData.list ds).shown) H):YK K [.ref l] H Q:=by
 obtain⟨h1,h2,h3⟩:=zA sz le
 exact .inl ⟨l,.list ds,rfl,.lst (.of hl) dv,h1,(DV.lst (.of hl) dv:DV K H (.ref l) (.list ds)).noDict,h2,h3,q⟩
theorem Wa {n:Nat} (h:n<=1000):Sz 5000 (.int (n:Int)):=by
 have:∀n:Nat,n<=1000->(PyData.int (n:Int)).showable=true/\(PyData.int (n:Int)).shown.length<=5000:=by decide+kernel
 exact⟨(this n h).1,Nat.zero_le _,(this n h).2⟩
theorem J8 {z:Str} (h:Ug z):Sz 5000 (.str z):=by
 have:=(YR (K:=[]) (H:=λ_=>none) h)
 exact⟨rfl,Nat.zero_le _,Nat.le_trans this.ln (by decide)⟩
def JQ.dat:JQ->PyData
 | .ground n=>.int (n:Nat)
 | .many n=>.int (n:Nat)
 | .twice z=>.str z
 | .place z=>.str z
theorem YX {K:PySem.W.Frag} {H:Hp} (r:JQ):DVs K H [.str r.tag,r.val,.bl true] [.str r.tag,r.dat,.bool true]:=.cons (.str _) (.cons (by cases r<;>first | exact .int _ | exact .str _) (.cons (.bl true) .nil))
theorem xF (r:JQ):Sz 5000 (.str r.tag):=by
 cases r with
 | ground n=>exact J8 (by show Ug (Str.ofString "ground");decide+kernel)
 | many n=>exact J8 (by show Ug (Str.ofString "many");decide+kernel)
 | twice n=>exact J8 (by show Ug (Str.ofString "twice");decide+kernel)
 | place n=>exact J8 (by show Ug (Str.ofString "place");decide+kernel)
theorem xE:Sz 5000 (.bool true):=⟨rfl,Nat.zero_le _,by decide+kernel⟩
theorem X9 {r:JQ} (a:∀z,r.val=.str z->Ug z) (b:∀n,r.val=.int n->0<=n/\n<=1000):∀d∈[PyData.str r.tag,r.dat,.bool true],Sz 5000 d:=by
 intro d hd
 simp only[List.mem_cons,List.mem_nil_iff,or_false]at hd
 rcases hd with rfl | rfl | rfl
 . exact xF r
 . cases r with
   | ground n=>exact Wa (by have:=b n rfl;omega)
   | many n=>exact Wa (by have:=b n rfl;omega)
   | twice z=>exact J8 (a z rfl)
   | place z=>exact J8 (a z rfl)
 . exact xE
theorem Z6 {n:Nat} (h:n<=14):∀d∈[PyData.str (Str.ofString "good"),.int (n:Int)],Sz 5000 d:=by
 intro d hd
 simp only[List.mem_cons,List.mem_nil_iff,or_false]at hd
 rcases hd with rfl | rfl
 . exact J8 (by decide+kernel)
 . exact Wa (by omega)
theorem zm {K:PySem.W.Frag} {H:Hp} (n:Nat):DVs K H [.str (Str.ofString "good"),.int (n:Nat)] [.str (Str.ofString "good"),.int (n:Int)]:=.cons (.str _) (.cons (.int _) .nil)
section
variable {P:Program} {w:World} {K:PySem.W.Frag} {mg:Str->Option Value} {base:Heap}
abbrev Gc:List Str:=["_law_script","_law_k","_law_source_here","_law_rows_here","_law_bad","_law_due","_law_kept","_law_thing"]
theorem ZR:qK Gc ["_law_script"] (qv YJ):=⟨rfl,rfl,rfl,by decide+kernel,rfl,by decide+kernel,by decide+kernel⟩
/-- the defs of the law -/
structure Kp (K:PySem.W.Frag) (mg:Str->Option Value):Prop where
 cell:∃f fd,jR K mg "_law_cell_at" W6 ["_law_script","_law_k"] f fd
 source:∃f fd,jR K mg "_law_source" Z8 ["_law_cell"] f fd
 take:∃f fd,jR K mg "_law_take" Qr ["_law_source_here","_law_many"] f fd
 names:∃f fd,jR K mg "_law_names" zx ["_law_source_here","_law_many"] f fd
 leads:∃f fd,jR K mg "_law_leads" zy zC f fd
 rows:∃f fd,jR K mg "_law_rows" W4 ["_law_source_here","_law_most"] f fd
 need:∃f fd,jR K mg "need_rows" ZS ["rows"] f fd
 lt:∃f fd,jR K mg "_law_told" Kz ["_law_rows_here"] f fd
 sc:∃f fd,jR K mg "_law_scene" Kx QR f fd
theorem xZ {f CG D fM:Addr} {c:C4} {fd fdM:FuncData} (F:Ql K "law" "law" YJ f fd) (B:Zg mg) (G:QA mg) (T:Jx K mg) (N:WM K mg) (hcl:∃fI fdI,wU K mg CG fI fdI) (hM:KF K CG "names" "Ground.names" Jz ["self"] fM fdM) (X4:yT K mg D c) (Z:wJ K mg D c) (S:wL K mg) (L:Kp K mg) (rep:mg "repr"=none):qz P w K mg base jc 9 f fd ["_law_script"] (WZ K):=by
 obtain⟨fO,fdO,hO⟩:=L.cell
 obtain⟨fL,fdL,hL⟩:=L.source
 obtain⟨fT,fdT,hT⟩:=L.take
 obtain⟨fN,fdN,hN⟩:=L.names
 obtain⟨fD,fdD,hD⟩:=L.leads
 obtain⟨fR,fdR,hR⟩:=L.rows
 obtain⟨fW,fdW,hW⟩:=L.need
 obtain⟨fLT,fdLT,hLT⟩:=L.lt
 obtain⟨fSc,fdSc,hSc⟩:=L.sc
 have GO:qz P w K mg base jc 1 fO fdO ["_law_script","_law_k"] (U9 K):=yu hO.fn B
 have GL:qz P w K mg base jc 1 fL fdL ["_law_cell"] Xq:=Ud hL.fn B
 have GT:qz P w K mg base jc 1 fT fdT ["_law_source_here","_law_many"] j7:=jN hT.fn
 have GR:qz P w K mg base jc 3 fR fdR ["_law_source_here","_law_most"] U3:=ym hR.fn B G hT hN hD
 have GLT:qz P w K mg base jc 8 fLT fdLT ["_law_rows_here"] (uh K c):=uJ hLT.fn B G T N hcl hM hW X4 Z
 have GSc:qz P w K mg base jc 5 fSc fdSc QR (jX K c):=uH hSc.fn B G S hT
 refine F.okJ ZR (λvs H Q E z=>?_) (λcdv A outer s H vs Q E hr z=>?_)
 . obtain⟨a,ns,rfl,_⟩:=z
   rfl
 . obtain⟨a,ns,rfl,hq,hlen,k⟩:=z
   have r1:q5 1 _:=hr.mono (by decide)
   have r3:q5 3 _:=hr.mono (by decide)
   have r5:q5 5 _:=hr.mono (by decide)
   refine⟨_,qh (jQ PassesOwn.never rfl (jG (by rfl) B.rng (qb (ql (Yt rfl) (by rfl) B.max boot_max (qb qj (qb (ql (UJ rfl) (by rfl) B.min boot_min (qb (ql qy (by rfl) B.len boot_len (qb (jv 0) qf)) (qb qj qf))) qf))) qf))
       (qr (i:=1) ZR.nd rfl (Or.inl rfl))
       (qh (qB (i:=2) ZR.nd rfl (Or.inl rfl) (qS hL GL r1 (by rfl) (qb (qS hO GO r1 (by rfl) (qb (jv 0) (qb (jv 1) qf))) qf)))
       (qh (qB (i:=3) ZR.nd rfl (Or.inl rfl) (qS hR GR r3 (by rfl) (qb (jv 2) (qb (qP qO (qA (qb qj (qb qj (qb qj qf)))) (qS hT GT r1 (by rfl) (qb (jv 2) (qb qj qf))) (λ_ _=>rfl)) qf))))
       (qh (qR (qu zE (ql (jC hr.gd hr.units) (by rfl) rep boot_repr (qb (qS hLT GLT hr (by rfl) (qb (jv 3) qf)) qf)) (ql (jC hr.gd hr.units) (by rfl) rep boot_repr (qb (qA (qb qE (qb (ql qy (by rfl) B.len boot_len (qb (jv 3) qf)) qf))) qf)) (qC _)) jh qD)
       (qh (jy (qS hSc GSc r5 (by rfl) (qb (jv 3) (qb (jv 2) qf))) (Q8 rfl (qF (qr (i:=4) ZR.nd rfl (Or.inl rfl)) (qF (qr (i:=5) ZR.nd rfl (Or.inl rfl)) js))))
       (qh (qB (i:=6) ZR.nd rfl (Or.inl rfl) (ql (jC hr.gd hr.units) (by rfl) rep boot_repr (qb (jv 4) qf)))
       (qk (qR (JW.pt (Jr (qu zE (ql (jC hr.gd hr.units) (by rfl) rep boot_repr (qb (qS hLT GLT hr (by rfl) (qb (jv 4) qf)) qf)) (ql (jC hr.gd hr.units) (by rfl) rep boot_repr (qb (jv 5) qf)) (qC _)) (Qs (qu zE (ql (jC hr.gd hr.units) (by rfl) rep boot_repr (qb (jv 4) qf)) (jv 6) (qC _))))) jh qD))))))))
     (qh (jQ PassesOwn.never rfl (jf (qA (qb zM (qb qj (qb je (qb qE (qb Qw (qb (qM qf) (qb (qM (qb (qM (qb qE (qb (qM qf) qf))) qf)) (qb (qA qf) qf))))))))))
       (qr (i:=7) ZR.nd rfl (Or.inl rfl))
       (qk (qR (qu zE (ql (jC hr.gd hr.units) (by rfl) rep boot_repr (qb (qS hLT GLT hr (by rfl) (qb (jv 7) qf)) qf)) (ql (jC hr.gd hr.units) (by rfl) rep boot_repr (qb (qA (qb qE (qb qj (qb je qf)))) qf)) (qC _)) jh qD)))
     (qk (qL je))),?_⟩
   refine⟨_,rfl,a,_,rfl,.inl hq,_,_,rfl,_,_,rfl,?_⟩
   generalize hj:(if (if (30:Int) < ((ns.map V.int).length:Int) then (30:Int) else ((ns.map V.int).length:Int)) > 4 then (if (30:Int) < ((ns.map V.int).length:Int) then (30:Int) else ((ns.map V.int).length:Int)) else 4)=jj
   have jb:=Ka (by omega) hj
   refine⟨jj,rfl,jb.1,jb.2,?_⟩
   refine JM (λi σ H'=>∃v1 v2 v3 v4 v5 v6,σ=[some (.ref a),v1,v2,v3,v4,v5,v6,none]/\SqL K H' a (ns.map V.int)) ⟨_,_,_,_,_,_,rfl,hq⟩ ?_ ?_
   . rintro i σ H' hi ⟨v1,v2,v3,v4,v5,v6,rfl,hq2⟩
     refine⟨_,rfl,_,rfl,a,ns,_,rfl,hq2,by omega,λc0=>⟨c0,rfl,λd n sd hd=>?_⟩⟩
     have hq3:=hq2.keep (qg (o:=.dK (qN n sd 0)) hd).keep
     have hd3:upd H' d (.dK (qN n sd 0)) d=some (.dK (qN n sd 0)):=qd
     generalize upd H' d (.dK (qN n sd 0))=H3 at hq3 hd3
     refine⟨_,rfl,by show 3<=sizeLine;decide,λlp hlp=>?_⟩
     have s4:=qg (o:=HO.lst [V.int 5,.int 9,.int 14]) hlp
     have h4:upd H3 lp (.lst [V.int 5,.int 9,.int 14]) lp=some (.lst [V.int 5,.int 9,.int 14]):=qd
     generalize upd H3 lp (.lst [V.int 5,.int 9,.int 14])=H4 at s4 h4
     have hd4:=s4 _ _ hd3
     refine⟨_,rfl,d,3,n,sd,0,rfl,hd4,by decide,by decide,λr' n3 t3 r0' r1'=>?_⟩
     obtain⟨mo,em,m0,m14⟩:=uW r0' r1'
     have hd5:upd H4 d (.dK (qN n3 sd t3)) d=some (.dK (qN n3 sd t3)):=qd
     have fr5:Fr H4 d (upd H4 d (.dK (qN n3 sd t3))):=Fr.refl.at_d
     generalize upd H4 d (.dK (qN n3 sd t3))=H5 at hd5 fr5
     have hq5:=WJ (hq3.keep s4.keep) hd4 fr5
     refine⟨lp,_,r',_,rfl,rfl,.of (jI fr5 hd4 h4 (λ_ z=>nomatch z)),em,d,mo,n3,sd,t3,rfl,hd5,m0,m14,λl ps rs n' t' H7 hl hl7 rat good pos le nf hd7 fr7=>?_⟩
     have hq7:=WJ hq5 hd5 fr7
     have g7:qX H7 l ps rs:=⟨hl7,rat,good,pos,Nat.le_trans le m14⟩
     have ll:(ps.map V.ref).length=rs.length:=by rw[List.length_map,rat.1]
     refine⟨_,rfl,.ref l,rfl,.inl ⟨l,ps,rs,rfl,g7,λH8 L1 k8 hL1=>?_⟩⟩
     refine Jn hL1 (zm rs.length) (Z6 (Nat.le_trans le m14)) (by show 2<=20;decide) ?_
     have keepD:∀{X Y:Hp} {b:Addr} {o:HO},QC X Y->X b=some o->(∀φ,o≠.ext φ)->Y b=some o:=λkk h nx=>kk _ _ h nx
     have g8:qX H8 l ps rs:=⟨k8 _ _ g7.at_ (λ_ z=>nomatch z),⟨rat.1,λi p r e1 e2=>let ⟨u,x,y⟩:=rat.2 i p r e1 e2;⟨u,k8 _ _ x (λ_ z=>nomatch z),k8 _ _ y (λ_ z=>nomatch z)⟩⟩,g7.good,g7.pos,g7.le⟩
     have hd8:=k8 _ _ hd7 (λ_ z=>nomatch z)
     have hq8:=hq7.keep k8
     refine⟨_,rfl,l,_,rfl,.inl (.of g8.at_),by show 2<=sizeLine;decide,λL2 hL2=>?_⟩
     rw[ll]
     have s9:=qg (o:=HO.lst [V.str (Str.ofString "good"),.int (rs.length:Nat)]) hL2
     have h9:upd H8 L2 (.lst [V.str (Str.ofString "good"),.int (rs.length:Nat)]) L2=some (.lst [V.str (Str.ofString "good"),.int (rs.length:Nat)]):=qd
     generalize upd H8 L2 (.lst [V.str (Str.ofString "good"),.int (rs.length:Nat)])=H9 at s9 h9
     refine Jn h9 (zm rs.length) (Z6 (Nat.le_trans le m14)) (by show 2<=20;decide) ?_
     refine⟨rfl,_,rfl,jw (by rw[decide_eq_true rfl];rfl) ?_⟩
     refine⟨_,rfl,_,rfl,l,d,ps,rs,n',sd,t',rfl,g8.mono s9,nf,s9 _ _ hd8,λR fo du n10 t10 H10 fr10 hd10 hR repF due=>?_⟩
     have hq10:=WJ (hq8.keep s9.keep) (s9 _ _ hd8) fr10
     refine⟨R,_,rfl,.of hR,rfl,_,_,rfl,_,_,rfl,rfl,?_⟩
     obtain⟨tx,hrep⟩:=repF
     refine⟨_,rfl,hrep H10 _ (λ_ _ h _=>h) ?_⟩
     have tail:∀(X:Hp),QC H10 X->∀(W:VK),W (.str tx) X->YK K [.ref fo] X W:=λX kX W q=>hrep X W kX q
     refine⟨_,rfl,.ref fo,rfl,?_⟩
     rcases due with ⟨ps2,rs2,g2,hdu⟩ | ⟨r,ver,hdu,ba,bb⟩
     . refine .inl ⟨fo,ps2,rs2,rfl,g2,λH11 L3 k11 hL3=>?_⟩
       refine Jn hL3 (zm rs2.length) (Z6 g2.le) (by show 2<=20;decide) ⟨_,rfl,Jn (k11 _ _ hdu (λ_ z=>nomatch z)) (zm rs2.length) (Z6 g2.le) (by show 2<=20;decide) ?_⟩
       refine⟨rfl,_,rfl,jw (by rw[decide_eq_true rfl];rfl) ⟨_,rfl,tail H11 k11 _ ⟨_,rfl,rfl,_,rfl,jw (by rw[decide_eq_true rfl];rfl) ?_⟩⟩⟩
       exact⟨_,_,_,_,_,_,rfl,hq10.keep k11⟩
     . refine .inr ⟨r,ver,λH11 L3 k11 hL3=>?_⟩
       refine Jn hL3 (YX r) (X9 ba bb) (by show 3<=20;decide) ⟨_,rfl,Jn (k11 _ _ hdu (λ_ z=>nomatch z)) (YX r) (X9 ba bb) (by show 3<=20;decide) ?_⟩
       refine⟨rfl,_,rfl,jw (by rw[decide_eq_true rfl];rfl) ⟨_,rfl,tail H11 k11 _ ⟨_,rfl,rfl,_,rfl,jw (by rw[decide_eq_true rfl];rfl) ?_⟩⟩⟩
       exact⟨_,_,_,_,_,_,rfl,hq10.keep k11⟩
   . rintro σ H' ⟨v1,v2,v3,v4,v5,v6,rfl,hq2⟩
     refine λdd hdd=>⟨by show 0<=sizeLine;decide,λe0 he0=>⟨by show 0<=sizeLine;decide,λe1 he1=>⟨by show 2<=sizeLine;decide,λt2 ht2=>⟨by show 1<=sizeLine;decide,λt1 ht1=>⟨by show 0<=sizeLine;decide,λl0 hl0=>⟨by show 8<=sizeLine;decide,λLL hLL=>?_⟩⟩⟩⟩⟩⟩
     have x1:=qg (o:=HO.dK []) hdd
     have y1:upd H' dd (.dK []) dd=some (.dK []):=qd
     generalize upd H' dd (.dK [])=J1 at x1 y1 he0 he1 ht2 ht1 hl0 hLL ⊢
     have x2:=qg (o:=HO.tup []) he0
     have y2:upd J1 e0 (.tup []) e0=some (.tup []):=qd
     generalize upd J1 e0 (.tup [])=J2 at x2 y2 he1 ht2 ht1 hl0 hLL ⊢
     have x3:=qg (o:=HO.tup []) he1
     have y3:upd J2 e1 (.tup []) e1=some (.tup []):=qd
     generalize upd J2 e1 (.tup [])=J3 at x3 y3 ht2 ht1 hl0 hLL ⊢
     have x4:=qg (o:=HO.tup [V.str (Str.ofString "a"),.ref e1]) ht2
     have y4:upd J3 t2 (.tup [V.str (Str.ofString "a"),.ref e1]) t2=some (.tup [V.str (Str.ofString "a"),.ref e1]):=qd
     generalize upd J3 t2 (.tup [V.str (Str.ofString "a"),.ref e1])=J4 at x4 y4 ht1 hl0 hLL ⊢
     have x5:=qg (o:=HO.tup [V.ref t2]) ht1
     have y5:upd J4 t1 (.tup [V.ref t2]) t1=some (.tup [V.ref t2]):=qd
     generalize upd J4 t1 (.tup [V.ref t2])=J5 at x5 y5 hl0 hLL ⊢
     have x6:=qg (o:=HO.lst []) hl0
     have y6:upd J5 l0 (.lst []) l0=some (.lst []):=qd
     generalize upd J5 l0 (.lst [])=J6 at x6 y6 hLL ⊢
     have x7:=qg (o:=HO.lst [V.non,.int 5,.bl true,.str (Str.ofString "a:"),.ref dd,.ref e0,.ref t1,.ref l0]) hLL
     have y7:upd J6 LL (.lst [V.non,.int 5,.bl true,.str (Str.ofString "a:"),.ref dd,.ref e0,.ref t1,.ref l0]) LL=some (.lst [V.non,.int 5,.bl true,.str (Str.ofString "a:"),.ref dd,.ref e0,.ref t1,.ref l0]):=qd
     generalize upd J6 LL (.lst [V.non,.int 5,.bl true,.str (Str.ofString "a:"),.ref dd,.ref e0,.ref t1,.ref l0])=J7 at x7 y7 ⊢
     have x67:=x6.trans x7
     have x57:=x5.trans x67
     have x47:=x4.trans x57
     have x37:=x3.trans x47
     have x27:=x2.trans x37
     have things:∀x∈[V.non,.int 5,.bl true,.str (Str.ofString "a:"),.ref dd,.ref e0,.ref t1,.ref l0],∀X,QC J7 X->yP K c X x (.ground 0):=by
       intro x hx X kX
       have kk:∀{H2:Hp} {b:Addr} {o:HO},Same X H2->J7 b=some o->(∀φ,o≠.ext φ)->H2 b=some o:=λs h nx=>s _ _ (kX _ _ h nx)
       simp only[List.mem_cons,List.mem_nil_iff,or_false]at hx
       rcases hx with rfl | rfl | rfl | rfl | rfl | rfl | rfl | rfl
       . exact λH2 E s o=>.inl (.inl ⟨_,.non,rfl,o⟩)
       . exact λH2 E s o=>.inl (.inl ⟨_,.int 5,rfl,o⟩)
       . exact λH2 E s o=>.inl (.inl ⟨_,.bl true,rfl,o⟩)
       . exact λH2 E s o=>.inl (.inl ⟨_,.str _ (by decide+kernel),rfl,o⟩)
       . exact λH2 E s o=>.inl (.inl ⟨_,.dct (kk s (x27 _ _ y1) (λ_ z=>nomatch z)),rfl,o⟩)
       . exact λH2 E s o=>.inl (.inl ⟨_,.tup (kk s (x37 _ _ y2) (λ_ z=>nomatch z)) (by decide) .nil,rfl,o⟩)
       . exact λH2 E s o=>.inl (.inl ⟨_,.tup (kk s (x67 _ _ y5) (λ_ z=>nomatch z)) (by show 1<=100;decide) (.cons (.tup (kk s (x57 _ _ y4) (λ_ z=>nomatch z)) (by show 2<=100;decide) (.cons (.str _ (by decide+kernel)) (.cons (.tup (kk s (x47 _ _ y3) (λ_ z=>nomatch z)) (by decide) .nil) .nil))) .nil),rfl,o⟩)
       . exact λH2 E s o=>.inl (.inr (.inl ⟨l0,rfl,kk s (x7 _ _ y6) (λ_ z=>nomatch z),o⟩))
     refine⟨LL,rfl,⟨_,.of y7⟩,?_⟩
     refine j3 (K:=K) (a:=LL) (xs:=[V.non,.int 5,.bl true,.str (Str.ofString "a:"),.ref dd,.ref e0,.ref t1,.ref l0]) (λi σ' X=>∃v7,σ'=[some (.ref a),v1,v2,v3,v4,v5,v6,v7]/\QC J7 X) ⟨_,rfl,λ_ _ h _=>h⟩ (λi σ' X _ ⟨_,_,kX⟩=>.of (kX _ _ y7 (λ_ z=>nomatch z))) ?_ ?_
     . rintro i x σ' X hx ⟨v7,rfl,kX⟩
       have sz0:∀d∈[PyData.str (JQ.ground 0).tag,(JQ.ground 0).dat,.bool true],Sz 5000 d:=X9 (λz e=>nomatch e) (λn e=>by have:=V.int.inj e;omega)
       refine⟨_,rfl,x,rfl,.inr ⟨.ground 0,things x (List.mem_of_getElem? hx) X kX,λH11 L3 k11 hL3=>?_⟩⟩
       refine Jn hL3 (YX (.ground 0)) sz0 (by show 3<=20;decide) ⟨by show 3<=sizeLine;decide,λL4 hL4=>?_⟩
       refine Jn (xs:=[V.str (JQ.ground 0).tag,(JQ.ground 0).val,.bl true]) qd (YX (.ground 0)) sz0 (by show 3<=20;decide) ⟨rfl,_,rfl,jw (by rw[decide_eq_true rfl];rfl) ?_⟩
       exact⟨_,rfl,(kX.trans k11).trans (qg hL4).keep⟩
     . rintro σ' X ⟨v7,rfl,kX⟩
       exact k X
end
end Rh
set_option Elab.async false
set_option linter.all false
set_option maxRecDepth 100000
set_option maxHeartbeats 4000000
namespace Rh
open PySem L2 PyProof.Rows 
theorem kss {K:PySem.W.Frag}:PySem.W.kitOne K (.type "str") (.type "str")=some true:=by kernel_rfl
theorem ktt {K:PySem.W.Frag}:PySem.W.kitOne K (.type "tuple") (.type "tuple")=some true:=by kernel_rfl
theorem kll {K:PySem.W.Frag}:PySem.W.kitOne K (.type "list") (.type "list")=some true:=by kernel_rfl
section
variable {K:PySem.W.Frag}
/-- a def as the head tells it -/
def MF (K:PySem.W.Frag) (n q:Str) (s:Stmt) (f:Addr):Prop:=∃fd,Ql K n q s f fd
theorem MF.mk' {x qual:Str} {st:Stmt} {f:Addr} {oc:Value} {od an:Option Addr} {osl:Array (Option Value)} {kV doc pm cdv ct:Value} (l:K.lookup f=some ⟨oc,od,.func (PySem.W.fnOf x qual (QF st) (j4 st) (qv st) .none kV doc pm an cdv ct),osl⟩) (c:PySem.W.codeIn K cdv qual=true) (k:PySem.W.keepIn K (.ref f)=true):MF K x qual st f:=⟨_,Wz l c k⟩
def HF (K:PySem.W.Frag) (n:Str) (s:Stmt) (f:Addr):Prop:=PySem.W.nsIn K mainGlobals n=some (some (.ref f))/\MF K n n s f
theorem HF.mk' {x:Str} {st:Stmt} {f:Addr} {oc:Value} {od an:Option Addr} {osl:Array (Option Value)} {kV doc pm cdv ct:Value} (a:PySem.W.nsIn K mainGlobals x=some (some (.ref f))) (l:K.lookup f=some ⟨oc,od,.func (PySem.W.fnOf x x (QF st) (j4 st) (qv st) .none kV doc pm an cdv ct),osl⟩) (c:PySem.W.codeIn K cdv x=true) (k:PySem.W.keepIn K (.ref f)=true):HF K x st f:=⟨a,_,Wz l c k⟩
theorem HF.has {h:Heap} {mg:Str->Option Value} {n:Str} {s:Stmt} {f:Addr} {ps:List Str} (l:HF K n s f) (X:K.In h) (G:h.Ns mainGlobals mg) (b:∀{fd},Ql K n n s f fd->Qi K fd ps []):∃fd,jR K mg n s ps f fd:=let ⟨a,fd,F⟩:=l;⟨fd,F,PySem.W.mg_of X G a,b F⟩
end
def ue (es:Array DictEntry):Bool:=es.all λe=>match e.key with | .str _ _=>true | _=>false
theorem k6 {es:Array DictEntry} (h:ue es=true):StrKeys es:=by
 intro e he
 have q:=Array.all_eq_true'.mp h e he
 revert q
 cases hk:e.key<;>intro q<;>first | exact⟨_,_,rfl⟩ | (dsimp only at q;cases q)
section
variable {K:PySem.W.Frag} {mg:Str->Option Value} {D C f:Addr} {x qual fld:Str} {st:Stmt}
theorem YW {h:Heap} {fd:FuncData} {nm q:Str} {N:Addr} {bs:List Value} {hdct:Bool} {sn:List Str} {sub:List Value} {ab:Bool} {col:Option Bool} {dd:Option Addr} {k0 k1 k2 k3 k5:Option Value}
   (X:K.In h) (G:h.Ns mainGlobals mg) (tl:∀h:Heap,K.In h->OwnTail h qT (.ref D::qT)) (F:Ql K "__init__" qual st f fd) (b:Qi K fd ["self",fld] [])
   (a1:PySem.W.nsIn K mainGlobals x=some (some (.ref C)))
   (a2:K.lookup C=some (excClassObj nm q C N bs (.ref D::qT) hdct sn sub ab col dd k0 k1 k2 k3 k5 "ValueError.__new__"))
   (a3:PySem.W.findIn K (.ref C) "__init__"=some (some (.ref f))) (a4:PySem.W.isFn K (.ref f)=true) (a5:PySem.W.keepIn K (.ref C)=true)
   (a6:PySem.W.findIn K (.ref C) "__getattribute__"=some (some (.builtin "BaseException.__getattribute__"))) (a7:PySem.W.findIn K (.ref C) "__getattr__"=some none)
   (a8:PySem.W.findIn K (.ref C) "__setattr__"=some (some (.builtin "object.__setattr__"))) (a9:PySem.W.hasDictIn K C=true)
   (a10:PySem.W.mroIn K C (.type "BaseException")=some true) (a11:PySem.W.mroIn K C (.type "object")=some true)
   (a12:PySem.W.findIn K (.ref C) "__class__"=some (some (.builtin "object.__class__"))) (a13:PySem.W.findIn K (.ref C) fld=some none):X0 K mg D x qual st fld C f fd:=
 ⟨⟨a6,a7,a8,a9,⟨_,by unfold PySem.W.clsIn;rw[a2],rfl⟩,a10,a11,a12⟩,⟨⟨nm,q,N,bs,hdct,sn,sub,ab,col,dd,k0,k1,k2,k3,k5,a2⟩,tl,a3,a4,a5⟩,PySem.W.mg_of X G a1,a13,F,b⟩
end
theorem all_mk {l:PySem.W.OpenLaw} {w:World} {K:PySem.W.Frag} {h:Heap} {mg:Str->Option Value} {fa:Addr} (X:K.In h) (G:h.Ns mainGlobals mg) (hfa:mg "law"=some (.ref fa))
   {fO fL fT fN fD fR fA1 fA2 fA3 fA4 fA5 fA6 fA7 fA8 fE1 fE2 fE3 fE4 fE5 fE6 fE7 fE8 fE9 fE10 fCGi fCGM CNoGround fNoGround CNoPlace fNoPlace CTwice fTwice CTooMany fTooMany:Addr}
   {fLAW:Addr} {odLAW anLAW:Option Addr} {slLAW:Array (Option Value)} {ocLAW kVLAW dcLAW pmLAW cdLAW ctLAW:Value}
   {CG:Addr}
   {tm1:Tok}
   {tm2:Tok}
   {tm3:Tok}
   {tm4:Tok}
   {D:Addr} {nmHE qHE:Str} {NHE:Addr} {bsHE subHE:List Value} {hdctHE abHE:Bool} {snHE:List Str} {colHE:Option Bool} {ddHE:Option Addr} {kaHE kbHE kcHE kdHE keHE:Option Value} {oHN:Value} {dHN:Option Addr} {es:Array DictEntry} {ep:Nat} {slHN:Array (Option Value)}
   {nmNoGround qNoGround:Str} {NNoGround:Addr} {bsNoGround subNoGround:List Value} {hdctNoGround abNoGround:Bool} {snNoGround:List Str} {colNoGround:Option Bool} {ddNoGround:Option Addr} {kaNoGround kbNoGround kcNoGround kdNoGround keNoGround:Option Value}
   {nmNoPlace qNoPlace:Str} {NNoPlace:Addr} {bsNoPlace subNoPlace:List Value} {hdctNoPlace abNoPlace:Bool} {snNoPlace:List Str} {colNoPlace:Option Bool} {ddNoPlace:Option Addr} {kaNoPlace kbNoPlace kcNoPlace kdNoPlace keNoPlace:Option Value}
   {nmTwice qTwice:Str} {NTwice:Addr} {bsTwice subTwice:List Value} {hdctTwice abTwice:Bool} {snTwice:List Str} {colTwice:Option Bool} {ddTwice:Option Addr} {kaTwice kbTwice kcTwice kdTwice keTwice:Option Value}
   {nmTooMany qTooMany:Str} {NTooMany:Addr} {bsTooMany subTooMany:List Value} {hdctTooMany abTooMany:Bool} {snTooMany:List Str} {colTooMany:Option Bool} {ddTooMany:Option Addr} {kaTooMany kbTooMany kcTooMany kdTooMany keTooMany:Option Value}
   (lO:HF K "_law_cell_at" W6 fO)
   (lL:HF K "_law_source" Z8 fL)
   (lT:HF K "_law_take" Qr fT)
   (lN:HF K "_law_names" zx fN)
   (lD:HF K "_law_leads" zy fD)
   (lR:HF K "_law_rows" W4 fR)
   (lA1:HF K "is_name" Jl fA1)
   (lA2:HF K "is_tuple_of_names" Zk fA2)
   (lA3:HF K "is_row" Za fA3)
   (lA4:HF K "need_form" Xs fA4)
   (lA5:HF K "need_own_names" vh fA5)
   (lA6:HF K "need_ends" Xt fA6)
   (lA7:HF K "need_few_roads" vi fA7)
   (lA8:HF K "need_rows" ZS fA8)
   (lE1:HF K "_law_told" Kz fE1)
   (lE2:HF K "_law_bad_row" uo fE2)
   (lE3:HF K "_law_places" yb fE3)
   (lE4:HF K "_law_wrong_road" uk fE4)
   (lE5:HF K "_law_road_twice" um fE5)
   (lE6:HF K "_law_two_roads" Kw fE6)
   (lE7:HF K "_law_place_twice" Ky fE7)
   (lE8:HF K "_law_two" Kv fE8)
   (lE9:HF K "_law_full" KA fE9)
   (lE10:HF K "_law_scene" Kx fE10)
   (aLAW:PySem.W.nsIn K mainGlobals "law"=some (some (.ref fLAW)))
   (lLAW:K.lookup fLAW=some ⟨ocLAW,odLAW,.func (PySem.W.fnOf "law" "law" (QF YJ) (j4 YJ) (qv YJ) .none kVLAW dcLAW pmLAW anLAW cdLAW ctLAW),slLAW⟩)
   (cLAW:PySem.W.codeIn K cdLAW "law"=true)
   (kLAW:PySem.W.keepIn K (.ref fLAW)=true)
   (nCG:PySem.W.nsIn K mainGlobals "Ground"=some (some (.ref CG)))
   (pgCG:PySem.W.plainGet K CG Str.empty=true)
   (hdCG:PySem.W.hasDictIn K CG=true)
   (poCG:PySem.W.plainOver K CG=true)
   (saCG:PySem.W.findIn K (.ref CG) "__setattr__"=some (some (.builtin "object.__setattr__")))
   (mkCG:PySem.W.makesIn K CG=true)
   (inCG:PySem.W.findIn K (.ref CG) "__init__"=some (some (.ref fCGi)))
   (fiCG:PySem.W.isFn K (.ref fCGi)=true)
   (kcCG:PySem.W.keepIn K (.ref CG)=true)
   (noCG:PySem.W.findIn K (.ref CG) "order"=some none)
   (nrCG:PySem.W.findIn K (.ref CG) "roads"=some none)
   (lCGi:MF K "__init__" "Ground.__init__" Wg fCGi)
   (atCGM:PySem.W.findIn K (.ref CG) "names"=some (some (.ref fCGM)))
   (fnCGM:PySem.W.isFn K (.ref fCGM)=true)
   (lCGM:MF K "names" "Ground.names" Jz fCGM)
   (zlen:PySem.W.nsIn K mainGlobals "len"=some none)
   (zmax:PySem.W.nsIn K mainGlobals "max"=some none)
   (zmin:PySem.W.nsIn K mainGlobals "min"=some none)
   (zint:PySem.W.nsIn K mainGlobals "int"=some none)
   (zrange:PySem.W.nsIn K mainGlobals "range"=some none)
   (zisinstance:PySem.W.nsIn K mainGlobals "isinstance"=some none)
   (zstr:PySem.W.nsIn K mainGlobals "str"=some none)
   (zall:PySem.W.nsIn K mainGlobals "all"=some none)
   (zenumerate:PySem.W.nsIn K mainGlobals "enumerate"=some none)
   (zsum:PySem.W.nsIn K mainGlobals "sum"=some none)
   (zsorted:PySem.W.nsIn K mainGlobals "sorted"=some none)
   (zlist:PySem.W.nsIn K mainGlobals "list"=some none)
   (zreversed:PySem.W.nsIn K mainGlobals "reversed"=some none)
   (zset:PySem.W.nsIn K mainGlobals "set"=some none)
   (ztuple:PySem.W.nsIn K mainGlobals "tuple"=some none)
   (zrepr:PySem.W.nsIn K mainGlobals "repr"=some none)
   (zValueError:PySem.W.nsIn K mainGlobals "ValueError"=some none)
   (m1:PySem.W.nsIn K mainGlobals "LETTERS"=some (some (.str "abcdefghijklmnopqrstuvwxyz" tm1)))
   (m2:PySem.W.nsIn K mainGlobals "LONGEST_NAME"=some (some (.int 8 tm2)))
   (m3:PySem.W.nsIn K mainGlobals "MOST_PLACES"=some (some (.int 14 tm3)))
   (m4:PySem.W.nsIn K mainGlobals "MOST_ROADS"=some (some (.int 40 tm4)))
   (aHE:PySem.W.nsIn K mainGlobals "HeapError"=some (some (.ref D)))
   (oHE:K.lookup D=some (excClassObj nmHE qHE D NHE bsHE qT hdctHE snHE subHE abHE colHE ddHE kaHE kbHE kcHE kdHE keHE "ValueError.__new__"))
   (nHE:K.lookup NHE=some ⟨oHN,dHN,.dict es ep,slHN⟩)
   (skHE:ue es=true)
   (niHE:nsFind es (Str.ofString "__init__")=none)
   (a1NoGround:PySem.W.nsIn K mainGlobals "NoGround"=some (some (.ref CNoGround)))
   (a2NoGround:K.lookup CNoGround=some (excClassObj nmNoGround qNoGround CNoGround NNoGround bsNoGround (.ref D::qT) hdctNoGround snNoGround subNoGround abNoGround colNoGround ddNoGround kaNoGround kbNoGround kcNoGround kdNoGround keNoGround "ValueError.__new__"))
   (a3NoGround:PySem.W.findIn K (.ref CNoGround) "__init__"=some (some (.ref fNoGround)))
   (a4NoGround:PySem.W.isFn K (.ref fNoGround)=true)
   (lNoGround:MF K "__init__" "NoGround.__init__" QP fNoGround)
   (a5NoGround:PySem.W.keepIn K (.ref CNoGround)=true)
   (a6NoGround:PySem.W.findIn K (.ref CNoGround) "__getattribute__"=some (some (.builtin "BaseException.__getattribute__")))
   (a7NoGround:PySem.W.findIn K (.ref CNoGround) "__getattr__"=some none)
   (a8NoGround:PySem.W.findIn K (.ref CNoGround) "__setattr__"=some (some (.builtin "object.__setattr__")))
   (a9NoGround:PySem.W.hasDictIn K CNoGround=true)
   (a10NoGround:PySem.W.mroIn K CNoGround (.type "BaseException")=some true)
   (a11NoGround:PySem.W.mroIn K CNoGround (.type "object")=some true)
   (a12NoGround:PySem.W.findIn K (.ref CNoGround) "__class__"=some (some (.builtin "object.__class__")))
   (a13NoGround:PySem.W.findIn K (.ref CNoGround) "row"=some none)
   (a1NoPlace:PySem.W.nsIn K mainGlobals "NoPlace"=some (some (.ref CNoPlace)))
   (a2NoPlace:K.lookup CNoPlace=some (excClassObj nmNoPlace qNoPlace CNoPlace NNoPlace bsNoPlace (.ref D::qT) hdctNoPlace snNoPlace subNoPlace abNoPlace colNoPlace ddNoPlace kaNoPlace kbNoPlace kcNoPlace kdNoPlace keNoPlace "ValueError.__new__"))
   (a3NoPlace:PySem.W.findIn K (.ref CNoPlace) "__init__"=some (some (.ref fNoPlace)))
   (a4NoPlace:PySem.W.isFn K (.ref fNoPlace)=true)
   (lNoPlace:MF K "__init__" "NoPlace.__init__" Jk fNoPlace)
   (a5NoPlace:PySem.W.keepIn K (.ref CNoPlace)=true)
   (a6NoPlace:PySem.W.findIn K (.ref CNoPlace) "__getattribute__"=some (some (.builtin "BaseException.__getattribute__")))
   (a7NoPlace:PySem.W.findIn K (.ref CNoPlace) "__getattr__"=some none)
   (a8NoPlace:PySem.W.findIn K (.ref CNoPlace) "__setattr__"=some (some (.builtin "object.__setattr__")))
   (a9NoPlace:PySem.W.hasDictIn K CNoPlace=true)
   (a10NoPlace:PySem.W.mroIn K CNoPlace (.type "BaseException")=some true)
   (a11NoPlace:PySem.W.mroIn K CNoPlace (.type "object")=some true)
   (a12NoPlace:PySem.W.findIn K (.ref CNoPlace) "__class__"=some (some (.builtin "object.__class__")))
   (a13NoPlace:PySem.W.findIn K (.ref CNoPlace) "found"=some none)
   (a1Twice:PySem.W.nsIn K mainGlobals "Twice"=some (some (.ref CTwice)))
   (a2Twice:K.lookup CTwice=some (excClassObj nmTwice qTwice CTwice NTwice bsTwice (.ref D::qT) hdctTwice snTwice subTwice abTwice colTwice ddTwice kaTwice kbTwice kcTwice kdTwice keTwice "ValueError.__new__"))
   (a3Twice:PySem.W.findIn K (.ref CTwice) "__init__"=some (some (.ref fTwice)))
   (a4Twice:PySem.W.isFn K (.ref fTwice)=true)
   (lTwice:MF K "__init__" "Twice.__init__" zv fTwice)
   (a5Twice:PySem.W.keepIn K (.ref CTwice)=true)
   (a6Twice:PySem.W.findIn K (.ref CTwice) "__getattribute__"=some (some (.builtin "BaseException.__getattribute__")))
   (a7Twice:PySem.W.findIn K (.ref CTwice) "__getattr__"=some none)
   (a8Twice:PySem.W.findIn K (.ref CTwice) "__setattr__"=some (some (.builtin "object.__setattr__")))
   (a9Twice:PySem.W.hasDictIn K CTwice=true)
   (a10Twice:PySem.W.mroIn K CTwice (.type "BaseException")=some true)
   (a11Twice:PySem.W.mroIn K CTwice (.type "object")=some true)
   (a12Twice:PySem.W.findIn K (.ref CTwice) "__class__"=some (some (.builtin "object.__class__")))
   (a13Twice:PySem.W.findIn K (.ref CTwice) "found"=some none)
   (a1TooMany:PySem.W.nsIn K mainGlobals "TooMany"=some (some (.ref CTooMany)))
   (a2TooMany:K.lookup CTooMany=some (excClassObj nmTooMany qTooMany CTooMany NTooMany bsTooMany (.ref D::qT) hdctTooMany snTooMany subTooMany abTooMany colTooMany ddTooMany kaTooMany kbTooMany kcTooMany kdTooMany keTooMany "ValueError.__new__"))
   (a3TooMany:PySem.W.findIn K (.ref CTooMany) "__init__"=some (some (.ref fTooMany)))
   (a4TooMany:PySem.W.isFn K (.ref fTooMany)=true)
   (lTooMany:MF K "__init__" "TooMany.__init__" Jj fTooMany)
   (a5TooMany:PySem.W.keepIn K (.ref CTooMany)=true)
   (a6TooMany:PySem.W.findIn K (.ref CTooMany) "__getattribute__"=some (some (.builtin "BaseException.__getattribute__")))
   (a7TooMany:PySem.W.findIn K (.ref CTooMany) "__getattr__"=some none)
   (a8TooMany:PySem.W.findIn K (.ref CTooMany) "__setattr__"=some (some (.builtin "object.__setattr__")))
   (a9TooMany:PySem.W.hasDictIn K CTooMany=true)
   (a10TooMany:PySem.W.mroIn K CTooMany (.type "BaseException")=some true)
   (a11TooMany:PySem.W.mroIn K CTooMany (.type "object")=some true)
   (a12TooMany:PySem.W.findIn K (.ref CTooMany) "__class__"=some (some (.builtin "object.__class__")))
   (a13TooMany:PySem.W.findIn K (.ref CTooMany) "found"=some none)
   (spc:PySem.W.specialIn K (.builtin "object.__class__") "__get__"=some (some (.builtin "getset_descriptor.__get__")))
   (tks:PySem.W.takesIn K (.builtin "object.__class__")=some true)
   (w1:PySem.W.kitOne K (.ref CNoGround) (.ref D)=some true)
   (w2:PySem.W.kitOne K (.ref CTooMany) (.ref D)=some true)
   (w3:PySem.W.kitOne K (.ref CTwice) (.ref D)=some true)
   (w4:PySem.W.kitOne K (.ref CNoPlace) (.ref D)=some true)
   (w5:PySem.W.kitAny K (.ref CNoGround) [.ref CNoPlace,.ref CTooMany,.ref CTwice]=some false)
   (w6:PySem.W.kitAny K (.ref CTooMany) [.ref CNoPlace,.ref CTwice]=some false)
   (w7:PySem.W.kitOne K (.ref CTwice) (.ref CNoPlace)=some false)
   (w8:PySem.W.kitOne K (.ref CNoPlace) (.type "ValueError")=some true)
   (n0:CTooMany≠CNoGround)
   (n1:CTwice≠CNoGround)
   (n2:CTwice≠CTooMany)
   (n3:CNoPlace≠CNoGround)
   (n4:CNoPlace≠CTooMany)
   (n5:CNoPlace≠CTwice)
   (n6:D≠CNoGround)
   (n7:D≠CTooMany)
   (n8:D≠CTwice)
   :
   ∃fd:FuncData,(∀(s:Shared) (v:Value),BindsTo s fd ⟨[v],[]⟩ [("_law_script",v)])/\∀base:Heap,K.In base->base.Ns mainGlobals mg->qz l.prog w K mg base jc 9 fa fd ["_law_script"] (WZ K):=by
 have e:=hfa.symm.trans (PySem.W.mg_of X G aLAW)
 cases e
 obtain⟨_,hO⟩:=lO.has (ps:=["_law_script","_law_k"]) X G λF=>F.binds λ_ _ _ _ _ _ us hl=>by obtain⟨_,_,rfl⟩:=Q7 hl;rfl
 obtain⟨_,hL⟩:=lL.has (ps:=["_law_cell"]) X G λF=>F.binds λ_ _ _ _ _ _ us hl=>by obtain⟨_,rfl⟩:=Z4 hl;rfl
 obtain⟨_,hT⟩:=lT.has (ps:=["_law_source_here","_law_many"]) X G λF=>F.binds λ_ _ _ _ _ _ us hl=>by obtain⟨_,_,rfl⟩:=Q7 hl;rfl
 obtain⟨_,hN⟩:=lN.has (ps:=["_law_source_here","_law_many"]) X G λF=>F.binds λ_ _ _ _ _ _ us hl=>by obtain⟨_,_,rfl⟩:=Q7 hl;rfl
 obtain⟨_,hD⟩:=lD.has (ps:=["_law_source_here","_law_many","_law_shape","_law_low"]) X G λF=>F.binds λ_ _ _ _ _ _ us hl=>by obtain⟨_,_,_,_,rfl⟩:=Ge hl;rfl
 obtain⟨_,hR⟩:=lR.has (ps:=["_law_source_here","_law_most"]) X G λF=>F.binds λ_ _ _ _ _ _ us hl=>by obtain⟨_,_,rfl⟩:=Q7 hl;rfl
 obtain⟨_,hA1⟩:=lA1.has (ps:=["thing"]) X G λF=>F.binds λ_ _ _ _ _ _ us hl=>by obtain⟨_,rfl⟩:=Z4 hl;rfl
 obtain⟨_,hA2⟩:=lA2.has (ps:=["thing"]) X G λF=>F.binds λ_ _ _ _ _ _ us hl=>by obtain⟨_,rfl⟩:=Z4 hl;rfl
 obtain⟨_,hA3⟩:=lA3.has (ps:=["thing"]) X G λF=>F.binds λ_ _ _ _ _ _ us hl=>by obtain⟨_,rfl⟩:=Z4 hl;rfl
 obtain⟨_,hA4⟩:=lA4.has (ps:=["rows"]) X G λF=>F.binds λ_ _ _ _ _ _ us hl=>by obtain⟨_,rfl⟩:=Z4 hl;rfl
 obtain⟨_,hA5⟩:=lA5.has (ps:=["order"]) X G λF=>F.binds λ_ _ _ _ _ _ us hl=>by obtain⟨_,rfl⟩:=Z4 hl;rfl
 obtain⟨_,hA6⟩:=lA6.has (ps:=["ends","order"]) X G λF=>F.binds λ_ _ _ _ _ _ us hl=>by obtain⟨_,_,rfl⟩:=Q7 hl;rfl
 obtain⟨_,hA7⟩:=lA7.has (ps:=["rows"]) X G λF=>F.binds λ_ _ _ _ _ _ us hl=>by obtain⟨_,rfl⟩:=Z4 hl;rfl
 obtain⟨_,hA8⟩:=lA8.has (ps:=["rows"]) X G λF=>F.binds λ_ _ _ _ _ _ us hl=>by obtain⟨_,rfl⟩:=Z4 hl;rfl
 obtain⟨_,hE1⟩:=lE1.has (ps:=["_law_rows_here"]) X G λF=>F.binds λ_ _ _ _ _ _ us hl=>by obtain⟨_,rfl⟩:=Z4 hl;rfl
 obtain⟨_,hE2⟩:=lE2.has (ps:=["_law_row","_law_number"]) X G λF=>F.binds λ_ _ _ _ _ _ us hl=>by obtain⟨_,_,rfl⟩:=Q7 hl;rfl
 obtain⟨_,hE3⟩:=lE3.has (ps:=["_law_rows_here","_law_source_here"]) X G λF=>F.binds λ_ _ _ _ _ _ us hl=>by obtain⟨_,_,rfl⟩:=Q7 hl;rfl
 obtain⟨_,hE4⟩:=lE4.has (ps:=["_law_rows_here","_law_source_here"]) X G λF=>F.binds λ_ _ _ _ _ _ us hl=>by obtain⟨_,_,rfl⟩:=Q7 hl;rfl
 obtain⟨_,hE5⟩:=lE5.has (ps:=["_law_rows_here","_law_source_here"]) X G λF=>F.binds λ_ _ _ _ _ _ us hl=>by obtain⟨_,_,rfl⟩:=Q7 hl;rfl
 obtain⟨_,hE6⟩:=lE6.has (ps:=["_law_rows_here","_law_source_here"]) X G λF=>F.binds λ_ _ _ _ _ _ us hl=>by obtain⟨_,_,rfl⟩:=Q7 hl;rfl
 obtain⟨_,hE7⟩:=lE7.has (ps:=["_law_rows_here","_law_source_here"]) X G λF=>F.binds λ_ _ _ _ _ _ us hl=>by obtain⟨_,_,rfl⟩:=Q7 hl;rfl
 obtain⟨_,hE8⟩:=lE8.has (ps:=["_law_rows_here","_law_source_here"]) X G λF=>F.binds λ_ _ _ _ _ _ us hl=>by obtain⟨_,_,rfl⟩:=Q7 hl;rfl
 obtain⟨_,hE9⟩:=lE9.has (ps:=["_law_source_here"]) X G λF=>F.binds λ_ _ _ _ _ _ us hl=>by obtain⟨_,rfl⟩:=Z4 hl;rfl
 obtain⟨_,hE10⟩:=lE10.has (ps:=["_law_rows_here","_law_source_here"]) X G λF=>F.binds λ_ _ _ _ _ _ us hl=>by obtain⟨_,_,rfl⟩:=Q7 hl;rfl
 have FLAW:=Wz (st:=YJ) lLAW cLAW kLAW
 obtain⟨_,FiCG⟩:=lCGi
 have clCG:wU K mg CG fCGi _:=⟨⟨pgCG,hdCG,poCG,saCG⟩,⟨mkCG,inCG,fiCG,kcCG⟩,PySem.W.mg_of X G nCG,noCG,nrCG,FiCG,FiCG.binds (ps:=["self","rows"]) λ_ _ _ _ _ _ us hl=>by obtain⟨_,_,rfl⟩:=Q7 hl;rfl⟩
 obtain⟨_,FCGM⟩:=lCGM
 have mCGM:KF K CG "names" "Ground.names" Jz ["self"] fCGM _:=⟨FCGM,⟨atCGM,fnCGM,FCGM.kp⟩,FCGM.binds (ps:=["self"]) λ_ _ _ _ _ _ us hl=>by obtain⟨_,rfl⟩:=Z4 hl;rfl⟩
 have tl:∀h:Heap,K.In h->OwnTail h qT (.ref D::qT):=λh X=>.own (X _ _ oHE) ⟨_,es,ep,X _ _ nHE,rfl,k6 skHE,λ_=>rfl⟩ niHE .base
 have ccD:wN K D:=⟨qT,⟨_,_,_,_,_,_,_,_,_,_,_,_,_,_,_,oHE⟩,rfl⟩
 obtain⟨_,FNoGround⟩:=lNoGround
 have xNoGround:X0 K mg D "NoGround" "NoGround.__init__" QP "row" CNoGround fNoGround _:=YW X G tl FNoGround (FNoGround.binds (ps:=["self","row"]) λ_ _ _ _ _ _ us hl=>by obtain⟨_,_,rfl⟩:=Q7 hl;rfl) a1NoGround a2NoGround a3NoGround a4NoGround a5NoGround a6NoGround a7NoGround a8NoGround a9NoGround a10NoGround a11NoGround a12NoGround a13NoGround
 obtain⟨_,FNoPlace⟩:=lNoPlace
 have xNoPlace:X0 K mg D "NoPlace" "NoPlace.__init__" Jk "found" CNoPlace fNoPlace _:=YW X G tl FNoPlace (FNoPlace.binds (ps:=["self","found"]) λ_ _ _ _ _ _ us hl=>by obtain⟨_,_,rfl⟩:=Q7 hl;rfl) a1NoPlace a2NoPlace a3NoPlace a4NoPlace a5NoPlace a6NoPlace a7NoPlace a8NoPlace a9NoPlace a10NoPlace a11NoPlace a12NoPlace a13NoPlace
 obtain⟨_,FTwice⟩:=lTwice
 have xTwice:X0 K mg D "Twice" "Twice.__init__" zv "found" CTwice fTwice _:=YW X G tl FTwice (FTwice.binds (ps:=["self","found"]) λ_ _ _ _ _ _ us hl=>by obtain⟨_,_,rfl⟩:=Q7 hl;rfl) a1Twice a2Twice a3Twice a4Twice a5Twice a6Twice a7Twice a8Twice a9Twice a10Twice a11Twice a12Twice a13Twice
 obtain⟨_,FTooMany⟩:=lTooMany
 have xTooMany:X0 K mg D "TooMany" "TooMany.__init__" Jj "found" CTooMany fTooMany _:=YW X G tl FTooMany (FTooMany.binds (ps:=["self","found"]) λ_ _ _ _ _ _ us hl=>by obtain⟨_,_,rfl⟩:=Q7 hl;rfl) a1TooMany a2TooMany a3TooMany a4TooMany a5TooMany a6TooMany a7TooMany a8TooMany a9TooMany a10TooMany a11TooMany a12TooMany a13TooMany
 have B:Zg mg:=⟨PySem.W.mg_none_of X G zlen,PySem.W.mg_none_of X G zmax,PySem.W.mg_none_of X G zmin,PySem.W.mg_none_of X G zint,PySem.W.mg_none_of X G zrange⟩
 have Gk:QA mg:=⟨PySem.W.mg_none_of X G zsorted,PySem.W.mg_none_of X G zlist,PySem.W.mg_none_of X G zreversed,PySem.W.mg_none_of X G zset,PySem.W.mg_none_of X G ztuple⟩
 have T:Jx K mg:=⟨PySem.W.mg_none_of X G zisinstance,PySem.W.mg_none_of X G zstr,PySem.W.mg_none_of X G zall,PySem.W.mg_none_of X G zenumerate,PySem.W.mg_none_of X G zsum,⟨_,PySem.W.mg_of X G m1⟩,⟨_,PySem.W.mg_of X G m2⟩,⟨_,PySem.W.mg_of X G m3⟩,⟨_,PySem.W.mg_of X G m4⟩,kss,ktt,kll⟩
 have Nn:WM K mg:=⟨⟨_,_,hA1⟩,⟨_,_,hA2⟩,⟨_,_,hA3⟩,⟨_,_,hA4⟩,⟨_,_,hA5⟩,⟨_,_,hA6⟩,⟨_,_,hA7⟩⟩
 have X4:yT K mg D ⟨CNoGround,CTooMany,CTwice,CNoPlace⟩:=⟨⟨_,_,xNoGround⟩,⟨_,_,xTooMany⟩,⟨_,_,xTwice⟩,⟨_,_,xNoPlace⟩⟩
 have Z:wJ K mg D ⟨CNoGround,CTooMany,CTwice,CNoPlace⟩:=⟨PySem.W.mg_of X G aHE,PySem.W.mg_none_of X G zValueError,w1,w2,w3,w4,w5,w6,w7,w8,n0,n1,n2,n3,n4,n5,n6,n7,n8,spc,tks⟩
 have S:wL K mg:=⟨⟨_,_,hE3⟩,⟨_,_,hE4⟩,⟨_,_,hE5⟩,⟨_,_,hE6⟩,⟨_,_,hE7⟩,⟨_,_,hE8⟩,⟨_,_,hE9⟩,⟨_,_,hE2⟩⟩
 have L:Kp K mg:=⟨⟨_,_,hO⟩,⟨_,_,hL⟩,⟨_,_,hT⟩,⟨_,_,hN⟩,⟨_,_,hD⟩,⟨_,_,hR⟩,⟨_,_,hA8⟩,⟨_,_,hE1⟩,⟨_,_,hE10⟩⟩
 exact⟨PySem.W.fnOf "law" "law" (QF YJ) (j4 YJ) (qv YJ) .none kVLAW dcLAW pmLAW anLAW cdLAW ctLAW,λs v=>.of_eq rfl,λbase _ _=>xZ FLAW B Gk T Nn ⟨_,_,clCG⟩ mCGM X4 Z S L (PySem.W.mg_none_of X G zrepr)⟩
theorem walk {l:PySem.W.OpenLaw} {q:Program} {loose:List Str} {XP:(Str->Option Value)->Heap->Prop} {YP:World->Heap->Prop} {d:DefRec} {K:Params->PySem.W.Frag} (hn:l.most=some 63) (hdf:d.params.defaults=[])
   (hY:∀(w:World) (h:Heap),YP w h->(K w.params).In h)
   (F:∀(w:World) (mg:Str->Option Value) (fa:Addr) (h:Heap),(K w.params).In h->h.Ns mainGlobals mg->mg d.name=some (.ref fa)->
     ∃fd:FuncData,(∀(s:Shared) (u:Value),BindsTo s fd ⟨[u],[]⟩ [("_law_script",u)])/\∀base:Heap,(K w.params).In base->base.Ns mainGlobals mg->qz l.prog w (K w.params) mg base jc 9 fa fd ["_law_script"] (WZ (K w.params))):
   PySem.W.WalkO q loose XP YP l.row.toRowW d [] (λf vs=>PySem.call f vs):=
 L2.walk_of (n:=63) (k:=9) (x:="_law_script") (CX:=λ_=>jc) (sp:=λw=>WZ (K w.params)) hn (by decide) hdf ⟨rfl,by decide,by decide,rfl⟩ hY F (λ_ _ a ns hl _ hS=>⟨a,ns,rfl,hS,hl,λ_=>rfl⟩) λ_ _ _ _ _ z=>z
end Rh
open PySem PySem.W PyProof.Rows
def PySem.W.Fast.tw15929911469996914579 : Unit := ()
def PySem.W.Fast.tw861502493610598483 : Unit := ()
def PySem.W.Fast.tw2875724977328499099 : Unit := ()
def PySem.W.Fast.tw13500835264943016306 : Unit := ()
def PySem.W.Fast.tw7774113678449685934 : Unit := ()
def PySem.W.Fast.tw10971829966401845888 : Unit := ()
def PySem.W.Fast.tw7249309231779463276 : Unit := ()
def PySem.W.Fast.tw3278676997906506929 : Unit := ()
def PySem.W.Fast.tw3403988585091769449 : Unit := ()
def PySem.W.Fast.tw11589282660436910429 : Unit := ()
def PySem.W.Fast.tw1420270799746587975 : Unit := ()
def PySem.W.Fast.tw12176265147828701554 : Unit := ()
def PySem.W.Fast.tw8431482922422412695 : Unit := ()
def PySem.W.Fast.tw4323258101793500111 : Unit := ()
def PySem.W.Fast.tw8966131664815694762 : Unit := ()
def PySem.W.Fast.tw1205274952441263945 : Unit := ()
def PySem.W.Fast.tw12843764043397292189 : Unit := ()
def PySem.W.Fast.tw9615563845995560447 : Unit := ()
def PySem.W.Fast.tw7322748291113730364 : Unit := ()
def PySem.W.Fast.tw6128106870883400570 : Unit := ()
def PySem.W.Fast.tw8854275682344465072 : Unit := ()
def PySem.W.Fast.tw4971374062829452455 : Unit := ()
def PySem.W.Fast.tw16756451883985382160 : Unit := ()
def PySem.W.Fast.tw7172948962289856510 : Unit := ()
def PySem.W.Fast.tw13421457143807847188 : Unit := ()
def PySem.W.Fast.tw9806118890596472461 : Unit := ()
def PySem.W.Fast.tw4493901809537577575 : Unit := ()
def PySem.W.Fast.tw726351398001015727 : Unit := ()
def PySem.W.Fast.tw6105849179199505303 : Unit := ()
def PySem.W.Fast.tw18277974793145541040 : Unit := ()
def PySem.W.Fast.tw13055953723892786844 : Unit := ()
def PySem.W.Fast.tw4906484309439969231 : Unit := ()
def PySem.W.Fast.tw1532491051758110099 : Unit := ()
def PySem.W.Fast.tw2314633323536394700 : Unit := ()
def PySem.W.Fast.tw8002303944043701648 : Unit := ()
def PySem.W.Fast.tw3475869608268796686 : Unit := ()
def PySem.W.Fast.tw10199421320940215857 : Unit := ()
def PySem.W.Fast.tw5459702643516471331 : Unit := ()
def PySem.W.Fast.tw17590705303994421779 : Unit := ()
def PySem.W.Fast.tw13956191218907399338 : Unit := ()
def PySem.W.Fast.tw15438627641174518403 : Unit := ()
def PySem.W.Fast.tw3681537716864247207 : Unit := ()
def PySem.W.Fast.tw5072417060200589145 : Unit := ()
def PySem.W.Fast.tw16955839230299176341 : Unit := ()
def PySem.W.Fast.tw13855379610559885079 : Unit := ()
def PySem.W.Fast.tw15433366417846715934 : Unit := ()
def PySem.W.Fast.tw10910644110388302437 : Unit := ()
def PySem.W.Fast.tw14664691819916384248 : Unit := ()
def PySem.W.Fast.tw1070438729232803039 : Unit := ()
def PySem.W.Fast.tw16248296213531012650 : Unit := ()
def PySem.W.Fast.tw14172470266813156586 : Unit := ()
def PySem.W.Fast.tw2144661209622563809 : Unit := ()
def PySem.W.Fast.tw3215387988796971590 : Unit := ()
def PySem.W.Fast.tw9592521066531166775 : Unit := ()
def PySem.W.Fast.tw16108870410212019532 : Unit := ()
def PySem.W.Fast.tw13757698761724263525 : Unit := ()
def PySem.W.Fast.tw17338325484393633139 : Unit := ()
def PySem.W.Fast.tw3308634892276815127 : Unit := ()
def PySem.W.Fast.tw7478123994339007903 : Unit := ()
def PySem.W.Fast.tw7164969610272591079 : Unit := ()
def PySem.W.Fast.tw3721919958574915784 : Unit := ()
def PySem.W.Fast.tw1717767836212652739 : Unit := ()
def PySem.W.Fast.tw14760874974797668852 : Unit := ()
def PySem.W.Fast.tw15401437161963490237 : Unit := ()
def PySem.W.Fast.tw17187875760726034783 : Unit := ()
def PySem.W.Fast.tw17292613610259460706 : Unit := ()
def PySem.W.Fast.tw11266997524610791606 : Unit := ()
def PySem.W.Fast.tw16864618592142003386 : Unit := ()
def PySem.W.Fast.tw4884199854448574 : Unit := ()
def PySem.W.Fast.tw8733291241859026926 : Unit := ()
def PySem.W.Fast.tw17464319187374939960 : Unit := ()
def PySem.W.Fast.tw12887044766017154078 : Unit := ()
def PySem.W.Fast.tw12459912946257978736 : Unit := ()
def PySem.W.Fast.tw8047209995159408440 : Unit := ()
def PySem.W.Fast.tw10295913840692754127 : Unit := ()
def PySem.W.Fast.tw15402603294489630176 : Unit := ()
def PySem.W.Fast.tw9879335643197240621 : Unit := ()
def PySem.W.Fast.tw1979317910248211280 : Unit := ()
def PySem.W.Fast.tw6798380500665416597 : Unit := ()
def PySem.W.Fast.tw740290905518256060 : Unit := ()
def PySem.W.Fast.tw17518593693041627797 : Unit := ()
def PySem.W.Fast.tw3919386906821981792 : Unit := ()
def PySem.W.Fast.tw16919654943277366748 : Unit := ()
def PySem.W.Fast.tw15254633091992210921 : Unit := ()
def PySem.W.Fast.tw1950803216711332702 : Unit := ()
def PySem.W.Fast.tw18101783494082082527 : Unit := ()
def PySem.W.Fast.tw16615150188913437886 : Unit := ()
def PySem.W.Fast.tw15925456577456769635 : Unit := ()
def PySem.W.Fast.tw15227483606004533461 : Unit := ()
def PySem.W.Fast.tw9972681490609642005 : Unit := ()
def PySem.W.Fast.tw7000281897963312321 : Unit := ()
def PySem.W.Fast.tw7867829370405329436 : Unit := ()
def PySem.W.Fast.tw6548459193220583526 : Unit := ()
def PySem.W.Fast.tw1708089923452030704 : Unit := ()
def PySem.W.Fast.tw12917704675397863716 : Unit := ()
set_option maxRecDepth 100000
set_option maxHeartbeats 0
open_top hd for PySem.Challenge.rw_ringheaps_k03_grounds_refused
set_option maxRecDepth 100000 in
set_option maxHeartbeats 0 in
theorem PySem.Challenge.cw_ringheaps_k03_grounds_refused_holds : PySem.Challenge.rw_ringheaps_k03_grounds_refused.Holds := by
 refine hd ?_
 k_fill
 refine Rh.walk (l:=PySem.Challenge.rw_ringheaps_k03_grounds_refused) rfl rfl (λw h Y=>PySem.W.kIn_of Y) ?F
 case F=>
   intro w mg fa h KX G hmg
   refine' Rh.all_mk KX G hmg ?_ ?_ ?_ ?_ ?_ ?_ ?_ ?_ ?_ ?_ ?_ ?_ ?_ ?_ ?_ ?_ ?_ ?_ ?_ ?_ ?_ ?_ ?_ ?_ ?_ ?_ ?_ ?_ ?_ ?_ ?_ ?_ ?_ ?_ ?_ ?_ ?_ ?_ ?_ ?_ ?_ ?_ ?_ ?_ ?_ ?_ ?_ ?_ ?_ ?_ ?_ ?_ ?_ ?_ ?_ ?_ ?_ ?_ ?_ ?_ ?_ ?_ ?_ ?_ ?_ ?_ ?_ ?_ ?_ ?_ ?_ ?_ ?_ ?_ ?_ ?_ ?_ ?_ ?_ ?_ ?_ ?_ ?_ ?_ ?_ ?_ ?_ ?_ ?_ ?_ ?_ ?_ ?_ ?_ ?_ ?_ ?_ ?_ ?_ ?_ ?_ ?_ ?_ ?_ ?_ ?_ ?_ ?_ ?_ ?_ ?_ ?_ ?_ ?_ ?_ ?_ ?_ ?_ ?_ ?_ ?_ ?_ ?_ ?_ ?_ ?_ ?_ ?_ ?_ ?_ ?_ ?_ ?_ ?_ ?_ ?_ ?_ ?_ ?_ ?_ ?_ ?_ ?_ ?_
   any_goals first | (apply Rh.HF.mk'<;>k_is) | (apply Rh.MF.mk'<;>k_is) | k_is | kernel_rfl | rfl | decide
