import PyProof.Rows.All
import Wide.All
import OpenK.AllK
import Wide.FinOn
import Lean
import PyProof.EqAt
import PyProof.EqKinds
import PyProof.TupleCall
import PySem.Challenge.RW_ringheaps_k82_least_grounds
set_option Elab.async false
set_option linter.all false
set_option maxRecDepth 100000
namespace L2
open PySem PySem.Spec PyProof.Rows
abbrev qA:=Sum Int Str
def Z2:qA->Value->Bool
 | .inl k,v=>Value.isInt k v
 | .inr x,v=>Value.isStrOf x v
def N2 (w:World):qA->Int
 | .inl k=>hashInt k
 | .inr x=>hashStr w x
theorem q4:∀{k:qA} {v:Value},Z2 k v=true->(∃i t,k=Sum.inl i/\v=Value.int i t)\/(∃x t,k=Sum.inr x/\v=Value.str x t)
 | .inl i,v,h=>by
   obtain⟨t,e⟩:=Value.isInt_shape (k:=i) (v:=v) h
   exact .inl ⟨i,t,rfl,e⟩
 | .inr x,v,h=>by
   obtain⟨t,e⟩:=Value.isStrOf_shape (x:=x) (v:=v) h
   exact .inr ⟨x,t,rfl,e⟩
theorem vE (i:Int) (t:Tok):Z2 (.inl i) (.int i t)=true:=by simp [Z2,Value.isInt]
theorem vD (x:Str) (t:Tok):Z2 (.inr x) (.str x t)=true:=by simp [Z2,Value.isStrOf]
theorem KW (a b:Int):decide ((Sum.inl a:qA)=Sum.inl b)=(a==b):=by
 by_cases e:a=b
 . subst e;simp
 . have h:¬(Sum.inl a:qA)=Sum.inl b:=λq=>e (Sum.inl.inj q)
   rw[decide_eq_false h]
   exact(beq_eq_false_iff_ne.mpr e).symm
theorem KQ (a b:Str):decide ((Sum.inr a:qA)=Sum.inr b)=decide (a=b):=by
 by_cases e:a=b
 . subst e;simp
 . have h:¬(Sum.inr a:qA)=Sum.inr b:=λq=>e (Sum.inr.inj q)
   rw[decide_eq_false h,decide_eq_false e]
theorem KU (a:Int) (b:Str):decide ((Sum.inl a:qA)=Sum.inr b)=false:=decide_eq_false (λq=>nomatch q)
theorem KR (a:Str) (b:Int):decide ((Sum.inr a:qA)=Sum.inl b)=false:=decide_eq_false (λq=>nomatch q)
def qK (prog:Program) (w:World):PySem.KeyKind prog w qA where
 is:=Z2
 hash:=N2 w
 inj:=λv a b ha hb=>by
   rcases q4 ha with ⟨i,t,rfl,rfl⟩ | ⟨x,t,rfl,rfl⟩
   . rcases q4 hb with ⟨j,u,rfl,e⟩ | ⟨y,u,rfl,e⟩
     . injection e with e1 _;rw[e1]
     . exact nomatch e
   . rcases q4 hb with ⟨j,u,rfl,e⟩ | ⟨y,u,rfl,e⟩
     . exact nomatch e
     . injection e with e1 _;rw[e1]
 byValue:=λk v h=>by
   rcases q4 h with ⟨i,t,rfl,rfl⟩ | ⟨x,t,rfl,rfl⟩<;>rfl
 pyHash:=λhv h=>by
   rcases q4 hv with ⟨i,t,rfl,rfl⟩ | ⟨x,t,rfl,rfl⟩
   . exact wpAny_pyHash_int h
   . exact wpAny_pyHash_str h
 eqBool:=λhu hv h=>by
   rcases q4 hu with ⟨i,t,rfl,rfl⟩ | ⟨x,t,rfl,rfl⟩
   . rcases q4 hv with ⟨j,u,rfl,rfl⟩ | ⟨y,u,rfl,rfl⟩
     . rw[KW]at h;exact wpAny_eqBool_int h
     . rw[KU]at h;exact SeqAt.EqAt.int_str i t y u _ _ _ _ h
   . rcases q4 hv with ⟨j,u,rfl,rfl⟩ | ⟨y,u,rfl,rfl⟩
     . rw[KR]at h;exact SeqAt.EqAt.str_int x t j u _ _ _ _ h
     . rw[KQ]at h;exact wpAny_eqBool_str h
 «strs»:=λk x t v h=>by
   rcases q4 h with ⟨i,u,rfl,e⟩ | ⟨y,u,rfl,e⟩
   . exact nomatch e
   . injection e with e1 _
     subst e1
     cases v<;>rfl
theorem WI (prog:Program) (w:World) (i:Int) (t:Tok):(qK prog w).is (.inl i) (.int i t)=true:=vE i t
theorem WH (prog:Program) (w:World) (x:Str) (t:Tok):(qK prog w).is (.inr x) (.str x t)=true:=vD x t
end L2
namespace L2
open PySem PySem.Spec PyProof.Rows
inductive V where
 | non | bl (b:Bool) | int (i:Int) | str (x:Str) | byt (b:Array UInt8) | flt (b:UInt64) | ref (a:Addr) | ty (n:String)
 deriving DecidableEq
def qI:V->Value->Prop
 | .non,u=>u=Value.none
 | .bl b,u=>u=Value.bool b
 | .int i,u=>∃t,u=Value.int i t
 | .str x,u=>∃t,u=Value.str x t
 | .byt b,u=>∃t,u=Value.bytes b t
 | .flt b,u=>∃t,u=Value.float b t
 | .ref a,u=>u=Value.ref a
 | .ty n,u=>u=Value.type n
abbrev qF:List V->List Value->Prop:=Paired qI
theorem qF.length {xs:List V} {us:List Value} (r:qF xs us):xs.length=us.length:=Paired.length r
theorem qF.get:∀{xs:List V} {us:List Value} {i:Nat} {x:V},qF xs us->xs[i]?=some x->∃u,us[i]?=some u/\qI x u
 | _,_,_,_,.nil,e=>by simp at e
 | _,_,0,_,.cons r _,e=>by simp at e;subst e;exact⟨_,rfl,r⟩
 | _,_,i+1,x,.cons _ t,e=>by
   obtain⟨u,h1,h2⟩:=qF.get (i:=i) (x:=x) t (by simpa using e)
   exact⟨u,by simpa using h1,h2⟩
theorem qF.append:∀{xs ys:List V} {us ws:List Value},qF xs us->qF ys ws->qF (xs++ys) (us++ws)
 | _,_,_,_,.nil,s=>s
 | _,_,_,_,.cons r t,s=>.cons r (qF.append t s)
theorem qF.take:∀{xs:List V} {us:List Value} (n:Nat),qF xs us->qF (xs.take n) (us.take n)
 | _,_,0,_=>.nil
 | _,_,_+1,.nil=>.nil
 | _,_,n+1,.cons r t=>.cons r (qF.take n t)
theorem qF.drop:∀{xs:List V} {us:List Value} (n:Nat),qF xs us->qF (xs.drop n) (us.drop n)
 | _,_,0,r=>r
 | _,_,_+1,.nil=>.nil
 | _,_,n+1,.cons _ t=>qF.drop n t
theorem qF.none_of:∀{xs:List V} {us:List Value} {i:Nat},qF xs us->xs[i]?=none->us[i]?=none:=λ{xs us i} r e=>by
 have h1:=r.length
 have h2:xs.length<=i:=List.getElem?_eq_none_iff.mp e
 exact List.getElem?_eq_none_iff.mpr (by omega)
def Jq:Option V->Option Value->Prop
 | some v,some u=>qI v u
 | none,none=>True
 | _,_=>False
def KV {κ:Type}:List (κ×V)->List (κ×Value)->Prop:=Paired λ(p:κ×V) (q:κ×Value)=>p.1=q.1/\qI p.2 q.2
def kV:qA->V
 | .inl i=>.int i
 | .inr x=>.str x
inductive HO where
 | lst (xs:List V)
 | tup (xs:List V)
 | dK (kvs:List (qA×V)) | dT (kvs:List (List qA×V))
 | set (S:Int->Bool) (n:Nat)
 | ins (C dx:Addr) (fs:List (Str×V))
 | own (x:Addr)
 | xd (fs:List (Str×V))
 | met (f x:Addr)
 | rng (lo hi:Int)
 | frz (o:Obj) (u:HO)
 | tbl (ps:Array Value)
 | ext (φ:Heap->Prop)
abbrev Hp:=Addr->Option HO
def upd (H:Hp) (a:Addr) (o:HO):Hp:=λb=>if b=a then some o else H b
theorem qd {H:Hp} {a:Addr} {o:HO}:upd H a o a=some o:=by unfold upd;rw[if_pos rfl]
theorem qi {H:Hp} {a b:Addr} {o:HO} (h:b≠a):upd H a o b=H b:=by unfold upd;rw[if_neg h]
theorem jE {H:Hp} {a:Addr} {o u:HO}:upd (upd H a o) a u=upd H a u:=by
 funext b;unfold upd;split<;>rfl
theorem u3 {H:Hp} {a b:Addr} {o u:HO} (h:H a=some o) (h':H b=some u) (d:o≠u):a≠b:=by
 intro e;subst e;rw[h]at h';exact d (Option.some.inj h')
theorem qw {H:Hp} {a b:Addr} {o:HO} (h:H a=some o) (h':H b=none):a≠b:=by
 intro e;subst e;rw[h]at h';cases h'
section
variable (P:Program) (w:World)
def qX (H:Hp) (h:Heap) (a:Addr):HO->Prop
 | .lst xs=>xs.length<=sizeLine/\∃(its:List Value) (n:Nat),qF xs its/\h.get? a=some {cls:=.type "list",data:=.seq its.toArray n}
 | .tup xs=>xs.length<=sizeLine/\∃its:List Value,qF xs its/\IsTup h a its.toArray
 | .dK kvs=>kvs.length<=sizeLine/\(a==sysModules)=false/\∃vs,KV kvs vs/\h.DictOf (qK P w) a vs
 | .dT kvs=>kvs.length<=sizeLine/\(a==sysModules)=false/\∃xs:List (List qA×Addr×Value),
     Paired (λ(p:List qA×V) (q:List qA×Addr×Value)=>p.1=q.1/\H q.2.1=some (.tup (p.1.map kV))/\qI p.2 q.2.2) kvs xs/\
     ∃o es ep,h.get? a=some o/\o.ExactDict/\o.data=.dict es ep/\es.toList=xs.map (entryOfKey (tupleKind (qK P w)))/\(xs.map (·.1)).Nodup
 | .set S n=>h.SetOf (intKind P w) a S n
 | .ins C dx fs=>H dx=some (.own a)/\fs.length<=1000/\dx≠a/\h.get? a=some (PySem.W.instObj C dx)/\
     ∃mA,h.Ns1 dx mA/\(∀f,Jq (fs.lookup f) (mA f))/\PySem.Within mA (fs.map (·.1))
 | .own _=>∃o,h.get? a=some o
 | .xd fs=>∃mA,h.Ns1 a mA/\∀f,Jq (fs.lookup f) (mA f)
 | .rng lo hi=>∃t u v,h.get? a=some {cls:=.type "range",data:=.fields #[.int lo t,.int hi u,.int 1 v]}
 | .frz o u=>h.get? a=some o/\qX H h a u
 | .tbl ps=>h.get? a=some {cls:=.none,data:=.fields ps}
 | .met f x=>h.get? a=some (PySem.W.methodObj (.ref f) (.ref x))
 | .ext φ=>φ h/\(∃o,h.get? a=some o)/\∀h1 h2:Heap,φ h1->(∀o,h1.get? a=some o->h2.get? a=some o)->φ h2
def JM (H:Hp) (h:Heap):Prop:=∀a o,H a=some o->qX P w H h a o
end
section
variable {P:Program} {w:World} {H H':Hp} {h h':Heap} {a:Addr} {o:HO}
theorem qX.lt (x:qX P w H h a o):a < h.objs.size:=by
 cases o with
 | lst xs=>obtain⟨_,_,_,_,e⟩:=x;exact Heap.lt_size e
 | tup xs=>obtain⟨_,_,_,p⟩:=x;exact p.lt
 | dK kvs=>obtain⟨_,_,_,_,o,_,_,e,_⟩:=x;exact Heap.lt_size e
 | dT kvs=>obtain⟨_,_,_,_,o,_,_,e,_⟩:=x;exact Heap.lt_size e
 | set S n=>obtain⟨o,_,_,_,e,_⟩:=x;exact Heap.lt_size e
 | ins C dx fs=>obtain⟨_,_,_,e,_⟩:=x;exact Heap.lt_size e
 | own y=>obtain⟨_,e⟩:=x;exact Heap.lt_size e
 | xd fs=>obtain⟨_,⟨_,_,_,e,_⟩,_⟩:=x;exact Heap.lt_size e
 | rng lo hi=>obtain⟨_,_,_,e⟩:=x;exact Heap.lt_size e
 | frz ob u=>obtain⟨e,_⟩:=x;exact Heap.lt_size e
 | tbl ps=>exact Heap.lt_size (show h.get? a=some _ from x)
 | met f y=>exact Heap.lt_size (show h.get? a=some _ from x)
 | ext φ=>obtain⟨_,⟨_,e⟩,_⟩:=x;exact Heap.lt_size e
theorem Paired.mapP {α β:Type} {F G:α->β->Prop}:∀{l₁:List α} {l₂:List β},Paired F l₁ l₂->(∀a b,F a b->G a b)->Paired G l₁ l₂
 | _,_,.nil,_=>.nil
 | _,_,.cons r t,f=>.cons (f _ _ r) (Paired.mapP t f)
theorem qX.stay (x:qX P w H h a o) (k:∀b u,(b=a\/H b=some (.own a))->h.get? b=some u->h'.get? b=some u)
   (ho:∀b,H b=some (.own a)->H' b=some (.own a)) (ht:∀b xs,H b=some (.tup xs)->H' b=some (.tup xs)):qX P w H' h' a o:=by
 induction o with
 | lst xs=>obtain⟨z,its,n,r,e⟩:=x;exact⟨z,its,n,r,k _ _ (.inl rfl) e⟩
 | tup xs=>obtain⟨z,its,r,ob,e,c⟩:=x;exact⟨z,its,r,ob,k _ _ (.inl rfl) e,c⟩
 | dK kvs=>obtain⟨z,y,vs,r,ob,es,ep,e,c⟩:=x;exact⟨z,y,vs,r,ob,es,ep,k _ _ (.inl rfl) e,c⟩
 | dT kvs=>
   obtain⟨z,y,xs,r,ob,es,ep,e,c⟩:=x
   exact⟨z,y,xs,Paired.mapP r λp q z=>⟨z.1,ht _ _ z.2.1,z.2.2⟩,ob,es,ep,k _ _ (.inl rfl) e,c⟩
 | set S n=>obtain⟨ob,es,ep,t,e,c⟩:=x;exact⟨ob,es,ep,t,k _ _ (.inl rfl) e,c⟩
 | ins C dx fs=>
   obtain⟨d,z,ne,e,mA,⟨od,es,ep,e2,c⟩,r⟩:=x
   exact⟨ho _ d,z,ne,k _ _ (.inl rfl) e,mA,⟨od,es,ep,k _ _ (.inr d) e2,c⟩,r⟩
 | own y=>obtain⟨ob,e⟩:=x;exact⟨ob,k _ _ (.inl rfl) e⟩
 | xd fs=>obtain⟨mA,⟨od,es,ep,e,c⟩,r⟩:=x;exact⟨mA,⟨od,es,ep,k _ _ (.inl rfl) e,c⟩,r⟩
 | rng lo hi=>obtain⟨t,u,v,e⟩:=x;exact⟨t,u,v,k _ _ (.inl rfl) e⟩
 | frz ob u ih=>obtain⟨e,q⟩:=x;exact⟨k _ _ (.inl rfl) e,ih q⟩
 | tbl ps=>
   have e:h.get? a=some {cls:=.none,data:=.fields ps}:=x
   show h'.get? a=some {cls:=.none,data:=.fields ps}
   exact k a _ (.inl rfl) e
 | met f y=>
   have e:h.get? a=some (PySem.W.methodObj (.ref f) (.ref y)):=x
   show h'.get? a=some (PySem.W.methodObj (.ref f) (.ref y))
   exact k a _ (.inl rfl) e
 | ext φ=>obtain⟨p,⟨o,e⟩,st⟩:=x;exact⟨st _ _ p λo q=>k _ _ (.inl rfl) q,⟨o,k _ _ (.inl rfl) e⟩,st⟩
theorem JM.lt (x:JM P w H h) (e:H a=some o):a < h.objs.size:=(x a o e).lt
theorem JM.fresh (x:JM P w H h) (e:h.objs.size<=a):H a=none:=by
 cases q:H a with
 | none=>rfl
 | some u=>exact absurd (Nat.lt_of_lt_of_le (x.lt q) e) (Nat.lt_irrefl _)
theorem JM.kept (x:JM P w H h) (k:∀b u,h.get? b=some u->h'.get? b=some u):JM P w H h':=λa o e=>
 (x a o e).stay (λb u _ q=>k b u q) (λ_ q=>q) λ_ _ q=>q
theorem JM.laid (x:JM P w H h) (k:∀b u,h.get? b=some u->h'.get? b=some u) (hp:h.objs.size<=a) (new:qX P w (upd H a o) h' a o):JM P w (upd H a o) h':=λb u e=>by
 have hn:=x.fresh hp
 by_cases hb:b=a
 . subst hb;rw[qd]at e;cases e;exact new
 . rw[qi hb]at e
   exact(x b u e).stay (λc v _ q=>k c v q) (λc q=>by rw[qi (qw q hn)];exact q) λc xs q=>by rw[qi (qw q hn)];exact q
end
def Rd (H:Hp) (a:Addr) (u:HO):Prop:=H a=some u\/∃o,H a=some (.frz o u)
theorem Rd.of {H:Hp} {a:Addr} {u:HO} (h:H a=some u):Rd H a u:=.inl h
theorem Rd.ok {P:Program} {w:World} {H:Hp} {h:Heap} {a:Addr} {u:HO} (r:Rd H a u) (x:JM P w H h):qX P w H h a u:=by
 rcases r with r | ⟨o,r⟩
 . exact x a u r
 . obtain⟨_,q⟩:=x a _ r
   exact q
def Go:Option HO->Prop
 | some (.lst _)=>True
 | some (.dK _)=>True
 | some (.dT _)=>True
 | some (.set _ _)=>True
 | some (.ins _ _ _)=>True
 | some (.ext _)=>True
 | _=>False
section
variable {P:Program} {w:World} {H:Hp} {h h':Heap} {x e:Addr} {o':HO}
theorem JM.write (ok:JM P w H h) (mu:Go (H x)) (he:e=x\/H e=some (.own x)) (k:∀b u,b≠e->h.get? b=some u->h'.get? b=some u) (heo:∃u,h'.get? e=some u)
   (new:qX P w (upd H x o') h' x o'):JM P w (upd H x o') h':=λb u q=>by
 have nown:∀c y,H c=some (.own y)->c≠x:=λc y r z=>by subst z;rw[r]at mu;exact mu
 have ntup:∀c xs,H c=some (.tup xs)->c≠x:=λc xs r z=>by subst z;rw[r]at mu;exact mu
 by_cases hb:b=x
 . subst hb;rw[qd]at q;cases q;exact new
 . rw[qi hb]at q
   by_cases hbe:b=e
   . have q':H b=some (.own x):=by
       rcases he with z | z
       . exact absurd (hbe.trans z) hb
       . rw[hbe];exact z
     rw[q]at q';cases q'
     obtain⟨v,hv⟩:=heo
     exact⟨v,by rw[hbe];exact hv⟩
   . refine(ok b u q).stay (λc v hc r=>k c v ?_ r) (λc r=>by rw[qi (nown c b r)];exact r) λc xs r=>by rw[qi (ntup c xs r)];exact r
     rcases hc with rfl | hc
     . exact hbe
     . rintro rfl
       rcases he with z | z
       . exact nown c b hc z
       . rw[hc]at z;cases z;exact hb rfl
end
structure Un (fs ex:List Addr) (H H':Hp) (h h':Heap):Prop where
 keep:∀b o,h.get? b=some o->H b=none->b∉fs->b∉ex->h'.get? b=some o
 slot:∀b o,h.get? b=some o->H b=none->b∈fs->b∉ex->∃sl,h'.get? b=some {o with slots:=sl}
 free:∀b o,h.get? b=some o->H b=none->b∉ex->H' b=none
 there:∀b o,h.get? b=some o->b∉ex->∃o',h'.get? b=some o'
 tups:∀b xs,H b=some (.tup xs)->H' b=some (.tup xs)
 frzs:∀b o u,H b=some (.frz o u)->H' b=some (.frz o u)
 tbls:∀b ps,H b=some (.tbl ps)->∃more,H' b=some (.tbl (ps++more))
section
variable {fs fs' ex ex':List Addr} {H H1 H2:Hp} {h h1 h2 h':Heap} {a x e:Addr} {o:HO}
theorem Un.any (u:Un fs ex H H1 h h1) {b:Addr} {ob:Obj} (q:h.get? b=some ob) (n:H b=none) (hx:b∉ex):∃sl,h1.get? b=some {ob with slots:=sl}:=by
 by_cases hb:b∈fs
 . exact u.slot b ob q n hb hx
 . exact⟨ob.slots,u.keep b ob q n hb hx⟩
theorem Un.kept (k:∀b u,h.get? b=some u->h'.get? b=some u):Un fs ex H H h h':=
 ⟨λb ob q _ _ _=>k b ob q,λb ob q _ _ _=>⟨ob.slots,k b ob q⟩,λ_ _ _ n _=>n,λb ob q _=>⟨ob,k b ob q⟩,λ_ _ q=>q,λ_ _ _ q=>q,λ_ ps q=>⟨#[],by rw[q];simp⟩⟩
theorem Un.refl:Un fs ex H H h h:=Un.kept λ_ _ q=>q
theorem Un.laid (k:∀b u,h.get? b=some u->h'.get? b=some u) (hp:h.objs.size<=a) (hn:H a=none):Un fs ex H (upd H a o) h h' where
 keep:=λb u q _ _ _=>k b u q
 slot:=λb u q _ _ _=>⟨u.slots,k b u q⟩
 free:=λb u q n _=>by rw[qi (Nat.ne_of_lt (Nat.lt_of_lt_of_le (Heap.lt_size q) hp))];exact n
 there:=λb u q _=>⟨u,k b u q⟩
 tups:=λb xs q=>by rw[qi (qw q hn)];exact q
 frzs:=λb u xs q=>by rw[qi (qw q hn)];exact q
 tbls:=λb ps q=>⟨#[],by rw[qi (qw q hn),q];simp⟩
theorem Un.write (mu:Go (H x)) (he:e=x\/H e=some (.own x)) (k:∀b u,b≠e->h.get? b=some u->h'.get? b=some u) (heo:∃u,h'.get? e=some u):Un fs ex H (upd H x o) h h':=by
 have hx:∀b,H b=none->b≠x:=λb n z=>by subst z;rw[n]at mu;exact mu
 have hb:∀b,H b=none->b≠e:=λb n z=>by
   subst z
   rcases he with r | r
   . exact hx b n r
   . rw[n]at r;cases r
 have hm:∀b u,H b=some u->¬Go (some u)->b≠x:=λb u q nm z=>by subst z;rw[q]at mu;exact nm mu
 refine⟨λb u q n _ _=>k b u (hb b n) q,λb u q n _ _=>⟨u.slots,k b u (hb b n) q⟩,λb u q n _=>by rw[qi (hx b n)];exact n,λb u q _=>?_,
   λb xs q=>by rw[qi (hm b _ q λz=>z)];exact q,λb u xs q=>by rw[qi (hm b _ q λz=>z)];exact q,λb ps q=>⟨#[],by rw[qi (hm b _ q λz=>z),q];simp⟩⟩
 by_cases hbe:b=e
 . subst hbe;exact heo
 . exact⟨u,k b u hbe q⟩
end
def Nc (h:Heap) (H:Hp):List Addr:=(List.range h.objs.size).filter λa=>(H a).isSome
def XT (h:Heap) (H:Hp):Heap:=PySem.W.hideAll h (Nc h H)
theorem vL (h:Heap) (H:Hp):(XT h H).objs.size=h.objs.size:=PySem.W.hideAll_size _ _
theorem y4 {h:Heap} {H:Hp} {b:Addr} {o:Obj} (e:h.get? b=some o) (n:H b=none):(XT h H).get? b=some o:=
 PySem.W.hideAll_get _ e λhm=>by
   have q:(H b).isSome=true:=(List.mem_filter.mp hm).2
   rw[n]at q;simp at q
theorem wJ {h:Heap} {H:Hp} {b:Addr} {o:Obj} (e:(XT h H).get? b=some o):h.get? b=some o/\H b=none:=by
 have e':h.get? b=some o:=PySem.W.of_hideAll (Nc h H) e
 refine⟨e',?_⟩
 cases q:H b with
 | none=>rfl
 | some x=>
   have hm:b∈Nc h H:=List.mem_filter.mpr ⟨List.mem_range.mpr (Heap.lt_size e'),by simp [q]⟩
   have z:(XT h H).get? b=none:=PySem.W.hideAll_none (Nc h H) hm
   rw[z]at e;cases e
def uA (g h:Heap) (L:Addr):List (Addr×Obj):=(List.range h.objs.size).filterMap λa=>if a=L\/(g.get? a).isSome=true then none else (h.get? a).map λo=>(a,o)
def rest (g h:Heap) (L d:Addr):List (Addr×Obj):=(uA g h L).filter λp=>decide (p.1≠d)
end L2
namespace L2
open PySem PySem.Spec PyProof.Rows
structure Mod (K:PySem.W.Frag) (mg:Str->Option Value) (base:Heap):Prop where
 kin:K.In base
 glob:base.Ns mainGlobals mg
 blt:∃mb,base.Ns builtinsNs mb/\∀x:Str,x≠"__name__"->mb x=bootBuiltins x
 nolimit:base.NoLimit
structure Cx where
 prog:Program
 w:World
 K:PySem.W.Frag
 mg:Str->Option Value
 base:Heap
 A:Around
 N:List Str
 s₀:Shared
 H₀:Hp
 env:Env
 outer:List Env
 stack:List Env
 ex:List Addr
 fn:Str->Bool
 calm:Bool
 pn:List (Addr×Obj)
 xe:Value->Shared->Prop
def xa (l:List Env):List Addr:=l.filterMap (·.frame)
abbrev Cx.fs (X:Cx):List Addr:=xa X.outer
def Gx (sc:Scope) (x:Str):Prop:=sc.names.lookup x=some .local\/sc.names.lookup x=some .cell\/sc.names.lookup x=some .free
def Gp (sc:Scope) (x:Str):Prop:=sc.names.lookup x=some .local\/sc.names.lookup x=some .cell
def Mb (env:Env) (h:Heap) (m:Str->Option Value) (x:Str) (u:Value):Prop:=
 (env.kindOf x=some .local/\m x=some u)\/((env.kindOf x=some .cell\/env.kindOf x=some .free)/\∃c,env.cells.lookup x=some c/\h.IsCell c (some u))
structure Cx.Ok (X:Cx):Prop where
 mod:Mod X.K X.mg X.base
 kind:X.env.scope.kind=.function
 glob:X.env.globals=mainGlobals
 blt:X.env.builtins=builtinsNs
 above:X.s₀.heap.objs.size<=X.env.locals
 inj:∀x y c,X.env.cells.lookup x=some c->X.env.cells.lookup y=some c->x=y
 has:∀x,(X.env.kindOf x=some .cell\/X.env.kindOf x=some .free)->∃c,X.env.cells.lookup x=some c
 cab:∀x c,X.fn x=true->X.env.cells.lookup x=some c->X.s₀.heap.objs.size<=c
 hd:X.calm=true->X.A.handled=none
 frames:X.A.frames=some X.stack
 stk:X.stack=X.outer\/(X.stack=X.env::X.outer/\X.env.frame=some X.env.locals)
 exf:∀b∈X.ex,b≠X.env.locals/\∀x c,X.env.cells.lookup x=some c->c≠b
 bs:∀b o,X.base.get? b=some o->X.s₀.heap.get? b=some o/\X.H₀ b=none
 bsz:X.base.objs.size<=X.s₀.heap.objs.size
 noex:∀b o,X.base.get? b=some o->b∉X.ex
 exfs:∀b∈X.ex,b∉X.fs
 funs:X.s₀.heap.FunFrames X.base X.outer
 frf:∀b∈X.fs,X.H₀ b=none
structure qy (X:Cx) (pins:List (Addr×Obj)) (σ:List (Option V)) (H:Hp) (s:Shared):Prop where
 ok:X.Ok
 os:s.os=X.s₀.os
 bare:AllBare s.gens
 base:Un X.fs X.ex X.H₀ H X.s₀.heap s.heap
 loc:∃m,s.heap.Ns X.env.locals m/\∀(i:Nat) (x:Str) (v:V),X.N[i]?=some x->σ[i]?=some (some v)->Gx X.env.scope x->∃u,qI v u/\Mb X.env s.heap m x u
 cell:∀x c,X.env.cells.lookup x=some c->∃v,s.heap.IsCell c v
 free:H X.env.locals=none
 freeC:∀x c,X.env.cells.lookup x=some c->H c=none
 pin:∀p∈X.pn++pins,s.heap.get? p.1=some p.2/\H p.1=none/\p.1≠X.env.locals/\p.1∉X.fs/\∀v,p.2.data≠.cell v
 hok:JM X.prog X.w H s.heap
 len:σ.length=X.N.length
section
variable {X:Cx} {pins:List (Addr×Obj)} {σ:List (Option V)} {H H':Hp} {s:Shared} {h':Heap}
theorem Cx.Ok.nofr (ok:X.Ok) {b:Addr} {o:Obj} (e:X.base.get? b=some o):b∉X.fs:=λhb=>by
 have:=(ok.funs.mem hb).1
 rw[e]at this;cases this
theorem qy.bs (I:qy X pins σ H s):∀b o,X.base.get? b=some o->s.heap.get? b=some o/\H b=none:=λb o e=>
 ⟨I.base.keep b o (I.ok.bs b o e).1 (I.ok.bs b o e).2 (I.ok.nofr e) (I.ok.noex b o e),I.base.free b o (I.ok.bs b o e).1 (I.ok.bs b o e).2 (I.ok.noex b o e)⟩
theorem qy.bk (I:qy X pins σ H s):∀b o,X.base.get? b=some o->s.heap.get? b=some o:=λb o e=>(I.bs b o e).1
theorem qy.mod (I:qy X pins σ H s):Mod X.K X.mg X.base:=I.ok.mod
theorem qy.kIn (I:qy X pins σ H s):X.K.In s.heap:=I.ok.mod.kin.keeps I.bk
theorem qy.lt (I:qy X pins σ H s):X.env.locals < s.heap.objs.size:=let ⟨_,hn,_⟩:=I.loc;hn.lt
theorem qy.sz (I:qy X pins σ H s):X.s₀.heap.objs.size<=s.heap.objs.size:=Nat.le_trans I.ok.above (Nat.le_of_lt I.lt)
theorem qy.nofs (I:qy X pins σ H s) {a:Addr} (h:s.heap.objs.size<=a):a∉X.fs:=λhb=>by
 obtain⟨_,o,ho,_⟩:=I.ok.funs.mem hb
 exact absurd (Nat.lt_of_lt_of_le (Heap.lt_size ho) (Nat.le_trans I.sz h)) (Nat.lt_irrefl _)
theorem qy.cne (I:qy X pins σ H s):∀x c,X.env.cells.lookup x=some c->c≠X.env.locals:=λx c e z=>by
 obtain⟨v,o,ho,hd⟩:=I.cell x c e
 obtain⟨m,⟨o',es,ep,ho',hd',_⟩,_⟩:=I.loc
 rw[z,ho']at ho;cases ho;rw[hd']at hd;cases hd
theorem qy.funs (I:qy X pins σ H s):s.heap.FunFrames X.base X.outer:=by
 have all:∀(l:List Env),(∀b∈xa l,b∈X.fs)->X.s₀.heap.FunFrames X.base l->s.heap.FunFrames X.base l:=by
   intro l
   induction l with
   | nil=>intro _ _;trivial
   | cons env r ih=>
     intro hs hl
     obtain⟨hk,⟨L,o,hf,hn,ho,hd⟩,hr⟩:=hl
     have hL:L∈X.fs:=hs L (by unfold xa;rw[List.filterMap_cons,hf];exact List.mem_cons_self)
     obtain⟨sl,e⟩:=I.base.slot L o ho (I.ok.frf L hL) hL λz=>I.ok.exfs L z hL
     exact⟨hk,⟨L,_,hf,hn,e,hd⟩,ih (λb hb=>hs b (by unfold xa;rw[List.filterMap_cons,hf];exact List.mem_cons_of_mem _ hb)) hr⟩
 exact all X.outer (λ_ hb=>hb) I.ok.funs
theorem qy.stack (I:qy X pins σ H s):s.heap.FunFrames X.base X.stack:=by
 rcases I.ok.stk with e | ⟨e,hf⟩
 . rw[e];exact I.funs
 . rw[e]
   obtain⟨m,hn,_⟩:=I.loc
   refine .cons (by rw[I.ok.kind];decide) hf hn ?_ I.funs
   exact Heap.get?_none_of_le (Nat.le_trans I.ok.bsz I.ok.above)
theorem qy.stkSub (I:qy X pins σ H s):∀b∈xa X.stack,b∈X.env.locals::X.fs:=λb hb=>by
 rcases I.ok.stk with e | ⟨e,hf⟩
 . rw[e]at hb;exact List.mem_cons_of_mem _ hb
 . rw[e]at hb
   unfold xa at hb
   rw[List.filterMap_cons,hf]at hb
   exact hb
theorem qy.stkFree (I:qy X pins σ H s):∀b∈xa X.stack,H b=none:=λb hb=>by
 rcases List.mem_cons.mp (I.stkSub b hb) with e | hb
 . rw[e];exact I.free
 . obtain⟨_,o,ho,_⟩:=I.ok.funs.mem hb
   exact I.base.free b o ho (I.ok.frf b hb) λz=>I.ok.exfs b z hb
theorem qy.step {g':Array GenState} {t':Nat} {d':Drawn} {ch:List Addr} (I:qy X pins σ H s)
   (hch:∀b∈ch,(b∈X.ex\/X.s₀.heap.objs.size<=b)/\b≠X.env.locals/\(∀x c,X.env.cells.lookup x=some c->c≠b)/\∀p∈X.pn++pins,p.1≠b)
   (keep:∀b o,b≠X.env.locals->b∉X.fs->b∉ch->s.heap.get? b=some o->H b=none->h'.get? b=some o)
   (slot:∀b o,b≠X.env.locals->b∈X.fs->b∉ch->s.heap.get? b=some o->H b=none->∃sl,h'.get? b=some {o with slots:=sl}) (free:∀b o,b∉ch->s.heap.get? b=some o->H b=none->H' b=none)
   (there:∀b o,b∉ch->s.heap.get? b=some o->∃o',h'.get? b=some o')
   (tups:∀b xs,H b=some (.tup xs)->H' b=some (.tup xs)) (frzs:∀b o u,H b=some (.frz o u)->H' b=some (.frz o u)) (tbls:∀b ps,H b=some (.tbl ps)->∃more,H' b=some (.tbl (ps++more)))
   (ns:∀m,s.heap.Ns X.env.locals m->h'.Ns X.env.locals m) (hok:JM X.prog X.w H' h') (hg:AllBare g'):
   qy X pins σ H' {s with heap:=h',gens:=g',drawn:=d',toks:=t'}:=by
 have neL:∀b o,X.s₀.heap.get? b=some o->b≠X.env.locals:=λb o e=>Nat.ne_of_lt (Nat.lt_of_lt_of_le (Heap.lt_size e) I.ok.above)
 have neC:∀b o,X.s₀.heap.get? b=some o->b∉X.ex->b∉ch:=λb o e hx hb=>by
   rcases(hch b hb).1 with z | z
   . exact hx z
   . exact absurd (Nat.lt_of_lt_of_le (Heap.lt_size e) z) (Nat.lt_irrefl _)
 have cellK:∀x c,X.env.cells.lookup x=some c->∀v,s.heap.IsCell c v->h'.IsCell c v:=λx c e v ⟨o,ho,hd⟩=>by
   have nch:c∉ch:=λz=>(hch c z).2.2.1 x c e rfl
   by_cases hc:c∈X.fs
   . obtain⟨sl,q⟩:=slot c o (I.cne x c e) hc nch ho (I.freeC x c e)
     exact⟨_,q,hd⟩
   . exact⟨o,keep c o (I.cne x c e) hc nch ho (I.freeC x c e),hd⟩
 refine⟨I.ok,I.os,hg,⟨λb o e n hb hx=>?_,λb o e n hb hx=>?_,λb o e n hx=>?_,λb o e hx=>?_,λb xs e=>tups b xs (I.base.tups b xs e),λb o xs e=>frzs b o xs (I.base.frzs b o xs e),λb ps e=>?_⟩,?_,λx c e=>?_,?_,λx c e=>?_,λp hp=>?_,hok,I.len⟩
 . exact keep b o (neL b o e) hb (neC b o e hx) (I.base.keep b o e n hb hx) (I.base.free b o e n hx)
 . obtain⟨sl,e1⟩:=I.base.slot b o e n hb hx
   obtain⟨sl',e2⟩:=slot b _ (neL b o e) hb (neC b o e hx) e1 (I.base.free b o e n hx)
   exact⟨sl',e2⟩
 . obtain⟨o',e1⟩:=I.base.there b o e hx
   exact free b o' (neC b o e hx) e1 (I.base.free b o e n hx)
 . obtain⟨o',e1⟩:=I.base.there b o e hx
   exact there b o' (neC b o e hx) e1
 . obtain⟨m1,e1⟩:=I.base.tbls b ps e
   obtain⟨m2,e2⟩:=tbls b _ e1
   exact⟨m1++m2,by rw[e2,Array.append_assoc]⟩
 . obtain⟨m,hn,hl⟩:=I.loc
   refine⟨m,ns m hn,λi x v e1 e2 e3=>?_⟩
   obtain⟨u,r,l⟩:=hl i x v e1 e2 e3
   refine⟨u,r,?_⟩
   rcases l with l | ⟨k,c,e,z⟩
   . exact .inl l
   . exact .inr ⟨k,c,e,cellK x c e _ z⟩
 . obtain⟨v,z⟩:=I.cell x c e
   exact⟨v,cellK x c e v z⟩
 . obtain⟨m,⟨o,_,_,ho,_⟩,_⟩:=I.loc
   exact free _ o (λz=>(hch _ z).2.1 rfl) ho I.free
 . obtain⟨v,o,ho,hd⟩:=I.cell x c e
   exact free c o (λz=>(hch c z).2.2.1 x c e rfl) ho (I.freeC x c e)
 . obtain⟨e,n,ne,nf,d⟩:=I.pin p hp
   have nch:p.1∉ch:=λz=>(hch p.1 z).2.2.2 p hp rfl
   exact⟨keep p.1 p.2 ne nf nch e n,free p.1 p.2 nch e n,ne,nf,d⟩
theorem qy.un {t':Nat} (I:qy X pins σ H s) (u:Un X.fs [] H H' s.heap h') (hok:JM X.prog X.w H' h'):qy X pins σ H' {s with heap:=h',toks:=t'}:=by
 obtain⟨m,⟨o,es,ep,ho,r⟩,_⟩:=id I.loc
 obtain⟨sl,hL⟩:=u.any ho I.free (by simp)
 exact I.step (g':=s.gens) (d':=s.drawn) (ch:=[]) (λ_ z=>nomatch z) (λb o _ hb _ e n=>u.keep b o e n hb (by simp)) (λb o _ hb _ e n=>u.slot b o e n hb (by simp)) (λb o _ e n=>u.free b o e n (by simp)) (λb o _ e=>u.there b o e (by simp)) u.tups u.frzs u.tbls (λm' hm=>by
   obtain⟨o',es',ep',ho',r'⟩:=hm
   rw[ho]at ho';cases ho'
   exact⟨_,es',ep',hL,r'⟩) hok I.bare
theorem qy.call {g':Array GenState} {t':Nat} {d':Drawn} {ch:List Addr} (I:qy X pins σ H s) (u:Un (xa X.stack) ch H H' s.heap h') (hok:JM X.prog X.w H' h') (hg:AllBare g')
   (hch:∀b∈ch,(b∈X.ex\/X.s₀.heap.objs.size<=b)/\b≠X.env.locals/\(∀x c,X.env.cells.lookup x=some c->c≠b)/\∀p∈X.pn++pins,p.1≠b):
   qy X pins σ H' {s with heap:=h',gens:=g',drawn:=d',toks:=t'}:=by
 obtain⟨m,⟨o,es,ep,ho,r⟩,_⟩:=id I.loc
 obtain⟨sl,hL⟩:=u.any ho I.free λz=>(hch _ z).2.1 rfl
 exact I.step (ch:=ch) hch (λb o hL hb hc e n=>u.keep b o e n (λz=>(List.mem_cons.mp (I.stkSub b z)).elim hL hb) hc) (λb o _ _ hc e n=>u.any e n hc) (λb o hc e n=>u.free b o e n hc) (λb o hc e=>u.there b o e hc) u.tups u.frzs u.tbls (λm' hm=>by
   obtain⟨o',es',ep',ho',r'⟩:=hm
   rw[ho]at ho';cases ho'
   exact⟨_,es',ep',hL,r'⟩) hok hg
theorem qy.turned {t':Nat} {it:Addr} (I:qy X pins σ H s) (k:∀b o,b≠it->s.heap.get? b=some o->h'.get? b=some o) (hn:H it=none) (hL:it≠X.env.locals)
   (h1:it∈X.ex\/X.s₀.heap.objs.size<=it) (h2:∀x c,X.env.cells.lookup x=some c->c≠it) (h3:∀p∈X.pn++pins,p.1≠it):qy X pins σ H {s with heap:=h',toks:=t'}:=by
 have nit:∀b u,H b=some u->b≠it:=λb u e z=>by rw[z,hn]at e;cases e
 refine I.step (g':=s.gens) (d':=s.drawn) (ch:=[it]) (λb hb=>?_) (λb o _ _ hc e _=>k b o (λz=>hc (by simp [z])) e) (λb o _ _ hc e _=>⟨o.slots,k b o (λz=>hc (by simp [z])) e⟩) (λ_ _ _ _ n=>n)
   (λb o hc e=>⟨o,k b o (λz=>hc (by simp [z])) e⟩) (λ_ _ e=>e) (λ_ _ _ e=>e) (λb ps e=>⟨#[],by rw[e];simp⟩) (λm hm=>?_) (λb u e=>?_) I.bare
 . have e:b=it:=by simpa using hb
   subst e
   exact⟨h1,hL,h2,h3⟩
 . obtain⟨o,es,ep,ho,r⟩:=hm
   exact⟨o,es,ep,k _ o (Ne.symm hL) ho,r⟩
 . refine(I.hok b u e).stay (λc v hc q=>k c v ?_ q) (λ_ q=>q) λ_ _ q=>q
   rcases hc with z | z
   . rw[z];exact nit b u e
   . exact nit c _ z
theorem qy.tok (I:qy X pins σ H s) (t:Nat):qy X pins σ H {s with toks:=t}:=I.un (h':=s.heap) (t':=t) Un.refl I.hok
theorem qy.kept {t':Nat} (I:qy X pins σ H s) (k:∀b u,s.heap.get? b=some u->h'.get? b=some u):qy X pins σ H {s with heap:=h',toks:=t'}:=I.un (Un.kept k) (I.hok.kept k)
theorem qy.laid {a:Addr} {o:HO} {t':Nat} (I:qy X pins σ H s) (k:∀b u,s.heap.get? b=some u->h'.get? b=some u) (hp:s.heap.objs.size<=a) (new:qX X.prog X.w (upd H a o) h' a o):
   qy X pins σ (upd H a o) {s with heap:=h',toks:=t'}:=I.un (Un.laid k hp (I.hok.fresh hp)) (I.hok.laid k hp new)
theorem qy.write {x e:Addr} {o:HO} {t':Nat} (I:qy X pins σ H s) (mu:Go (H x)) (he:e=x\/H e=some (.own x)) (k:∀b u,b≠e->s.heap.get? b=some u->h'.get? b=some u) (heo:∃u,h'.get? e=some u)
   (new:qX X.prog X.w (upd H x o) h' x o):qy X pins σ (upd H x o) {s with heap:=h',toks:=t'}:=I.un (Un.write mu he k heo) (I.hok.write mu he k heo new)
theorem qy.pins_of {pins':List (Addr×Obj)} (I:qy X pins σ H s) (h:∀p∈pins',s.heap.get? p.1=some p.2/\H p.1=none/\p.1≠X.env.locals/\p.1∉X.fs/\∀v,p.2.data≠.cell v):qy X pins' σ H s:=
 ⟨I.ok,I.os,I.bare,I.base,I.loc,I.cell,I.free,I.freeC,λp hp=>(List.mem_append.mp hp).elim (λz=>I.pin p (List.mem_append_left _ z)) (h p),I.hok,I.len⟩
theorem WG {N:List Str} (hN:N.Nodup) {i j:Nat} {x:Str} (a:N[i]?=some x) (b:N[j]?=some x):i=j:=by
 obtain⟨h1,e1⟩:=List.getElem?_eq_some_iff.mp a
 obtain⟨h2,e2⟩:=List.getElem?_eq_some_iff.mp b
 exact(List.getElem_inj hN).mp (e1.trans e2.symm)
theorem YO {M:Model} {A:Around} {E:Value->Shared->Prop} {i:Nat} {x:Str} {v:V} {u:Value} {Q:Unit->Shared->Prop} (I:qy X pins σ H s) (hN:X.N.Nodup) (hi:X.N[i]?=some x) (hx:Gp X.env.scope x) (r:qI v u)
   (h:∀s',qy X pins (σ.set i (some v)) H s'->(∃a,Heap.SameBut a s.heap s'.heap/\(a=X.env.locals\/X.env.cells.lookup x=some a))->Q () s') (hf:X.fn x=true\/X.env.scope.names.lookup x=some .local:=by first | exact .inl rfl | exact .inr rfl | assumption):wpAny M A (storeName X.env x u) Q E s:=by
 obtain⟨m,hn,hl⟩:=id I.loc
 have hcls:(X.env.scope.kind==.class || (X.env.scope.kind==.module&&X.env.locals != X.env.globals))=false:=by rw[I.ok.kind];rfl
 have hiσ:i < σ.length:=by rw[I.len];exact(List.getElem?_eq_some_iff.mp hi).1
 have cne:=I.cne
 have tracked:∀{a:Addr} {h':Heap},(∃o,s.heap.get? a=some o/\H a=none)->Heap.SameBut a s.heap h'->JM X.prog X.w H h':=λ{a h'} ha hs b ob e=>by
   obtain⟨_,_,hfree⟩:=ha
   refine(I.hok b ob e).stay (λc w' hc q=>(hs.2 c ?_).trans q) (λ_ q=>q) λ_ _ q=>q
   rintro rfl
   rcases hc with rfl | hc
   . rw[hfree]at e;cases e
   . rw[hfree]at hc;cases hc
 rcases hx with hk | hk
 . refine wpAny_storeName_local hk hn (λh' hn' hs=>?_) hcls
   obtain⟨oL,_,_,hoL,_⟩:=id hn
   refine h _ ⟨I.ok,I.os,I.bare,⟨λb o e n hb hx=>?_,λb o e n hb hx=>?_,I.base.free,λb o e hx=>?_,I.base.tups,I.base.frzs,I.base.tbls⟩,⟨_,hn',λj y v' e1 e2 e3=>?_⟩,λy c e=>?_,I.free,I.freeC,λp hp=>?_,tracked ⟨oL,hoL,I.free⟩ hs,by simpa using I.len⟩ ⟨_,hs,.inl rfl⟩
   . exact(hs.2 b (Nat.ne_of_lt (Nat.lt_of_lt_of_le (Heap.lt_size e) I.ok.above))).trans (I.base.keep b o e n hb hx)
   . obtain⟨sl,e1⟩:=I.base.slot b o e n hb hx
     exact⟨sl,(hs.2 b (Nat.ne_of_lt (Nat.lt_of_lt_of_le (Heap.lt_size e) I.ok.above))).trans e1⟩
   . obtain⟨o',e1⟩:=I.base.there b o e hx
     exact⟨o',(hs.2 b (Nat.ne_of_lt (Nat.lt_of_lt_of_le (Heap.lt_size e) I.ok.above))).trans e1⟩
   . by_cases hj:j=i
     . subst hj
       rw[hi]at e1;cases e1
       rw[List.getElem?_set_self hiσ]at e2
       cases e2
       exact⟨u,r,.inl ⟨hk,by simp⟩⟩
     . rw[List.getElem?_set_ne (Ne.symm hj)]at e2
       obtain⟨u',r',q⟩:=hl j y v' e1 e2 e3
       refine⟨u',r',?_⟩
       rcases q with ⟨k,e⟩ | ⟨k,c,e,z⟩
       . refine .inl ⟨k,?_⟩
         have:y≠x:=λe=>hj (WG hN e1 (e▸hi))
         simp [this,e]
       . exact .inr ⟨k,c,e,z.sameBut hs (cne y c e)⟩
   . obtain⟨w',z⟩:=I.cell y c e
     exact⟨w',z.sameBut hs (cne y c e)⟩
   . obtain⟨e,n,ne,nf,d⟩:=I.pin p hp
     exact⟨(hs.2 p.1 ne).trans e,n,ne,nf,d⟩
 . have hfn:X.fn x=true:=by
     rcases hf with z | z
     . exact z
     . rw[z]at hk;cases hk
   obtain⟨c,hc⟩:=I.ok.has x (.inl hk)
   obtain⟨w',z⟩:=I.cell x c hc
   refine wpAny_storeName_cell I.ok.kind hk hc z (λh' hc' hs=>?_)
   obtain⟨oc,hoc,hocd⟩:=id z
   refine h {s with heap:=h'} ⟨I.ok,I.os,I.bare,⟨λb o e n hb hx=>?_,λb o e n hb hx=>?_,I.base.free,λb o e hx=>?_,I.base.tups,I.base.frzs,I.base.tbls⟩,⟨m,hn.sameBut hs (Ne.symm (cne x c hc)),λj y v' e1 e2 e3=>?_⟩,λy c' e=>?_,I.free,I.freeC,λp hp=>?_,tracked ⟨oc,hoc,I.freeC x c hc⟩ hs,by simpa using I.len⟩ ⟨c,hs,.inr hc⟩
   . exact(hs.2 b (Nat.ne_of_lt (Nat.lt_of_lt_of_le (Heap.lt_size e) (I.ok.cab x c hfn hc)))).trans (I.base.keep b o e n hb hx)
   . obtain⟨sl,e1⟩:=I.base.slot b o e n hb hx
     exact⟨sl,(hs.2 b (Nat.ne_of_lt (Nat.lt_of_lt_of_le (Heap.lt_size e) (I.ok.cab x c hfn hc)))).trans e1⟩
   . obtain⟨o',e1⟩:=I.base.there b o e hx
     exact⟨o',(hs.2 b (Nat.ne_of_lt (Nat.lt_of_lt_of_le (Heap.lt_size e) (I.ok.cab x c hfn hc)))).trans e1⟩
   . by_cases hj:j=i
     . subst hj
       rw[hi]at e1;cases e1
       rw[List.getElem?_set_self hiσ]at e2
       cases e2
       exact⟨u,r,.inr ⟨.inl hk,c,hc,hc'⟩⟩
     . rw[List.getElem?_set_ne (Ne.symm hj)]at e2
       obtain⟨u',r',q⟩:=hl j y v' e1 e2 e3
       refine⟨u',r',?_⟩
       rcases q with q | ⟨k,c',e,z'⟩
       . exact .inl q
       . refine .inr ⟨k,c',e,z'.sameBut hs ?_⟩
         rintro rfl
         exact hj (WG hN e1 (I.ok.inj _ _ _ e hc▸hi))
   . by_cases hcc:c'=c
     . subst hcc;exact⟨_,hc'⟩
     . obtain⟨w2,z2⟩:=I.cell y c' e
       exact⟨w2,z2.sameBut hs hcc⟩
   . obtain⟨e,n,ne,nf,d⟩:=I.pin p hp
     refine⟨(hs.2 p.1 ?_).trans e,n,ne,nf,d⟩
     intro q
     rw[q,hoc]at e
     have q':oc=p.2:=Option.some.inj e
     exact d w' (by rw[<-q'];exact hocd)
theorem zG {M:Model} {A:Around} {E:Value->Shared->Prop} {i:Nat} {x:Str} {v:V} {u:Value} {Q:Unit->Shared->Prop} (I:qy X pins σ H s) (hN:X.N.Nodup) (hi:X.N[i]?=some x) (hx:Gp X.env.scope x) (r:qI v u)
   (h:∀s',qy X pins (σ.set i (some v)) H s'->Q () s') (hf:X.fn x=true\/X.env.scope.names.lookup x=some .local:=by first | exact .inl rfl | exact .inr rfl | assumption):wpAny M A (storeName X.env x u) Q E s:=
 YO I hN hi hx r (λs' I' _=>h s' I') hf
theorem qy.call' {s':Shared} {ch:List Addr} (I:qy X pins σ H s) (ho:s'.os=s.os) (u:Un (xa X.stack) ch H H' s.heap s'.heap) (hok:JM X.prog X.w H' s'.heap) (hg:AllBare s'.gens)
   (hch:∀b∈ch,(b∈X.ex\/X.s₀.heap.objs.size<=b)/\b≠X.env.locals/\(∀x c,X.env.cells.lookup x=some c->c≠b)/\∀p∈X.pn++pins,p.1≠b):qy X pins σ H' s':=by
 obtain⟨h',g',d',t',o'⟩:=s'
 have e:o'=s.os:=ho
 subst e
 exact I.call (g':=g') (t':=t') (d':=d') u hok hg hch
end
abbrev XK:=Value->Option Addr->Hp->Prop
abbrev St:=List (Option V)
abbrev VK:=V->Hp->Prop
abbrev TE:=St->Hp->VK->Prop
abbrev TT:=St->Hp->(Bool->Hp->Prop)->Prop
abbrev TA:=St->Hp->(List V->Hp->Prop)->Prop
structure Ji where
 nx:St->Hp->Prop
 rt:VK
 bk:St->Hp->Prop:=λ_ _=>False
 ct:St->Hp->Prop:=λ_ _=>False
abbrev TS:=Ji->St->Hp->Prop
def EP (X:Cx) (pins:List (Addr×Obj)) (σ:St) (Q:VK) (u:Value) (s':Shared):Prop:=∃v H',qy X pins σ H' s'/\qI v u/\Q v H'
def TP (X:Cx) (pins:List (Addr×Obj)) (σ:St) (Q:Bool->Hp->Prop) (b:Bool) (s':Shared):Prop:=∃H',qy X pins σ H' s'/\Q b H'
def AP (X:Cx) (pins:List (Addr×Obj)) (σ:St) (Q:List V->Hp->Prop) (us:List Value) (s':Shared):Prop:=∃vs H',qy X pins σ H' s'/\qF vs us/\Q vs H'
def SP (X:Cx) (pins:List (Addr×Obj)) (D:Ji) (f:Flow) (s':Shared):Prop:=
 match f with
 | .next=>∃σ' H',qy X pins σ' H' s'/\D.nx σ' H'
 | .brk=>∃σ' H',qy X pins σ' H' s'/\D.bk σ' H'
 | .cont=>∃σ' H',qy X pins σ' H' s'/\D.ct σ' H'
 | .ret u=>∃v σ' H',qy X pins σ' H' s'/\qI v u/\D.rt v H'
def PE (X:Cx) (e:Expr) (t:TE):Prop:=
 ∀(pins:List (Addr×Obj)) (s:Shared) (σ:St) (H:Hp) (Q:VK),qy X pins σ H s->t σ H Q->wpAny (model X.prog X.w) X.A (eval e X.env) (EP X pins σ Q) X.xe s
@[irreducible] def JE (X:Cx) (e:Expr) (t:TE):Prop:=PE X e t
theorem JE.of {X:Cx} {e:Expr} {t:TE} (h:PE X e t):JE X e t:=by unfold JE;exact h
theorem JE.to {X:Cx} {e:Expr} {t:TE} (h:JE X e t):PE X e t:=by unfold JE at h;exact h
def PT (X:Cx) (e:Expr) (t:TT):Prop:=
 ∀(pins:List (Addr×Obj)) (s:Shared) (σ:St) (H:Hp) (Q:Bool->Hp->Prop),qy X pins σ H s->t σ H Q->wpAny (model X.prog X.w) X.A (isTrue e X.env (eval e X.env)) (TP X pins σ Q) X.xe s
@[irreducible] def JT (X:Cx) (e:Expr) (t:TT):Prop:=PT X e t
theorem JT.of {X:Cx} {e:Expr} {t:TT} (h:PT X e t):JT X e t:=by unfold JT;exact h
theorem JT.to {X:Cx} {e:Expr} {t:TT} (h:JT X e t):PT X e t:=by unfold JT at h;exact h
def PW (X:Cx) (e:Expr) (t:TT):Prop:=
 ∀(whole:Sem Value) (pins:List (Addr×Obj)) (s:Shared) (σ:St) (H:Hp) (Q:Bool->Hp->Prop),qy X pins σ H s->t σ H Q->wpAny (model X.prog X.w) X.A (isTrue e X.env whole) (TP X pins σ Q) X.xe s
theorem PW.pt {X:Cx} {e:Expr} {t:TT} (h:PW X e t):PT X e t:=h _
@[irreducible] def JW (X:Cx) (e:Expr) (t:TT):Prop:=PW X e t
theorem JW.of {X:Cx} {e:Expr} {t:TT} (h:PW X e t):JW X e t:=by unfold JW;exact h
theorem JW.to {X:Cx} {e:Expr} {t:TT} (h:JW X e t):PW X e t:=by unfold JW at h;exact h
theorem JW.pt {X:Cx} {e:Expr} {t:TT} (h:JW X e t):JT X e t:=.of h.to.pt
def PA (X:Cx) (es:List Expr) (t:TA):Prop:=
 ∀(pos:Pos) (pins:List (Addr×Obj)) (s:Shared) (σ:St) (H:Hp) (Q:List V->Hp->Prop),qy X pins σ H s->t σ H Q->wpAny (model X.prog X.w) X.A (spliced (backTo pos (starEach es X.env))) (AP X pins σ Q) X.xe s
@[irreducible] def JA (X:Cx) (es:List Expr) (t:TA):Prop:=PA X es t
theorem JA.of {X:Cx} {es:List Expr} {t:TA} (h:PA X es t):JA X es t:=by unfold JA;exact h
theorem JA.to {X:Cx} {es:List Expr} {t:TA} (h:JA X es t):PA X es t:=by unfold JA at h;exact h
def PS (X:Cx) (st:Stmt) (t:TS):Prop:=
 ∀(pins:List (Addr×Obj)) (s:Shared) (σ:St) (H:Hp) (D:Ji),qy X pins σ H s->t D σ H->wpAny (model X.prog X.w) X.A (exec st X.env) (SP X pins D) X.xe s
@[irreducible] def JS (X:Cx) (st:Stmt) (t:TS):Prop:=PS X st t
theorem JS.of {X:Cx} {st:Stmt} {t:TS} (h:PS X st t):JS X st t:=by unfold JS;exact h
theorem JS.to {X:Cx} {st:Stmt} {t:TS} (h:JS X st t):PS X st t:=by unfold JS at h;exact h
def Kb (X:Cx) (st:List Stmt) (t:TS):Prop:=
 ∀(pins:List (Addr×Obj)) (s:Shared) (σ:St) (H:Hp) (D:Ji),qy X pins σ H s->t D σ H->wpAny (model X.prog X.w) X.A (execs st X.env) (SP X pins D) X.xe s
@[irreducible] def X9 (X:Cx) (st:List Stmt) (t:TS):Prop:=Kb X st t
theorem X9.of {X:Cx} {st:List Stmt} {t:TS} (h:Kb X st t):X9 X st t:=by unfold X9;exact h
theorem X9.to {X:Cx} {st:List Stmt} {t:TS} (h:X9 X st t):Kb X st t:=by unfold X9 at h;exact h
theorem jd {α:Type} {t:Sem α} {Q Q':α->Shared->Prop} {M:Model} {A:Around} {E:Value->Shared->Prop} {s:Shared} (h:wpAny M A t Q E s) (hQ:∀a s,Q a s->Q' a s):wpAny M A t Q' E s:=wpAny_mono h hQ λ_ _ x=>x
end L2
namespace L2
open PySem PySem.Spec PyProof.Rows
section
variable {X:Cx}
def qJ (i:Nat):TE:=λσ H Q=>∃v,σ[i]?=some (some v)/\Q v H
def tC (v:V):TE:=λ_ H Q=>Q v H
theorem Ku {i:Nat} {x:Str} {pos:Pos} (hN:X.N[i]?=some x) (hv:Gx X.env.scope x) (hd:(x==("__debug__":Str))=false:=by decide) (hcd:(x==("__classdict__":Str))=false:=by decide):PE X (.Name x pos) (qJ i):=by
 intro pins s σ H Q I h
 obtain⟨v,e,h⟩:=h
 obtain⟨m,hn,hl⟩:=I.loc
 obtain⟨u,r,l⟩:=hl i x v hN e hv
 have fin:EP X pins σ Q u s:=⟨v,H,I,r,h⟩
 rcases l with ⟨hk,hm⟩ | ⟨hk,c,hc,hcell⟩
 . exact wpAny_Name (wpAny_loadName_local I.ok.kind hk hn hm fin) hd
 . rcases hk with hk | hk
   . exact wpAny_Name (wpAny_loadName_cell I.ok.kind hk hc hcell fin) hd
   . exact wpAny_Name (wpAny_loadName_free I.ok.kind hk hc hcell fin hcd) hd
theorem qj {i j pos}:JE X (.Constant (.int i) j pos) (tC (.int i)):=.of (by
 exact λ_ _ _ H _ I h=>wpAny_Constant_int ⟨.int i,H,I.tok _,⟨_,rfl⟩,h⟩)
theorem j3 {b j pos}:JE X (.Constant (.bool b) j pos) (tC (.bl b)):=.of (by
 exact λ_ _ _ H _ I h=>Constant_bool ⟨.bl b,H,I,rfl,h⟩)
theorem qT {x j pos}:JE X (.Constant (.str x) j pos) (tC (.str x)):=.of (by
 exact λ_ _ _ H _ I h=>Calls.Constant_str ⟨.str x,H,I.tok _,⟨_,rfl⟩,h⟩)
def Gl (X:Cx) (x:Str):Prop:=X.env.kindOf x=some .globalImplicit
theorem XN {E:Value->Shared->Prop} {pins:List (Addr×Obj)} {s:Shared} {σ:St} {H:Hp} {x:Str} {u:Value} {pos:Pos} {Q:Value->Shared->Prop} (I:qy X pins σ H s) (hg:Gl X x) (hm:X.mg x=some u) (h:Q u s)
   (hd:(x==("__debug__":Str))=false:=by decide):wpAny (model X.prog X.w) X.A (eval (.Name x pos) X.env) Q E s:=
 Calls.Name_function_global I.ok.kind hg (Calls.loadGlobal_global (by rw[I.ok.glob];exact I.mod.glob.keeps I.bk) hm h) hd
theorem QR {E:Value->Shared->Prop} {pins:List (Addr×Obj)} {s:Shared} {σ:St} {H:Hp} {x:Str} {u:Value} {pos:Pos} {Q:Value->Shared->Prop} (I:qy X pins σ H s) (hg:Gl X x) (hm:X.mg x=none) (hv:bootBuiltins x=some u) (h:Q u s)
   (hn:x≠"__name__":=by decide) (hd:(x==("__debug__":Str))=false:=by decide):wpAny (model X.prog X.w) X.A (eval (.Name x pos) X.env) Q E s:=by
 obtain⟨mb,h1,h2⟩:=I.mod.blt
 exact Calls.Name_function_global I.ok.kind hg (Calls.loadGlobal_builtin (by rw[I.ok.glob];exact I.mod.glob.keeps I.bk) hm (by rw[I.ok.blt];exact h1.keeps I.bk) ((h2 x hn).trans hv) h) hd
theorem JX {x:Str} {v:V} {u:Value} {pos:Pos} (hg:Gl X x) (hm:X.mg x=some u) (r:qI v u) (hd:(x==("__debug__":Str))=false:=by decide):JE X (.Name x pos) (tC v):=.of (by
 exact λ_ _ _ H _ I h=>XN I hg hm ⟨v,H,I,r,h⟩ hd)
theorem Q8 {x:Str} {v:V} {u:Value} {pos:Pos} (hg:Gl X x) (hm:X.mg x=none) (hv:bootBuiltins x=some u) (r:qI v u) (hn:x≠"__name__":=by decide) (hd:(x==("__debug__":Str))=false:=by decide):JE X (.Name x pos) (tC v):=.of (by
 exact λ_ _ _ H _ I h=>QR I hg hm hv ⟨v,H,I,r,h⟩ hn hd)
variable {a b:Expr} {ta tb:TE} {pos:Pos}
def PC (X:Cx) (op:CmpOp) (a b:Expr) (t:TE):Prop:=
 ∀(pins:List (Addr×Obj)) (s:Shared) (σ:St) (H:Hp) (Q:VK),qy X pins σ H s->t σ H Q->
   wpAny (model X.prog X.w) X.A (eval a X.env) (λv s₁=>wpAny (model X.prog X.w) X.A (eval b X.env) (λu s₂=>wpAny (model X.prog X.w) X.A (compareOp op v u) (EP X pins σ Q) X.xe s₂) X.xe s₁) X.xe s
@[irreducible] def JC (X:Cx) (op:CmpOp) (a b:Expr) (t:TE):Prop:=PC X op a b t
theorem JC.of {X:Cx} {op:CmpOp} {a b:Expr} {t:TE} (h:PC X op a b t):JC X op a b t:=by unfold JC;exact h
theorem JC.to {X:Cx} {op:CmpOp} {a b:Expr} {t:TE} (h:JC X op a b t):PC X op a b t:=by unfold JC at h;exact h
def tB (t:TE):TT:=λσ H Q=>t σ H λx H1=>∃c,x=.bl c/\Q c H1
theorem j1 {op:CmpOp} {t:TE} (h:JC X op a b t) (h1:behindInMarks op b=false:=by first | exact nobehind _ (by decide) (by decide) | rfl):JT X (.Compare a [op] [b] pos) (tB t):=.of (by
 have h:=h.to
 intro pins s σ H Q I hw
 refine wpAny_isTrue_Compare1 (jd (h pins s σ H _ I hw) λv s1 h1=>jd h1 λu s2 h2=>jd h2 λc s3 ⟨x,H1,I1,r1,q1⟩=>?_) h1
 obtain⟨d,rfl,q⟩:=q1
 cases r1
 exact wpAny_truthy_bool ⟨H1,I1,q⟩)
theorem Qb {e:Expr} {t:TE} (h:JE X e t) (he:∀whole,isTrue e X.env whole=(do let v <-whole;standAt e.pos;holding [v] (truthy v)):=by intro _;rfl):JT X e (tB t):=.of (by
 have h:=h.to
 intro pins s σ H Q I hw
 refine isTrue_plain (jd (h pins s σ H _ I hw) λv s1 ⟨x,H1,I1,r1,q1⟩=>?_) (he _)
 obtain⟨d,rfl,q⟩:=q1
 cases r1
 exact wpAny_truthy_bool ⟨H1,I1,q⟩)
variable {tA tB':TT} {rest:List Expr}
def xL (t u:TT):TT:=λσ H Q=>t σ H λc H1=>if c=true then u σ H1 Q else Q false H1
def tOr (t u:TT):TT:=λσ H Q=>t σ H λc H1=>if c=true then Q true H1 else u σ H1 Q
def Np (t:TT):TT:=λσ H Q=>t σ H λc H1=>Q (!c) H1
theorem jO (ha:JT X a tA):JW X (.BoolOp .And [a] pos) tA:=.of (by
 have ha:=ha.to
 intro wh pins s σ H Q I h
 refine isTrue_and (jd (ha pins s σ H Q I h) λc s1 e=>?_)
 cases c with
 | true=>exact isTrue_and_nil e
 | false=>exact e)
theorem Qu (ha:JT X a tA):JW X (.BoolOp .Or [a] pos) tA:=.of (by
 have ha:=ha.to
 intro wh pins s σ H Q I h
 refine isTrue_or (jd (ha pins s σ H Q I h) λc s1 e=>?_)
 cases c with
 | false=>exact isTrue_or_nil e
 | true=>exact e)
theorem jZ (ha:JT X a tA) (hb:JW X (.BoolOp .And (b::rest) pos) tB'):JW X (.BoolOp .And (a::b::rest) pos) (xL tA tB'):=.of (by
 have ha:=ha.to
 have hb:=hb.to
 intro wh pins s σ H Q I h
 refine isTrue_and (jd (ha pins s σ H _ I h) λc s1 ⟨H1,I1,q1⟩=>?_)
 cases c with
 | true=>exact hb wh pins s1 σ H1 Q I1 q1
 | false=>exact⟨H1,I1,q1⟩)
theorem Jm (ha:JT X a tA) (hb:JW X (.BoolOp .Or (b::rest) pos) tB'):JW X (.BoolOp .Or (a::b::rest) pos) (tOr tA tB'):=.of (by
 have ha:=ha.to
 have hb:=hb.to
 intro wh pins s σ H Q I h
 refine isTrue_or (jd (ha pins s σ H _ I h) λc s1 ⟨H1,I1,q1⟩=>?_)
 cases c with
 | true=>exact⟨H1,I1,q1⟩
 | false=>exact hb wh pins s1 σ H1 Q I1 q1)
theorem JD (ha:JT X a tA):JT X (.UnaryOp .Not a pos) (Np tA):=.of (by
 have ha:=ha.to
 intro pins s σ H Q I h
 exact isTrue_not (ha pins s σ H (λc H1=>Q (!c) H1) I h))
def G0 (ta tb:TE):TE:=λσ H Q=>ta σ H λx H1=>∃c,x=.bl c/\if c=true then tb σ H1 Q else Q (.bl false) H1
def GK (ta:TE):TE:=λσ H Q=>ta σ H λx H1=>∃c,x=.bl c/\Q (.bl (!c)) H1
theorem Yj {op} {t:TE} (h:JE X a t):JE X (.BoolOp op [a] pos) t:=.of (by
 have h:=h.to
 exact λpins s σ H Q I hw=>BoolOp_one (h pins s σ H Q I hw))
theorem J8 (ha:JE X a ta) (hb:JE X (.BoolOp .And (b::rest) pos) tb):JE X (.BoolOp .And (a::b::rest) pos) (G0 ta tb):=.of (by
 have ha:=ha.to
 have hb:=hb.to
 intro pins s σ H Q I h
 refine BoolOp_and (jd (ha pins s σ H _ I h) λv s1 ⟨x,H1,I1,r1,q1⟩=>?_)
 obtain⟨c,rfl,q1⟩:=q1
 cases r1
 refine wpAny_truthy_bool ?_
 cases c with
 | true=>exact hb pins s1 σ H1 Q I1 q1
 | false=>exact⟨.bl false,H1,I1,rfl,q1⟩)
theorem K0 (ha:JE X a ta):JE X (.UnaryOp .Not a pos) (GK ta):=.of (by
 have ha:=ha.to
 intro pins s σ H Q I h
 refine UnaryOp_ (jd (ha pins s σ H _ I h) λv s1 ⟨x,H1,I1,r1,q1⟩=>?_)
 obtain⟨c,rfl,q1⟩:=q1
 cases r1
 exact not_of (wpAny_truthy_bool ⟨.bl (!c),H1,I1,rfl,q1⟩))
end
end L2
namespace L2
open PySem PySem.Spec PyProof.Rows
def SqL (K:PySem.W.Frag) (H:Hp) (a:Addr) (xs:List V):Prop:=
 Rd H a (.lst xs)\/
   ∃(o:Obj) (its:Array Value) (n:Nat),K.lookup a=some o/\o.cls=.type "list"/\o.dict=none/\o.data=.seq its n/\its.size<=sizeLine/\qF xs its.toList
def zE (K:PySem.W.Frag) (H:Hp) (a:Addr) (xs:List V):Prop:=
 Rd H a (.tup xs)\/
   ∃(o:Obj) (its:Array Value) (n:Nat),K.lookup a=some o/\o.cls=.type "tuple"/\o.data=.seq its n/\its.size<=sizeLine/\qF xs its.toList
def N7:Value->Option V
 | .none=>some .non
 | .bool b=>some (.bl b)
 | .int i _=>some (.int i)
 | .str x _=>some (.str x)
 | .bytes b _=>some (.byt b)
 | .float b _=>some (.flt b)
 | .ref a=>some (.ref a)
 | .type n=>some (.ty n)
 | _=>none
theorem qI.abs {x:V} {u:Value} (r:qI x u):N7 u=some x:=by
 cases x with
 | non=>cases r;rfl
 | bl _=>cases r;rfl
 | int _=>obtain⟨t,rfl⟩:=r;rfl
 | str _=>obtain⟨t,rfl⟩:=r;rfl
 | byt _=>obtain⟨t,rfl⟩:=r;rfl
 | flt _=>obtain⟨t,rfl⟩:=r;rfl
 | ref _=>cases r;rfl
 | ty _=>cases r;rfl
theorem qI.inj {x y:V} {u:Value} (r:qI x u) (q:qI y u):x=y:=Option.some.inj (r.abs.symm.trans q.abs)
theorem qF.inj:∀{xs ys:List V} {us:List Value},qF xs us->qF ys us->xs=ys
 | _,_,_,.nil,.nil=>rfl
 | _,_,_,.cons r t,.cons r' t'=>by rw[r.inj r',qF.inj t t']
section
variable {X:Cx} {pins:List (Addr×Obj)} {σ:St} {H:Hp} {s:Shared} {a:Addr} {xs ys:List V}
theorem SqL.of {K:PySem.W.Frag} (h:H a=some (.lst xs)):SqL K H a xs:=.inl (.inl h)
theorem zE.of {K:PySem.W.Frag} (h:H a=some (.tup xs)):zE K H a xs:=.inl (.inl h)
theorem qy.list (I:qy X pins σ H s) (h:SqL X.K H a xs):∃its:List Value,qF xs its/\PlainL s.heap a its.toArray/\xs.length<=sizeLine:=by
 rcases h with h | ⟨o,its,n,hk,hc,hd,hs,hz,r⟩
 . obtain⟨z,its,n,r,e⟩:=h.ok I.hok
   exact⟨its,r,⟨_,n,e,rfl,rfl,rfl⟩,z⟩
 . refine⟨its.toList,r,⟨o,n,I.kIn a o hk,hc,hd,by simpa using hs⟩,?_⟩
   have e:=r.length
   simp only[Array.length_toList]at e
   omega
theorem qy.tuple (I:qy X pins σ H s) (h:zE X.K H a xs):∃its:List Value,qF xs its/\IsTup s.heap a its.toArray/\xs.length<=sizeLine:=by
 rcases h with h | ⟨o,its,n,hk,hc,hs,hz,r⟩
 . obtain⟨z,its,r,p⟩:=h.ok I.hok
   exact⟨its,r,p,z⟩
 . refine⟨its.toList,r,⟨o,I.kIn a o hk,hc,n,by simpa using hs⟩,?_⟩
   have e:=r.length
   simp only[Array.length_toList]at e
   omega
theorem qy.list_inj (I:qy X pins σ H s) (h:SqL X.K H a xs) (h':SqL X.K H a ys):xs=ys:=by
 obtain⟨its,r,⟨o,n,e,_,_,d⟩,_⟩:=I.list h
 obtain⟨its',r',⟨o',n',e',_,_,d'⟩,_⟩:=I.list h'
 rw[e]at e';cases e'
 rw[d]at d'
 injection d' with d1 _
 have:its=its':=by simpa using congrArg Array.toList d1
 subst this
 exact r.inj r'
theorem qy.tuple_inj (I:qy X pins σ H s) (h:zE X.K H a xs) (h':zE X.K H a ys):xs=ys:=by
 obtain⟨its,r,⟨o,e,_,n,d⟩,_⟩:=I.tuple h
 obtain⟨its',r',⟨o',e',_,n',d'⟩,_⟩:=I.tuple h'
 rw[e]at e';cases e'
 rw[d]at d'
 injection d' with d1 _
 have:its=its':=by simpa using congrArg Array.toList d1
 subst this
 exact r.inj r'
end
abbrev Cx.wish (X:Cx) (E:Value->Shared->Prop):Cx:={X with xe:=E}
abbrev Cx.nox (X:Cx):Cx:=X.wish λ_ _=>False
theorem Cx.Ok.wish {X:Cx} (ok:X.Ok) (E:Value->Shared->Prop):(X.wish E).Ok:=
 ⟨ok.mod,ok.kind,ok.glob,ok.blt,ok.above,ok.inj,ok.has,ok.cab,ok.hd,ok.frames,ok.stk,ok.exf,ok.bs,ok.bsz,ok.noex,ok.exfs,ok.funs,ok.frf⟩
theorem Cx.Ok.unwish {X:Cx} {E:Value->Shared->Prop} (ok:(X.wish E).Ok):X.Ok:=
 ⟨ok.mod,ok.kind,ok.glob,ok.blt,ok.above,ok.inj,ok.has,ok.cab,ok.hd,ok.frames,ok.stk,ok.exf,ok.bs,ok.bsz,ok.noex,ok.exfs,ok.funs,ok.frf⟩
section
variable {X:Cx} {pins:List (Addr×Obj)} {σ:St} {H:Hp} {s:Shared} {E:Value->Shared->Prop}
theorem qy.wish (I:qy X pins σ H s) (E:Value->Shared->Prop):qy (X.wish E) pins σ H s:=⟨I.ok.wish E,I.os,I.bare,I.base,I.loc,I.cell,I.free,I.freeC,I.pin,I.hok,I.len⟩
theorem qy.unwish (I:qy (X.wish E) pins σ H s):qy X pins σ H s:=⟨I.ok.unwish,I.os,I.bare,I.base,I.loc,I.cell,I.free,I.freeC,I.pin,I.hok,I.len⟩
theorem SP.unwish {D:Ji} {f:Flow} {s':Shared} (h:SP (X.wish E) pins D f s'):SP X pins D f s':=by
 cases f with
 | next=>obtain⟨σ',H',I,q⟩:=h;exact⟨σ',H',I.unwish,q⟩
 | brk=>obtain⟨σ',H',I,q⟩:=h;exact⟨σ',H',I.unwish,q⟩
 | cont=>obtain⟨σ',H',I,q⟩:=h;exact⟨σ',H',I.unwish,q⟩
 | ret u=>obtain⟨v,σ',H',I,r,q⟩:=h;exact⟨v,σ',H',I.unwish,r,q⟩
theorem Kb.nox {st:List Stmt} {t:TS} (h:Kb X.nox st t):Kb X st t:=λpins s σ H D I hw=>
 wpAny_mono (h pins s σ H D (I.wish _) hw) (λ_ _ q=>q.unwish) λ_ _ z=>False.elim z
end
section
variable {X:Cx} {st:Stmt} {rest:List Stmt} {t u:TS} {e:Expr} {te:TE} {pos:Pos}
def VW:TS:=λD σ H=>D.nx σ H
def Ke (t u:TS):TS:=λD σ H=>t {D with nx:=u D} σ H
theorem qE:X9 X [] VW:=.of (by
 exact λ_ _ σ H _ I h=>wpAny_execs_nil ⟨σ,H,I,h⟩)
theorem qe (h1:JS X st t) (h2:X9 X rest u):X9 X (st::rest) (Ke t u):=.of (by
 have h1:=h1.to
 have h2:=h2.to
 intro pins s σ H D I h
 refine wpAny_execs_cons (jd (h1 pins s σ H {D with nx:=u D} I h) λf s1 q=>?_)
 cases f with
 | next=>
   obtain⟨σ',H',I',q⟩:=q
   exact h2 pins s1 σ' H' D I' q
 | ret v=>exact q
 | brk=>exact q
 | cont=>exact q)
theorem qh (h1:JS X st t):X9 X [st] t:=.of (by
 have h1:=h1.to
 intro pins s σ H D I h
 refine wpAny_execs_cons (jd (h1 pins s σ H D I h) λf s1 q=>?_)
 cases f with
 | next=>exact wpAny_execs_nil q
 | ret v=>exact q
 | brk=>exact q
 | cont=>exact q)
theorem qy.quiet {pins:List (Addr×Obj)} {σ:St} {H:Hp} {s:Shared} (I:qy X pins σ H s):interactive X.env=false:=by simp [interactive,I.ok.kind]
def GY (te:TE):TS:=λD σ H=>te σ H λ_ H1=>D.nx σ H1
theorem jT (he:JE X e te) (hs:swapsWith e none pos.line X.env=pure false:=by rfl):JS X (.Expr e pos) (GY te):=.of (by
 have he:=he.to
 intro pins s σ H D I h
 exact wpAny_Expr_any (jd (he pins s σ H _ I h) λv s1 ⟨x,H1,I1,r1,q1⟩=>⟨σ,H1,I1,q1⟩) I.quiet hs)
def No (te:TE):TS:=λD σ H=>te σ H D.rt
theorem qB (he:JE X e te):JS X (.Return (some e) pos) (No te):=.of (by
 have he:=he.to
 intro pins s σ H D I h
 exact wpAny_Return_some (jd (he pins s σ H _ I h) λv s1 ⟨x,H1,I1,r1,q1⟩=>⟨x,σ,H1,I1,r1,q1⟩))
def xI (c:TT) (t u:TS):TS:=λD σ H=>c σ H λb H1=>if b=true then t D σ H1 else u D σ H1
theorem q5 {c:Expr} {a b:List Stmt} {tc:TT} (hc:JT X c tc) (ha:X9 X a t) (hb:X9 X b u):JS X (.If c a b pos) (xI tc t u):=.of (by
 have hc:=hc.to
 have ha:=ha.to
 have hb:=hb.to
 intro pins s σ H D I h
 refine wpAny_If (jd (hc pins s σ H _ I h) λd s1 ⟨H1,I1,q1⟩=>?_)
 cases d with
 | true=>exact ha pins s1 σ H1 D I1 q1
 | false=>exact hb pins s1 σ H1 D I1 q1)
def Kf:TS:=λ_ _ _=>False
theorem ju {sts:List Stmt}:X9 X sts Kf:=.of (by
 exact λ_ _ _ _ _ _ h=>h.elim)
end
abbrev TG:=V->St->Hp->(St->Hp->Prop)->Prop
abbrev xz:=List V->St->Hp->(St->Hp->Prop)->Prop
def PG (X:Cx) (target:Expr) (t:TG):Prop:=
 ∀(pins:List (Addr×Obj)) (s:Shared) (σ:St) (H:Hp) (v:V) (u:Value) (Q:St->Hp->Prop),qy X pins σ H s->qI v u->t v σ H Q->
   wpAny (model X.prog X.w) X.A (assign target X.env u) (λ_ s'=>∃σ' H',qy X pins σ' H' s'/\Q σ' H') X.xe s
@[irreducible] def JG (X:Cx) (target:Expr) (t:TG):Prop:=PG X target t
theorem JG.of {X:Cx} {target:Expr} {t:TG} (h:PG X target t):JG X target t:=by unfold JG;exact h
theorem JG.to {X:Cx} {target:Expr} {t:TG} (h:JG X target t):PG X target t:=by unfold JG at h;exact h
def N9 (X:Cx) (ts:List Expr) (t:xz):Prop:=
 ∀(pins:List (Addr×Obj)) (s:Shared) (σ:St) (H:Hp) (vs:List V) (us:List Value) (Q:St->Hp->Prop),qy X pins σ H s->qF vs us->t vs σ H Q->
   wpAny (model X.prog X.w) X.A (assignInOrder ((assignEach ts X.env).map (·.2)) us) (λ_ s'=>∃σ' H',qy X pins σ' H' s'/\Q σ' H') X.xe s
@[irreducible] def xC (X:Cx) (ts:List Expr) (t:xz):Prop:=N9 X ts t
theorem xC.of {X:Cx} {ts:List Expr} {t:xz} (h:N9 X ts t):xC X ts t:=by unfold xC;exact h
theorem xC.to {X:Cx} {ts:List Expr} {t:xz} (h:xC X ts t):N9 X ts t:=by unfold xC at h;exact h
abbrev Nk:=V->V->Hp->VK->Prop
def PIp (X:Cx) (op:Operator) (t:Nk):Prop:=
 ∀(pins:List (Addr×Obj)) (s:Shared) (σ:St) (H:Hp) (x y:V) (v u:Value) (Q:VK),qy X pins σ H s->qI x v->qI y u->t x y H Q->
   wpAny (model X.prog X.w) X.A (inplaceOp op v u) (EP X pins σ Q) X.xe s
section
variable {X:Cx} {pos:Pos}
def Qx (i:Nat):TG:=λv σ H Q=>Q (σ.set i (some v)) H
theorem ql {i:Nat} {x:Str} (hN:X.N.Nodup) (hi:X.N[i]?=some x) (hx:Gp X.env.scope x) (hf:X.fn x=true\/X.env.scope.names.lookup x=some .local:=by first | exact .inl rfl | exact .inr rfl | assumption):JG X (.Name x pos) (Qx i):=.of (by
 intro pins s σ H v u Q I r h
 exact wpAny_assign_Name (zG I hN hi hx r (λs' I'=>⟨_,H,I',h⟩) hf))
def K7:xz:=λvs σ H Q=>vs=[]/\Q σ H
def WQ (t:TG) (u:xz):xz:=λvs σ H Q=>∃v r,vs=v::r/\t v σ H λσ' H'=>u r σ' H' Q
theorem j2:xC X [] K7:=.of (by
 intro pins s σ H vs us Q I r h
 obtain⟨e,h⟩:=h
 subst e
 cases r
 exact assignInOrder_nil ⟨σ,H,I,h⟩)
theorem qN {e:Expr} {es:List Expr} {t:TG} {u:xz} (h1:JG X e t) (h2:xC X es u) (hs:(assignEach (e::es) X.env).map (·.2)=assign e X.env::(assignEach es X.env).map (·.2):=by rfl):xC X (e::es) (WQ t u):=.of (by
 have h1:=h1.to
 have h2:=h2.to
 intro pins s σ H vs us Q I r h
 obtain⟨v,vr,e1,h⟩:=h
 subst e1
 cases r with
 | cons r rr=>
   rw[hs]
   refine assignInOrder_cons (jd (h1 pins s σ H _ _ _ I r h) λ_ s1 ⟨σ1,H1,I1,q1⟩=>?_)
   exact h2 pins s1 σ1 H1 _ _ Q I1 rr q1)
def K5 (K:PySem.W.Frag) (n:Nat) (t:xz):TG:=λv σ H Q=>∃a xs,v=.ref a/\zE K H a xs/\xs.length=n/\t xs σ H Q
theorem QJ {es:List Expr} {k:Nat} {t:xz} {n:Nat} (hc:X.calm=true) (h:xC X es t) (hn:(assignEach es X.env).length=n:=by rfl) (hst:(assignEach es X.env).findIdx? (·.1)=none:=by rfl):JG X (.Tuple es k pos) (K5 X.K n t):=.of (by
 have h:=h.to
 intro pins s σ H v u Q I r hw
 obtain⟨a,xs,e1,hq,hl,hw⟩:=hw
 subst e1
 cases r
 obtain⟨its,rv,ht,hz⟩:=I.tuple hq
 refine assign_Tuple_tuple (I.ok.hd hc) ht (by simp [hn,<-hl,rv.length]) hst λh' hx=>?_
 have I1:qy X pins σ H {s with heap:=h'}:=I.kept (t':=s.toks) λb o e=>hx b o (Nat.ne_of_lt (Heap.lt_size e)) e
 exact h pins _ σ H xs _ Q I1 (by simpa using rv) hw)
def xK (te:TE) (g:TG):TS:=λD σ H=>te σ H λx H1=>g x σ H1 D.nx
theorem Vv {tg e:Expr} {te:TE} {g:TG} (he:JE X e te) (hg:JG X tg g) (hs:swapsWithSole [tg] e pos.line X.env=pure false:=by rfl) (hw:swappedStores [tg] e X.env=pure none:=by rfl) (h1:(assignEach [tg] X.env).map (·.2)=[assign tg X.env]:=by rfl):JS X (.Assign [tg] e pos) (xK te g):=.of (by
 have he:=he.to
 have hg:=hg.to
 intro pins s σ H D I h
 refine wpAny_Assign_stores (jd (he pins s σ H _ I h) λv s1 ⟨x,H1,I1,r1,q1⟩=>?_) hs hw
 rw[h1]
 exact jd (hg pins s1 σ H1 x v _ I1 r1 q1) λ_ s2 q=>q)
theorem qx {i:Nat} {x:Str} {e:Expr} {te:TE} {pos':Pos} (hN:X.N.Nodup) (hi:X.N[i]?=some x) (hx:Gp X.env.scope x) (he:JE X e te) (hs:swapsWith e (some (.Name x pos')) pos.line X.env=pure false:=by rfl) (hf:X.fn x=true\/X.env.scope.names.lookup x=some .local:=by first | exact .inl rfl | exact .inr rfl | assumption):JS X (.Assign [.Name x pos'] e pos) (xK te (Qx i)):=.of (by
 have he:=he.to
 intro pins s σ H D I h
 refine wpAny_Assign_Name (jd (he pins s σ H _ I h) λv s1 ⟨y,H1,I1,r1,q1⟩=>?_) hs
 exact zG I1 hN hi hx r1 (λs2 I2=>⟨_,H1,I2,q1⟩) hf)
def Nx (i:Nat) (te:TE) (ti:Nk):TS:=λD σ H=>∃x,σ[i]?=some (some x)/\te σ H λy H1=>ti x y H1 λz H2=>D.nx (σ.set i (some z)) H2
theorem yN {i:Nat} {x:Str} {e:Expr} {te:TE} {op:Operator} {ti:Nk} {pos':Pos} (hN:X.N.Nodup) (hi:X.N[i]?=some x) (hx:Gp X.env.scope x) (he:JE X e te) (ho:PIp X op ti) (hf:X.fn x=true\/X.env.scope.names.lookup x=some .local:=by first | exact .inl rfl | exact .inr rfl | assumption):JS X (.AugAssign (.Name x pos') op e pos) (Nx i te ti):=.of (by
 have he:=he.to
 intro pins s σ H D I h
 obtain⟨v,e1,h⟩:=h
 obtain⟨m,hn,hl⟩:=I.loc
 have vis:Gx X.env.scope x:=by rcases hx with k | k;exact .inl k;exact .inr (.inl k)
 obtain⟨u,r,l⟩:=hl i x v hi e1 vis
 refine wpAny_AugAssign_Name ?_
 have go:wpAny (model X.prog X.w) X.A (eval e X.env) (λw s₂=>wpAny (model X.prog X.w) X.A (inplaceOp op u w) (λr s₃=>wpAny (model X.prog X.w) X.A (storeName X.env x r) (λ_=>SP X pins D .next) X.xe s₃) X.xe s₂) X.xe s:=by
   refine jd (he pins s σ H _ I h) λw s1 ⟨y,H1,I1,r1,q1⟩=>?_
   refine jd (ho pins s1 σ H1 v y u w _ I1 r r1 q1) λz s2 ⟨zv,H2,I2,r2,q2⟩=>?_
   exact zG I2 hN hi hx r2 (λs3 I3=>⟨_,H2,I3,q2⟩) hf
 rcases l with ⟨hk,hm⟩ | ⟨hk,c,hc,hcell⟩
 . exact wpAny_loadName_local I.ok.kind hk hn hm go
 . rcases hk with hk | hk
   . exact wpAny_loadName_cell I.ok.kind hk hc hcell go
   . rcases hx with k | k
     . have:X.env.scope.names.lookup x=some .free:=hk
       rw[k]at this;cases this
     . have:X.env.scope.names.lookup x=some .free:=hk
       rw[k]at this;cases this)
def ipI (f:Int->Int->Int):Nk:=λx y H Q=>∃i j,x=.int i/\y=.int j/\Q (.int (f i j)) H
theorem yU:PIp X .Add (ipI λi j=>i+j):=by
 intro pins s σ H x y v u Q I r1 r2 h
 obtain⟨i,j,e1,e2,q⟩:=h
 subst e1;subst e2
 obtain⟨t,rfl⟩:=r1
 obtain⟨t',rfl⟩:=r2
 exact iadd_int ⟨.int _,H,I.tok _,⟨_,rfl⟩,q⟩
end
section
variable {X:Cx} {pos:Pos}
def kr (c:TT) (tb:TS):TS:=λD σ H=>∃W:Nat->St->Hp->Prop,(∃m,W m σ H)/\∀m σ H,W m σ H->
 c σ H λb H1=>if b=true then ∃N:St->Hp->Prop,(∀σ' H',N σ' H'->∃m',m' < m/\W m' σ' H')/\tb {D with nx:=N,ct:=N,bk:=D.nx} σ H1 else D.nx σ H1
theorem Zu {c:Expr} {body:List Stmt} {tc:TT} {tb:TS} (hp:PassesOwn (model X.prog X.w) X.A X.env X.xe) (hc:JT X c tc) (hb:X9 X body tb):JS X (.While c body [] pos) (kr tc tb):=.of (by
 have hc:=hc.to
 have hb:=hb.to
 intro pins s σ H D I h
 obtain⟨W,⟨m0,w0⟩,turn⟩:=h
 refine wpAny_While (codeAny_whileLoop (λn s'=>∃σ' H',qy X pins σ' H' s'/\W n σ' H') ?_ m0 ⟨σ,H,I,w0⟩)
 rintro n s1 ⟨σ1,H1,I1,w1⟩
 refine wpAny_passesOwn hp (jd (hc pins s1 σ1 H1 _ I1 (turn n σ1 H1 w1)) λb s2 ⟨H2,I2,q2⟩=>?_)
 cases b with
 | true=>
   obtain⟨N,hN,q2⟩:=q2
   rw[if_pos rfl]
   refine wpAny_passesOwn hp (jd (hb pins s2 σ1 H2 _ I2 q2) λf s3 q3=>?_)
   cases f with
   | next=>
     obtain⟨σ3,H3,I3,n3⟩:=q3
     obtain⟨m',hm,w3⟩:=hN σ3 H3 n3
     exact⟨m',hm,σ3,H3,I3,w3⟩
   | cont=>
     obtain⟨σ3,H3,I3,n3⟩:=q3
     obtain⟨m',hm,w3⟩:=hN σ3 H3 n3
     exact⟨m',hm,σ3,H3,I3,w3⟩
   | brk=>exact q3
   | ret v=>exact q3
 | false=>
   rw[if_neg Bool.false_ne_true]
   exact wpAny_execs_nil ⟨σ1,H2,I2,q2⟩)
end
structure It where
 go:Nat->Hp->Prop
 yld:Nat->Hp->V->Hp->Prop
 stop:Nat->Hp->Prop
def Ze (X:Cx) (pins:List (Addr×Obj)) (H:Hp) (b:Addr):Prop:=
 H b=none/\b≠X.env.locals/\b∉X.fs/\(b∈X.ex\/X.s₀.heap.objs.size<=b)/\(∀x c,X.env.cells.lookup x=some c->c≠b)/\∀p∈X.pn++pins,p.1≠b
theorem qy.fpOk {X:Cx} {pins:List (Addr×Obj)} {σ:St} {H H':Hp} {s:Shared} {b:Addr} (I:qy X pins σ H s) (hb:s.heap.objs.size<=b) (hn:H' b=none):Ze X pins H' b:=by
 refine⟨hn,Nat.ne_of_gt (Nat.lt_of_lt_of_le I.lt hb),I.nofs hb,.inr (Nat.le_trans I.sz hb),λx c e z=>?_,λp hp z=>?_⟩
 . obtain⟨v,q⟩:=I.cell x c e
   exact absurd (Nat.lt_of_lt_of_le q.lt (by rw[z];exact hb)) (Nat.lt_irrefl _)
 . exact absurd (Nat.lt_of_lt_of_le (Heap.lt_size (I.pin p hp).1) (by rw[z];exact hb)) (Nat.lt_irrefl _)
structure YH (P:Program) (w:World) (K:PySem.W.Frag) (tg:Expr) (J:It) (fp:List Addr) (it:Addr) (tn:Nat->Heap->Prop):Prop where
 mem:it∈fp
 obj:∀i h,tn i h->∀b∈fp,∃o,h.get? b=some o/\∀v,o.data≠.cell v
 keep:∀i h h',tn i h->(∀b∈fp,∀o,h.get? b=some o->h'.get? b=some o)->tn i h'
 item:∀(X:Cx),X.prog=P->X.w=w->X.K=K->X.calm=true->∀(i:Nat) (pins:List (Addr×Obj)) (s:Shared) (σ:St) (H:Hp) (E:Value->Shared->Prop),qy X pins σ H s->(∀b∈fp,Ze X pins H b)->tn i s.heap->J.go i H->
   wpAny (model P w) X.A (pyNext (.ref it)) (λr s1=>∃u,r=some u/\
     wpAny (model P w) X.A (letOwnedTupleGo tg (.ref it) u) (λ_ s2=>∃x H',qy X pins σ H' s2/\qI x u/\J.yld i H x H'/\tn (i+1) s2.heap/\∀b∈fp,H' b=none) E s1) E s
 done:∀(X:Cx),X.prog=P->X.w=w->X.K=K->X.calm=true->∀(i:Nat) (pins:List (Addr×Obj)) (s:Shared) (σ:St) (H:Hp) (E:Value->Shared->Prop),qy X pins σ H s->(∀b∈fp,Ze X pins H b)->tn i s.heap->J.stop i H->
   wpAny (model P w) X.A (pyNext (.ref it)) (λr s1=>r=none/\qy X pins σ H s1) E s
 self:∀(A:Around) (i:Nat) (s:Shared) (Q:Value->Shared->Prop) (E:Value->Shared->Prop),tn i s.heap->Q (.ref it) s->wpAny (model P w) A (pyIter (.ref it)) Q E s
abbrev TI:=St->Hp->(It->Hp->Prop)->Prop
def PIE (X:Cx) (pins:List (Addr×Obj)) (σ:St) (tg:Expr) (R:It->Hp->Prop) (itv:Value) (s2:Shared):Prop:=
 ∃(it:Addr) (fp:List Addr) (tn:Nat->Heap->Prop) (J:It) (H':Hp),itv=.ref it/\qy X pins σ H' s2/\YH X.prog X.w X.K tg J fp it tn/\tn 0 s2.heap/\(∀b∈fp,Ze X pins H' b)/\R J H'
def PI (X:Cx) (tg iter:Expr) (wi:TI):Prop:=
 ∀(pins:List (Addr×Obj)) (s:Shared) (σ:St) (H:Hp) (R:It->Hp->Prop),qy X pins σ H s->wi σ H R->
   wpAny (model X.prog X.w) X.A (eval iter X.env) (λv s1=>wpAny (model X.prog X.w) X.A (pyIter v) (PIE X pins σ tg R) X.xe s1) X.xe s
@[irreducible] def JI (X:Cx) (tg iter:Expr) (wi:TI):Prop:=PI X tg iter wi
theorem JI.of {X:Cx} {tg iter:Expr} {wi:TI} (h:PI X tg iter wi):JI X tg iter wi:=by unfold JI;exact h
theorem JI.to {X:Cx} {tg iter:Expr} {wi:TI} (h:JI X tg iter wi):PI X tg iter wi:=by unfold JI at h;exact h
theorem Y3 {M:Model} {A:Around} {E:Value->Shared->Prop} {s:Shared} {tg:Expr} {it:Addr} {u:Value} {o:Obj} {n:String} {vs:Array Value} {Q:Unit->Shared->Prop} (ho:s.heap.get? it=some o) (hc:o.cls=.type n) (hd:o.data=.fields vs)
   (hn:["enumerate","zip","dict_itemiterator","dict_reverseitemiterator","odict_iterator","itertools.zip_longest","itertools.pairwise"].contains n=false) (hQ:Q () s):wpAny M A (letOwnedTupleGo tg (.ref it) u) Q E s:=by
 unfold letOwnedTupleGo
 cases tg<;>first
   | exact wpAny_pure hQ
   | (cases u<;>first
       | exact wpAny_pure hQ
       | (refine wpAny_bind (wpAny_load ho ?_)
          rw[hc,hd]
          show wpAny M A (if (["enumerate","zip","dict_itemiterator","dict_reverseitemiterator","odict_iterator","itertools.zip_longest","itertools.pairwise"].contains n&&vs[0]?==some (rawInt _))=true then _ else _) Q E s
          rw[if_neg (by intro h;rw[hn,Bool.false_and]at h;cases h)]
          exact wpAny_pure hQ))
def Gr (K:PySem.W.Frag) (a:Addr):It:=
 ⟨λi H=>∃xs x,SqL K H a xs/\xs[i]?=some x,λi H x H'=>H'=H/\∀xs,SqL K H a xs->xs[i]?=some x,λi H=>∃xs,SqL K H a xs/\xs.length<=i⟩
def Kc (K:PySem.W.Frag) (a:Addr):It:=
 ⟨λi H=>∃xs x,zE K H a xs/\xs[i]?=some x,λi H x H'=>H'=H/\∀xs,zE K H a xs->xs[i]?=some x,λi H=>∃xs,zE K H a xs/\xs.length<=i⟩
def uD (lo:Int) (n:Nat):It:=⟨λi _=>i < n,λi H x H'=>H'=H/\x=.int (lo+i),λi _=>n<=i⟩
theorem UY {P:Program} {w:World} {K:PySem.W.Frag} {tg:Expr} (a it:Addr):YH P w K tg (Gr K a) [it] it (λi h=>h.IsListIter it a i) where
 mem:=by simp
 obj:=λi h st b hb=>by
   have e:b=it:=by simpa using hb
   subst e
   obtain⟨o,e,c,d⟩:=st
   exact⟨o,e,λv z=>by rw[d]at z;cases z⟩
 keep:=λi h h' st k=>st.at λo e=>k it (by simp) o e
 item:=by
   intro X hP hw hK hc i pins s σ H E I hf st hg
   subst hP hw hK
   obtain⟨xs,x,hq,hx⟩:=hg
   obtain⟨its,rv,p,hz⟩:=I.list hq
   obtain⟨u,hu,ru⟩:=rv.get hx
   obtain⟨f0,f1,f2,f3,f4,f5⟩:=hf it (by simp)
   refine wpAny_pyNext_list_item st p.isList (x:=u) (by simpa using hu) λh' st' sb=>?_
   have I1:qy X pins σ H {s with heap:=h'}:=I.turned (t':=s.toks) (λb o hb e=>(sb.2 b hb).trans e) f0 f1 f3 f4 f5
   obtain⟨o,e,c,d⟩:=id st'
   exact⟨u,rfl,Y3 (s:={s with heap:=h'}) e c d (by decide) ⟨x,H,I1,ru,⟨rfl,λys hy=>by rw[I.list_inj hy hq];exact hx⟩,st',λb hb=>(hf b hb).1⟩⟩
 done:=by
   intro X hP hw hK hc i pins s σ H E I hf st hg
   subst hP hw hK
   obtain⟨xs,hq,hx⟩:=hg
   obtain⟨its,rv,p,hz⟩:=I.list hq
   obtain⟨f0,f1,f2,f3,f4,f5⟩:=hf it (by simp)
   have hl:=rv.length
   exact wpAny_pyNext_list_end (I.ok.hd hc) st p.isList (by simp;omega) λh' eb=>⟨rfl,I.turned (t':=s.toks) (λb o hb e=>eb b o hb e) f0 f1 f3 f4 f5⟩
 self:=λ_ _ _ _ _ st h=>wpAny_pyIter_listiter st h
theorem W9 {P:Program} {w:World} {K:PySem.W.Frag} {tg:Expr} (a it:Addr):YH P w K tg (Kc K a) [it] it (λi h=>h.IsTupleIter it a i) where
 mem:=by simp
 obj:=λi h st b hb=>by
   have e:b=it:=by simpa using hb
   subst e
   obtain⟨o,e,c,d⟩:=st
   exact⟨o,e,λv z=>by rw[d]at z;cases z⟩
 keep:=λi h h' st k=>st.at λo e=>k it (by simp) o e
 item:=by
   intro X hP hw hK hc i pins s σ H E I hf st hg
   subst hP hw hK
   obtain⟨xs,x,hq,hx⟩:=hg
   obtain⟨its,rv,p,hz⟩:=I.tuple hq
   obtain⟨u,hu,ru⟩:=rv.get hx
   obtain⟨f0,f1,f2,f3,f4,f5⟩:=hf it (by simp)
   refine wpAny_pyNext_tuple_item st (show s.heap.IsTuple a its.toArray from p) (x:=u) (by simpa using hu) λh' st' sb=>?_
   have I1:qy X pins σ H {s with heap:=h'}:=I.turned (t':=s.toks) (λb o hb e=>(sb.2 b hb).trans e) f0 f1 f3 f4 f5
   obtain⟨o,e,c,d⟩:=id st'
   exact⟨u,rfl,Y3 (s:={s with heap:=h'}) e c d (by decide) ⟨x,H,I1,ru,⟨rfl,λys hy=>by rw[I.tuple_inj hy hq];exact hx⟩,st',λb hb=>(hf b hb).1⟩⟩
 done:=by
   intro X hP hw hK hc i pins s σ H E I hf st hg
   subst hP hw hK
   obtain⟨xs,hq,hx⟩:=hg
   obtain⟨its,rv,p,hz⟩:=I.tuple hq
   obtain⟨f0,f1,f2,f3,f4,f5⟩:=hf it (by simp)
   have hl:=rv.length
   exact wpAny_pyNext_tuple_end (I.ok.hd hc) st (show s.heap.IsTuple a its.toArray from p) (by simp;omega) λh' eb=>⟨rfl,I.turned (t':=s.toks) (λb o hb e=>eb b o hb e) f0 f1 f3 f4 f5⟩
 self:=λ_ _ _ _ _ st h=>wpAny_pyIter_tupleiter st h
theorem Va {P:Program} {w:World} {K:PySem.W.Frag} {tg:Expr} (it:Addr) (lo:Int) (n:Nat):YH P w K tg (uD lo n) [it] it (λi h=>IsRangeIter h it (lo+(i:Nat)*1) ((n:Int) - (i:Nat)) 1) where
 mem:=by simp
 obj:=λi h st b hb=>by
   have e:b=it:=by simpa using hb
   subst e
   exact⟨_,st,λv z=>by
     have z':Data.fields _=Data.cell v:=z
     cases z'⟩
 keep:=λi h h' st k=>k it (by simp) _ st
 item:=by
   intro X hP hw hK hc i pins s σ H E I hf st hg
   subst hP hw hK
   obtain⟨f0,f1,f2,f3,f4,f5⟩:=hf it (by simp)
   have W:=Walks.range (prog:=X.prog) (w:=X.w) (I.ok.hd hc) it lo 1 n
   refine W.item i s _ _ hg st λv h' tk hv st' kk=>?_
   obtain⟨t,rfl⟩:=hv
   have I1:qy X pins σ H {s with heap:=h',toks:=tk}:=I.turned (λb o hb e=>kk b o (by simpa using hb) e) f0 f1 f3 f4 f5
   refine⟨_,rfl,Y3 (s:={s with heap:=h',toks:=tk}) (n:="range_iterator") st' rfl rfl (by decide) ⟨.int (lo+i),H,I1,⟨t,?_⟩,⟨rfl,rfl⟩,st',λb hb=>(hf b hb).1⟩⟩
   rw[Int.mul_one]
 done:=by
   intro X hP hw hK hc i pins s σ H E I hf st hg
   subst hP hw hK
   obtain⟨f0,f1,f2,f3,f4,f5⟩:=hf it (by simp)
   exact wpAny_pyNext_range_end (I.ok.hd hc) st (by have:n<=i:=hg;omega) λh' eb=>⟨rfl,I.turned (t':=s.toks) (λb o hb e=>eb b o hb e) f0 f1 f3 f4 f5⟩
 self:=λ_ _ _ _ _ st h=>wpAny_pyIter_rangeiter st h
end L2
namespace L2
open PySem PySem.Spec PyProof.Rows
section
variable {X:Cx} {tg:Expr}
def RS (K:PySem.W.Frag) (tl:TE):TI:=λσ H R=>tl σ H λx H1=>∃a,x=.ref a/\(∃xs,SqL K H1 a xs)/\R (Gr K a) H1
def N3 (K:PySem.W.Frag) (tl:TE):TI:=λσ H R=>tl σ H λx H1=>∃a,x=.ref a/\(∃xs,zE K H1 a xs)/\R (Kc K a) H1
theorem qL {l:Expr} {tl:TE} (hl:JE X l tl):JI X tg l (RS X.K tl):=.of (by
 have hl:=hl.to
 intro pins s σ H R I h
 refine jd (hl pins s σ H _ I h) λv s1 ⟨x,H1,I1,r1,q1⟩=>?_
 obtain⟨a,e,⟨xs,hq⟩,q⟩:=q1
 subst e
 cases r1
 obtain⟨its,rv,p,hz⟩:=I1.list hq
 refine wpAny_pyIter_list p.isList ?_
 refine⟨s1.heap.objs.size,[s1.heap.objs.size],_,_,H1,rfl,I1.kept (t':=s1.toks) λb o e=>Heap.get?_push_of_some _ e,UY a _,⟨_,Heap.get?_push_size _ rfl,rfl,rfl⟩,λb hb=>?_,q⟩
 have e:b=s1.heap.objs.size:=by simpa using hb
 subst e
 exact I1.fpOk (Nat.le_refl _) (I1.hok.fresh (Nat.le_refl _)))
theorem ZQ {l:Expr} {tl:TE} (hl:JE X l tl):JI X tg l (N3 X.K tl):=.of (by
 have hl:=hl.to
 intro pins s σ H R I h
 refine jd (hl pins s σ H _ I h) λv s1 ⟨x,H1,I1,r1,q1⟩=>?_
 obtain⟨a,e,⟨xs,hq⟩,q⟩:=q1
 subst e
 cases r1
 obtain⟨its,rv,p,hz⟩:=I1.tuple hq
 refine wpAny_pyIter_tuple (show s1.heap.IsTuple a its.toArray from p) ?_
 refine⟨s1.heap.objs.size,[s1.heap.objs.size],_,_,H1,rfl,I1.kept (t':=s1.toks) λb o e=>Heap.get?_push_of_some _ e,W9 a _,⟨_,Heap.get?_push_size _ rfl,rfl,rfl⟩,λb hb=>?_,q⟩
 have e:b=s1.heap.objs.size:=by simpa using hb
 subst e
 exact I1.fpOk (Nat.le_refl _) (I1.hok.fresh (Nat.le_refl _)))
theorem kU {pins:List (Addr×Obj)} {σ:St} {H:Hp} {s:Shared} {R:It->Hp->Prop} {E:Value->Shared->Prop} {lo hi:Int} {t u v:Tok} {tk:Nat} (I:qy X pins σ H s) (h1:-(2^62)<=lo) (h2:lo < 2^62) (h3:-(2^62)<=hi) (h4:hi < 2^62)
   (q:R (uD lo (hi - lo).toNat) H):wpAny (model X.prog X.w) X.A (pyIter (.ref s.heap.objs.size)) (PIE X pins σ tg R) E {s with heap:=s.heap.push {cls:=.type "range",data:=.fields #[.int lo t,.int hi u,.int 1 v]},toks:=tk}:=by
 refine wpAny_pyIter_range (IsRange.new ..) (small_one h1 h2 h3 h4) ?_
 have I1:qy X pins σ H {s with heap:=s.heap.push {cls:=.type "range",data:=.fields #[.int lo t,.int hi u,.int 1 v]},toks:=tk}:=I.kept λb o e=>Heap.get?_push_of_some _ e
 refine⟨(s.heap.push {cls:=.type "range",data:=.fields #[.int lo t,.int hi u,.int 1 v]}).objs.size,[(s.heap.push {cls:=.type "range",data:=.fields #[.int lo t,.int hi u,.int 1 v]}).objs.size],_,_,H,rfl,
   I1.kept (t':=tk) λb o e=>Heap.get?_push_of_some _ e,Va _ lo (hi - lo).toNat,?_,λb hb=>?_,q⟩
 . have e1:lo+((0:Nat):Int)*1=lo:=by simp
   have e2:(((hi - lo).toNat:Nat):Int) - ((0:Nat):Int)=Builtin.Range.rangeSize lo hi 1:=by rw[rangeSize_one];split<;>omega
   show IsRangeIter _ _ (lo+((0:Nat):Int)*1) ((((hi - lo).toNat:Nat):Int) - ((0:Nat):Int)) 1
   rw[e1,e2]
   exact Heap.get?_push_size _ rfl
 . have e:b=(s.heap.push {cls:=.type "range",data:=.fields #[.int lo t,.int hi u,.int 1 v]}).objs.size:=by simpa using hb
   subst e
   exact I1.fpOk (Nat.le_refl _) (I1.hok.fresh (Nat.le_refl _))
def RQ (ta:TA):TI:=λσ H R=>ta σ H λvs H1=>∃j:Int,vs=[.int j]/\-(2^62)<=j/\j < 2^62/\R (uD 0 j.toNat) H1
theorem ja {a:Expr} {ta:TA} {p pos:Pos} (hg:Gl X "range") (hm:X.mg "range"=none) (ha:JA X [a] ta) (hs:starEach [a] X.env=[(false,eval a X.env)]:=by rfl):JI X tg (.Call (.Name "range" p) [a] [] pos) (RQ ta):=.of (by
 have ha:=ha.to
 intro pins s σ H R I h
 refine Call_ (QR I hg hm boot_range (PyProof.Rows.callWith_type1 (jd (ha pos pins s σ H _ I h) λus s1 ⟨vs,H1,I1,r1,q1⟩=>?_) hs rfl))
 obtain⟨j,e,q1,q2,q⟩:=q1
 subst e
 cases r1 with
 | cons r rr=>
   cases rr
   obtain⟨t,rfl⟩:=r
   exact call_range_1 (kU I1 (by omega) (by omega) q1 q2 (by simpa using q)))
def Nv (wi:TI) (g:TG) (tb:TS):TS:=λD σ H=>wi σ H λJ H1=>∃W:Nat->Nat->St->Hp->Prop,(∃m,W 0 m σ H1)/\∀i m σ H,W i m σ H->
 (J.stop i H/\D.nx σ H)\/(J.go i H/\∃N:St->Hp->Prop,(∀σ' H',N σ' H'->∃m',m' < m/\W (i+1) m' σ' H')/\∀x H',J.yld i H x H'->g x σ H' λσ2 H2=>tb {D with nx:=N,ct:=N,bk:=D.nx} σ2 H2)
def z7 (fp:List Addr) (h:Heap):List (Addr×Obj):=fp.filterMap λb=>(h.get? b).map λo=>(b,o)
theorem Q5 {fp:List Addr} {h:Heap} {b:Addr} {o:Obj} (hb:b∈fp) (e:h.get? b=some o):(b,o)∈z7 fp h:=List.mem_filterMap.mpr ⟨b,hb,by rw[e];rfl⟩
theorem vq {fp:List Addr} {h:Heap} {p:Addr×Obj} (hp:p∈z7 fp h):p.1∈fp/\h.get? p.1=some p.2:=by
 obtain⟨b,hb,e⟩:=List.mem_filterMap.mp hp
 cases q:h.get? b with
 | none=>rw[q]at e;cases e
 | some o=>
   rw[q]at e
   have e':(b,o)=p:=Option.some.inj e
   subst e'
   exact⟨hb,q⟩
theorem qy.pinned {pins:List (Addr×Obj)} {σ:St} {H:Hp} {s:Shared} {fp:List Addr} (I:qy X pins σ H s) (hf:∀b∈fp,Ze X pins H b) (ho:∀b∈fp,∃o,s.heap.get? b=some o/\∀v,o.data≠.cell v):qy X (pins++z7 fp s.heap) σ H s:=
 I.pins_of λp hp=>(List.mem_append.mp hp).elim (λz=>I.pin p (List.mem_append_right _ z)) λz=>by
   obtain⟨hb,e⟩:=vq z
   obtain⟨f0,f1,f2,_⟩:=hf p.1 hb
   obtain⟨o,e',d⟩:=ho p.1 hb
   rw[e]at e';cases e'
   exact⟨e,f0,f1,f2,d⟩
theorem qy.unpinned {pins pl:List (Addr×Obj)} {σ:St} {H:Hp} {s:Shared} (I:qy X (pins++pl) σ H s):qy X pins σ H s:=I.pins_of λp hp=>I.pin p (List.mem_append_right _ (List.mem_append_left _ hp))
theorem qW {iter:Expr} {body:List Stmt} {wi:TI} {g:TG} {tb:TS} {pos:Pos} (hp:PassesOwn (model X.prog X.w) X.A X.env X.xe) (hc:X.calm=true) (hi:JI X tg iter wi) (hg:JG X tg g) (hb:X9 X body tb) (hs:∀x,foldedSetIterable iter X.env x=pure x:=by intro _;rfl):JS X (.For tg iter body [] pos) (Nv wi g tb):=.of (by
 have hi:=hi.to
 have hg:=hg.to
 have hb:=hb.to
 intro pins s σ H D I h
 refine wpAny_For (jd (hi pins s σ H _ I h) λv s1 h1=>jd h1 λitv s2 h2=>?_) hs
 obtain⟨it,fp,tn,J,H2,e,I2,T,st2,f2,W,⟨m0,w0⟩,turn⟩:=h2
 subst e
 have stat:∀{H':Hp},(∀b∈fp,H' b=none)->∀b∈fp,Ze X pins H' b:=λhn b hb=>⟨hn b hb,(f2 b hb).2⟩
 refine codeAny_forLoop_any (λn s'=>∃i σ' H',qy X pins σ' H' s'/\tn i s'.heap/\(∀b∈fp,H' b=none)/\W i n σ' H') ?_ m0 ⟨0,σ,H2,I2,st2,λb hb=>(f2 b hb).1,w0⟩
 rintro n s3 ⟨i,σ3,H3,I3,st3,fr3,w3⟩
 rcases turn i n σ3 H3 w3 with ⟨stop,qn⟩ | ⟨go,N,hN,step⟩
 . refine wpAny_passesOwn hp (jd (T.done X rfl rfl rfl hc i pins s3 σ3 H3 X.xe I3 (stat fr3) st3 stop) λr s4 ⟨hr,I4⟩=>?_)
   subst hr
   exact wpAny_execs_nil ⟨σ3,H3,I4,qn⟩
 . refine wpAny_passesOwn hp (jd (T.item X rfl rfl rfl hc i pins s3 σ3 H3 X.xe I3 (stat fr3) st3 go) λr s4 ⟨u,hr,h4⟩=>?_)
   subst hr
   refine wpAny_passesOwn hp (jd h4 λ_ s5 ⟨x,H5,I5,r5,y5,st5,fr5⟩=>?_)
   have I5':=I5.pinned (stat fr5) (T.obj _ _ st5)
   refine wpAny_passesOwn hp (jd (hg _ s5 σ3 H5 x u _ I5' r5 (step x H5 y5)) λ_ s6 ⟨σ6,H6,I6,q6⟩=>?_)
   refine wpAny_passesOwn hp (jd (hb _ s6 σ6 H6 _ I6 q6) λf s7 q7=>?_)
   have again:∀{σ7:St} {H7:Hp},qy X (pins++z7 fp s5.heap) σ7 H7 s7->N σ7 H7->∃m,m < n/\∃i σ' H',qy X pins σ' H' s7/\tn i s7.heap/\(∀b∈fp,H' b=none)/\W i m σ' H':=λ{σ7 H7} I7 n7=>by
     obtain⟨m',hm,w7⟩:=hN σ7 H7 n7
     refine⟨m',hm,i+1,σ7,H7,I7.unpinned,T.keep _ _ _ st5 λb hb o e=>(I7.pin (b,o) (List.mem_append_right _ (List.mem_append_right _ (Q5 hb e)))).1,λb hb=>?_,w7⟩
     obtain⟨o,e,d⟩:=T.obj _ _ st5 b hb
     exact(I7.pin (b,o) (List.mem_append_right _ (List.mem_append_right _ (Q5 hb e)))).2.1
   cases f with
   | next=>obtain⟨σ7,H7,I7,n7⟩:=q7;exact again I7 n7
   | cont=>obtain⟨σ7,H7,I7,n7⟩:=q7;exact again I7 n7
   | brk=>obtain⟨σ7,H7,I7,q7⟩:=q7;exact⟨σ7,H7,I7.unpinned,q7⟩
   | ret v=>obtain⟨x7,σ7,H7,I7,r7,q7⟩:=q7;exact⟨x7,σ7,H7,I7.unpinned,r7,q7⟩)
end
theorem jo {K:PySem.W.Frag} {a:Addr} {xs:List V} {g:TG} {tb:TS} {D:Ji} {σ:St} {H:Hp} (Pv:Nat->St->Hp->Prop) (h0:Pv 0 σ H) (hl:∀i σ H,i<=xs.length->Pv i σ H->SqL K H a xs)
   (hs:∀i x σ H,xs[i]?=some x->Pv i σ H->g x σ H λσ2 H2=>tb {D with nx:=Pv (i+1),ct:=Pv (i+1),bk:=D.nx} σ2 H2) (hd:∀σ H,Pv xs.length σ H->D.nx σ H):
   ∃W:Nat->Nat->St->Hp->Prop,(∃m,W 0 m σ H)/\∀i m σ H,W i m σ H->
    ((Gr K a).stop i H/\D.nx σ H)\/((Gr K a).go i H/\∃N:St->Hp->Prop,(∀σ' H',N σ' H'->∃m',m' < m/\W (i+1) m' σ' H')/\∀x H',(Gr K a).yld i H x H'->g x σ H' λσ2 H2=>tb {D with nx:=N,ct:=N,bk:=D.nx} σ2 H2):=by
 refine⟨λi m σ H=>m=xs.length - i/\i<=xs.length/\Pv i σ H,⟨xs.length,by simp,Nat.zero_le _,h0⟩,?_⟩
 rintro i m σ H ⟨rfl,hi,p⟩
 have q:=hl i σ H hi p
 by_cases hlt:i < xs.length
 . refine .inr ⟨⟨xs,xs[i],q,by simp [hlt]⟩,Pv (i+1),λσ' H' p'=>⟨xs.length - (i+1),by omega,rfl,hlt,p'⟩,λx H' y=>?_⟩
   obtain⟨e,y⟩:=y
   subst e
   exact hs i x σ _ (y xs q) p
 . have e:i=xs.length:=by omega
   subst e
   exact .inl ⟨⟨xs,q,Nat.le_refl _⟩,hd σ H p⟩
theorem UH {K:PySem.W.Frag} {a:Addr} {xs:List V} {g:TG} {tb:TS} {D:Ji} {σ:St} {H:Hp} (Pv:Nat->St->Hp->Prop) (h0:Pv 0 σ H) (hl:∀i σ H,i<=xs.length->Pv i σ H->zE K H a xs)
   (hs:∀i x σ H,xs[i]?=some x->Pv i σ H->g x σ H λσ2 H2=>tb {D with nx:=Pv (i+1),ct:=Pv (i+1),bk:=D.nx} σ2 H2) (hd:∀σ H,Pv xs.length σ H->D.nx σ H):
   ∃W:Nat->Nat->St->Hp->Prop,(∃m,W 0 m σ H)/\∀i m σ H,W i m σ H->
    ((Kc K a).stop i H/\D.nx σ H)\/((Kc K a).go i H/\∃N:St->Hp->Prop,(∀σ' H',N σ' H'->∃m',m' < m/\W (i+1) m' σ' H')/\∀x H',(Kc K a).yld i H x H'->g x σ H' λσ2 H2=>tb {D with nx:=N,ct:=N,bk:=D.nx} σ2 H2):=by
 refine⟨λi m σ H=>m=xs.length - i/\i<=xs.length/\Pv i σ H,⟨xs.length,by simp,Nat.zero_le _,h0⟩,?_⟩
 rintro i m σ H ⟨rfl,hi,p⟩
 have q:=hl i σ H hi p
 by_cases hlt:i < xs.length
 . refine .inr ⟨⟨xs,xs[i],q,by simp [hlt]⟩,Pv (i+1),λσ' H' p'=>⟨xs.length - (i+1),by omega,rfl,hlt,p'⟩,λx H' y=>?_⟩
   obtain⟨e,y⟩:=y
   subst e
   exact hs i x σ _ (y xs q) p
 . have e:i=xs.length:=by omega
   subst e
   exact .inl ⟨⟨xs,q,Nat.le_refl _⟩,hd σ H p⟩
theorem QE {lo:Int} {n:Nat} {g:TG} {tb:TS} {D:Ji} {σ:St} {H:Hp} (Pv:Nat->St->Hp->Prop) (h0:Pv 0 σ H)
   (hs:∀i σ H,i < n->Pv i σ H->g (.int (lo+i)) σ H λσ2 H2=>tb {D with nx:=Pv (i+1),ct:=Pv (i+1),bk:=D.nx} σ2 H2) (hd:∀σ H,Pv n σ H->D.nx σ H):
   ∃W:Nat->Nat->St->Hp->Prop,(∃m,W 0 m σ H)/\∀i m σ H,W i m σ H->
    ((uD lo n).stop i H/\D.nx σ H)\/((uD lo n).go i H/\∃N:St->Hp->Prop,(∀σ' H',N σ' H'->∃m',m' < m/\W (i+1) m' σ' H')/\∀x H',(uD lo n).yld i H x H'->g x σ H' λσ2 H2=>tb {D with nx:=N,ct:=N,bk:=D.nx} σ2 H2):=by
 refine⟨λi m σ H=>m=n - i/\i<=n/\Pv i σ H,⟨n,by simp,Nat.zero_le _,h0⟩,?_⟩
 rintro i m σ H ⟨rfl,hi,p⟩
 by_cases hlt:i < n
 . refine .inr ⟨hlt,Pv (i+1),λσ' H' p'=>⟨n - (i+1),by omega,rfl,hlt,p'⟩,λx H' y=>?_⟩
   obtain⟨e,y⟩:=y
   subst e y
   exact hs i σ _ hlt p
 . have e:i=n:=by omega
   subst e
   exact .inl ⟨Nat.le_refl _,hd σ H p⟩
theorem Zg {c:TT} {tb:TS} {D:Ji} {σ:St} {H:Hp} (Pv:St->Hp->Prop) (μ:St->Hp->Nat) (h0:Pv σ H)
   (hs:∀σ H,Pv σ H->c σ H λb H1=>if b=true then tb {D with nx:=λσ' H'=>Pv σ' H'/\μ σ' H' < μ σ H,ct:=λσ' H'=>Pv σ' H'/\μ σ' H' < μ σ H,bk:=D.nx} σ H1 else D.nx σ H1)
   (mono:∀σ H Q Q',(∀b H1,Q b H1->Q' b H1)->c σ H Q->c σ H Q'):kr c tb D σ H:=by
 refine⟨λm σ H=>m=μ σ H/\Pv σ H,⟨_,rfl,h0⟩,?_⟩
 rintro m σ H ⟨rfl,p⟩
 refine mono σ H _ _ (λb H1 q=>?_) (hs σ H p)
 cases b with
 | true=>exact⟨_,λσ' H' ⟨p',l⟩=>⟨_,l,rfl,p'⟩,q⟩
 | false=>exact q
end L2
namespace L2
open PySem PySem.Spec PyProof.Rows
abbrev R2:=V->V->Hp->VK->Prop
def Zc (X:Cx) (f:Value->Value->Sem Value) (r:R2):Prop:=
 ∀(pins:List (Addr×Obj)) (s:Shared) (σ:St) (H:Hp) (x y:V) (v u:Value) (Q:VK),qy X pins σ H s->qI x v->qI y u->r x y H Q->
   wpAny (model X.prog X.w) X.A (f v u) (EP X pins σ Q) X.xe s
def j5 (X:Cx) (f:Value) (r:List V->Hp->VK->Prop):Prop:=
 ∀(pins:List (Addr×Obj)) (s:Shared) (σ:St) (H:Hp) (xs:List V) (us:List Value) (Q:VK),qy X pins σ H s->qF xs us->r xs H Q->
   wpAny (model X.prog X.w) X.A (call f us) (EP X pins σ Q) X.xe s
def YA (r:R2) (ta tb:TE):TE:=λσ H Q=>ta σ H λx H1=>tb σ H1 λy H2=>r x y H2 Q
def rI (C:Int->Int->Prop) (g:Int->Int->V):R2:=λx y H Q=>∃i j,x=.int i/\y=.int j/\C i j/\Q (g i j) H
def ki (g:Int->Int->V):R2:=λx y H Q=>∃i j,x=.int i/\y=.int j/\Q (g i j) H
section
variable {X:Cx} {a b c:Expr} {ta tb tc:TE} {pos:Pos}
theorem Gg (ha:PE X a ta) (hb:PE X b tb) {pins:List (Addr×Obj)} {s:Shared} {σ:St} {H:Hp} {R:V->V->Hp->Prop} (I:qy X pins σ H s)
   (h:ta σ H λx H1=>tb σ H1 λy H2=>R x y H2) {Q:Value->Shared->Prop} {f:Value->Value->Sem Value}
   (hf:∀v u s2 x y H2,qy X pins σ H2 s2->qI x v->qI y u->R x y H2->wpAny (model X.prog X.w) X.A (f v u) Q X.xe s2):
   wpAny (model X.prog X.w) X.A (eval a X.env) (λv s₁=>wpAny (model X.prog X.w) X.A (eval b X.env) (λu s₂=>wpAny (model X.prog X.w) X.A (f v u) Q X.xe s₂) X.xe s₁) X.xe s:=by
 refine jd (ha pins s σ H _ I h) λv s1 ⟨x,H1,I1,r1,q1⟩=>?_
 refine jd (hb pins s1 σ H1 _ I1 q1) λu s2 ⟨y,H2,I2,r2,q2⟩=>?_
 exact hf v u s2 x y H2 I2 r1 r2 q2
theorem qP {op:Operator} {r:R2} (ho:Zc X (binaryOp op) r) (ha:JE X a ta) (hb:JE X b tb):JE X (.BinOp a op b pos) (YA r ta tb):=.of (by
 have ha:=ha.to
 have hb:=hb.to
 intro pins s σ H Q I h
 exact wpAny_BinOp (Gg ha hb I h λv u s2 x y H2 I2 rx ry q=>ho pins s2 σ H2 x y v u Q I2 rx ry q))
theorem Kx {f:Value->Value->Sem Value} {C:Int->Int->Prop} {g:Int->Int->Int}
   (rule:∀(i j:Int) (t u:Tok) (s:Shared) (Q:Value->Shared->Prop) (E:Value->Shared->Prop),C i j->Q (.int (g i j) s.toks) {s with toks:=s.toks+1}->wpAny (model X.prog X.w) X.A (f (.int i t) (.int j u)) Q E s):
   Zc X f (rI C λi j=>.int (g i j)):=by
 intro pins s σ H x y v u Q I rx ry h
 obtain⟨i,j,rfl,rfl,hc,q⟩:=h
 obtain⟨t,rfl⟩:=rx
 obtain⟨t',rfl⟩:=ry
 exact rule i j t t' s _ _ hc ⟨.int (g i j),H,I.tok _,⟨_,rfl⟩,q⟩
theorem wx {f:Value->Value->Sem Value} {g:Int->Int->Int}
   (rule:∀(i j:Int) (t u:Tok) (s:Shared) (Q:Value->Shared->Prop) (E:Value->Shared->Prop),Q (.int (g i j) s.toks) {s with toks:=s.toks+1}->wpAny (model X.prog X.w) X.A (f (.int i t) (.int j u)) Q E s):
   Zc X f (ki λi j=>.int (g i j)):=by
 intro pins s σ H x y v u Q I rx ry h
 obtain⟨i,j,rfl,rfl,q⟩:=h
 obtain⟨t,rfl⟩:=rx
 obtain⟨t',rfl⟩:=ry
 exact rule i j t t' s _ _ ⟨.int (g i j),H,I.tok _,⟨_,rfl⟩,q⟩
theorem wy {f:Value->Value->Sem Value} {g:Int->Int->Bool}
   (rule:∀(i j:Int) (t u:Tok) (s:Shared) (Q:Value->Shared->Prop) (E:Value->Shared->Prop),Q (.bool (g i j)) s->wpAny (model X.prog X.w) X.A (f (.int i t) (.int j u)) Q E s):
   Zc X f (ki λi j=>.bl (g i j)):=by
 intro pins s σ H x y v u Q I rx ry h
 obtain⟨i,j,rfl,rfl,q⟩:=h
 obtain⟨t,rfl⟩:=rx
 obtain⟨t',rfl⟩:=ry
 exact rule i j t t' s _ _ ⟨.bl (g i j),H,I,rfl,q⟩
def Mh (i j:Int):Prop:=0 < j/\j < 1073741824
def Gs (i j:Int):Prop:=0<=j/\j<=1000000/\i.natAbs < 2^64
def Gu (i j:Int):Prop:=(-(2^64) < i/\i < 2^64)\/(-(2^64) < j/\j < 2^64)
theorem Gu.ok {i j:Int} (h:Gu i j):IntMulOk i j:=by
 rcases h with ⟨h1,h2⟩ | ⟨h1,h2⟩
 . exact .of_left (intBits_le_64 h1 h2)
 . exact .of_right (intBits_le_64 h1 h2)
theorem W8 (k:Nat):(0:Int)<=2^k:=by
 rw[two_pow_cast]
 exact Int.natCast_nonneg _
theorem Q4:Zc X (binaryOp .Add) (ki λi j=>.int (i+j)):=wx λ_ _ _ _ _ _ _ q=>add_int q
theorem Kv:Zc X (binaryOp .Sub) (ki λi j=>.int (i - j)):=wx λ_ _ _ _ _ _ _ q=>sub_int q
theorem Q0:Zc X (binaryOp .Mult) (rI Gu λi j=>.int (i*j)):=Kx λ_ _ _ _ _ _ _ hc q=>mul_int q hc.ok
theorem ww:Zc X (binaryOp .FloorDiv) (rI Mh λi j=>.int (i / j)):=Kx λi j _ _ _ _ _ hc q=>by
 have h1:(0:Int) < j:=hc.1
 have h2:j < 1073741824:=hc.2
 exact floordiv_int (by omega) (by rw[Int.fdiv_eq_ediv_of_nonneg i (by omega)];exact q) (.inl (PyProof.noPylong_small (by omega)))
theorem Q3:Zc X (binaryOp .Mod) (rI (λ_ j=>0 < j) λi j=>.int (i % j)):=Kx λi j _ _ _ _ _ hc q=>by
 have h1:(0:Int) < j:=hc
 exact mod_int' (by omega) (by rw[Int.fmod_eq_emod_of_nonneg i (by omega)];exact q)
theorem Kw:Zc X (binaryOp .Pow) (rI Gs λi j=>.int (i^j.toNat)):=Kx λ_ _ _ _ _ _ _ hc q=>pow_int_small hc.1 hc.2.1 hc.2.2 q
theorem yc:Zc X (binaryOp .LShift) (rI Gs λi j=>.int (i*2^j.toNat)):=Kx λ_ _ _ _ _ _ _ hc q=>lshift_int_small hc.1 hc.2.1 hc.2.2 q
theorem yb:Zc X (binaryOp .RShift) (rI (λ_ j=>0<=j) λi j=>.int (i / 2^j.toNat)):=Kx λi j _ _ _ _ _ hc q=>
 rshift_int hc (by rw[Int.fdiv_eq_ediv_of_nonneg i (W8 _)];exact q)
theorem yg:Zc X (binaryOp .BitAnd) (ki λi j=>.int (Builtin.bitAnd i j)):=wx λ_ _ _ _ _ _ _ q=>and_int q
theorem Rw:Zc X (binaryOp .BitOr) (ki λi j=>.int (Builtin.bitOr i j)):=wx λ_ _ _ _ _ _ _ q=>or_int q
end
def Rf:V->V->Bool
 | .non,.non=>true | .non,.int _=>true | .int _,.non=>true | .non,.bl _=>true | .bl _,.non=>true | .non,.str _=>true | .str _,.non=>true
 | .int _,.int _=>true | .bl _,.bl _=>true | .str _,.str _=>true | .byt _,.byt _=>true
 | .int _,.str _=>true | .str _,.int _=>true | .bl _,.str _=>true | .str _,.bl _=>true
 | _,_=>false
def NJ:R2:=λx y H Q=>Rf x y=true/\Q (.bl (decide (x=y))) H
def rNe:R2:=λx y H Q=>Rf x y=true/\Q (.bl (!decide (x=y))) H
theorem UK {i j:Int}:decide (V.int i=V.int j)=(i==j):=by
 rw[Bool.eq_iff_iff]
 simp
theorem xl {i j:Bool}:decide (V.bl i=V.bl j)=(i==j):=by
 rw[Bool.eq_iff_iff]
 simp
theorem UJ {i j:Str}:decide (V.str i=V.str j)=(i==j):=by
 rw[Bool.eq_iff_iff]
 simp
theorem UL {i j:Array UInt8}:decide (V.byt i=V.byt j)=(i.toList==j.toList):=by
 rw[Bool.eq_iff_iff]
 cases i
 cases j
 simp
section
variable {X:Cx} {a b c:Expr} {ta tb tc:TE} {pos:Pos}
theorem qQ {pins:List (Addr×Obj)} {σ:St} {H:Hp} {s:Shared} {Q:VK} {k k':Bool} (I:qy X pins σ H s) (q:Q (.bl k) H) (e:k=k'):EP X pins σ Q (.bool k') s:=by
 subst e
 exact⟨.bl k,H,I,rfl,q⟩
theorem QI:Zc X (compareOp .Eq) NJ:=by
 intro pins s σ H x y v u Q I rx ry h
 obtain⟨hs,q⟩:=h
 cases x with
 | non=>
   cases rx
   cases y with
   | non=>cases ry;exact PySem.EqNone.eq_none_none (qQ I q (by simp))
   | bl j=>cases ry;exact PySem.EqNone.eq_none_bool (qQ I q (by simp))
   | int j=>obtain⟨t',rfl⟩:=ry;exact PySem.EqNone.eq_none_int (qQ I q (by simp))
   | str j=>obtain⟨t',rfl⟩:=ry;exact PySem.EqNone.eq_none_str (qQ I q (by simp))
   | _=>exact absurd (show false=true from hs) Bool.false_ne_true
 | bl i=>
   cases rx
   cases y with
   | non=>cases ry;exact PySem.EqNone.eq_bool_none (qQ I q (by simp))
   | bl j=>cases ry;exact eq_bool (qQ I q xl)
   | str j=>obtain⟨t',rfl⟩:=ry;exact PySem.EqMixed.eq_bool_str (qQ I q (by simp))
   | _=>exact absurd (show false=true from hs) Bool.false_ne_true
 | int i=>
   obtain⟨t,rfl⟩:=rx
   cases y with
   | non=>cases ry;exact PySem.EqNone.eq_int_none (qQ I q (by simp))
   | int j=>obtain⟨t',rfl⟩:=ry;exact eq_int (qQ I q UK)
   | str j=>obtain⟨t',rfl⟩:=ry;exact PySem.EqMixed.eq_int_str (qQ I q (by simp))
   | _=>exact absurd (show false=true from hs) Bool.false_ne_true
 | str i=>
   obtain⟨t,rfl⟩:=rx
   cases y with
   | non=>cases ry;exact PySem.EqNone.eq_str_none (qQ I q (by simp))
   | bl j=>cases ry;exact PySem.EqMixed.eq_str_bool (qQ I q (by simp))
   | int j=>obtain⟨t',rfl⟩:=ry;exact PySem.EqMixed.eq_str_int (qQ I q (by simp))
   | str j=>obtain⟨t',rfl⟩:=ry;exact eq_str (qQ I q UJ)
   | _=>exact absurd (show false=true from hs) Bool.false_ne_true
 | byt i=>
   obtain⟨t,rfl⟩:=rx
   cases y with
   | byt j=>obtain⟨t',rfl⟩:=ry;exact PySem.W.eq_bytes (qQ I q UL)
   | _=>exact absurd (show false=true from hs) Bool.false_ne_true
 | _=>cases y<;>exact absurd (show false=true from hs) Bool.false_ne_true
theorem uZ:Zc X (compareOp .NotEq) rNe:=by
 intro pins s σ H x y v u Q I rx ry h
 obtain⟨hs,q⟩:=h
 cases x with
 | non=>
   cases rx
   cases y with
   | non=>cases ry;exact PySem.EqNone.ne_none_none (qQ I q (by simp))
   | bl j=>cases ry;exact PySem.EqNone.ne_none_bool (qQ I q (by simp))
   | int j=>obtain⟨t',rfl⟩:=ry;exact PySem.EqNone.ne_none_int (qQ I q (by simp))
   | str j=>obtain⟨t',rfl⟩:=ry;exact PySem.EqNone.ne_none_str (qQ I q (by simp))
   | _=>exact absurd (show false=true from hs) Bool.false_ne_true
 | bl i=>
   cases rx
   cases y with
   | non=>cases ry;exact PySem.EqNone.ne_bool_none (qQ I q (by simp))
   | bl j=>cases ry;exact ne_bool (qQ I q (congrArg not xl))
   | str j=>obtain⟨t',rfl⟩:=ry;exact PySem.EqMixed.ne_bool_str (qQ I q (by simp))
   | _=>exact absurd (show false=true from hs) Bool.false_ne_true
 | int i=>
   obtain⟨t,rfl⟩:=rx
   cases y with
   | non=>cases ry;exact PySem.EqNone.ne_int_none (qQ I q (by simp))
   | int j=>obtain⟨t',rfl⟩:=ry;exact ne_int (qQ I q (congrArg not UK))
   | str j=>obtain⟨t',rfl⟩:=ry;exact PySem.EqMixed.ne_int_str (qQ I q (by simp))
   | _=>exact absurd (show false=true from hs) Bool.false_ne_true
 | str i=>
   obtain⟨t,rfl⟩:=rx
   cases y with
   | non=>cases ry;exact PySem.EqNone.ne_str_none (qQ I q (by simp))
   | bl j=>cases ry;exact PySem.EqMixed.ne_str_bool (qQ I q (by simp))
   | int j=>obtain⟨t',rfl⟩:=ry;exact PySem.EqMixed.ne_str_int (qQ I q (by simp))
   | str j=>obtain⟨t',rfl⟩:=ry;exact ne_str (qQ I q (congrArg not UJ))
   | _=>exact absurd (show false=true from hs) Bool.false_ne_true
 | byt i=>
   obtain⟨t,rfl⟩:=rx
   cases y with
   | byt j=>obtain⟨t',rfl⟩:=ry;exact PySem.W.ne_bytes (qQ I q (congrArg not UL))
   | _=>exact absurd (show false=true from hs) Bool.false_ne_true
 | _=>cases y<;>exact absurd (show false=true from hs) Bool.false_ne_true
theorem Qw:Zc X (compareOp .Lt) (ki λi j=>.bl (decide (i < j))):=wy λ_ _ _ _ _ _ _ q=>lt_int q
theorem Ut:Zc X (compareOp .LtE) (ki λi j=>.bl (decide (i<=j))):=wy λ_ _ _ _ _ _ _ q=>le_int q
theorem YW:Zc X (compareOp .Gt) (ki λi j=>.bl (decide (j < i))):=wy λ_ _ _ _ _ _ _ q=>gt_int q
theorem ye:Zc X (compareOp .GtE) (ki λi j=>.bl (decide (j<=i))):=wy λ_ _ _ _ _ _ _ q=>ge_int q
theorem vk:Zc X (compareOp .In) (λx y H Q=>∃i j,x=.str i/\y=.str j/\Q (.bl (!(Builtin.Str.occurrences j i 0 j.length 1).isEmpty)) H):=by
 intro pins s σ H x y v u Q I rx ry h
 obtain⟨i,j,rfl,rfl,q⟩:=h
 obtain⟨t,rfl⟩:=rx
 obtain⟨t',rfl⟩:=ry
 exact in_str (qQ I q rfl)
theorem qz (b:Expr) {op:CmpOp} (h:op≠.In:=by decide) (h2:op≠.NotIn:=by decide):behindInMarks op b=false:=by
 have e1:(op==CmpOp.In)=false:=by cases op<;>first | rfl | exact absurd rfl h
 have e2:(op==CmpOp.NotIn)=false:=by cases op<;>first | rfl | exact absurd rfl h2
 cases b<;>simp [behindInMarks,e1,e2]
theorem QC {op:CmpOp} {r:R2} (ho:Zc X (compareOp op) r) (ha:JE X a ta) (hb:JE X b tb) (hm:behindInMarks op b=false):JE X (.Compare a [op] [b] pos) (YA r ta tb):=.of (by
 have ha:=ha.to
 have hb:=hb.to
 intro pins s σ H Q I h
 exact wpAny_Compare1 (Gg ha hb I h λv u s2 x y H2 I2 rx ry q=>ho pins s2 σ H2 x y v u Q I2 rx ry q) hm)
def zF (t:TE):TT:=λσ H Q=>t σ H λx H'=>∃k,x=.bl k/\Q k H'
theorem qr {op:CmpOp} {r:R2} (ho:Zc X (compareOp op) r) (ha:JE X a ta) (hb:JE X b tb) (hm:behindInMarks op b=false):JT X (.Compare a [op] [b] pos) (zF (YA r ta tb)):=.of (by
 have ha:=ha.to
 have hb:=hb.to
 intro pins s σ H Q I h
 refine wpAny_isTrue_Compare1 (jd (ha pins s σ H _ I h) λv s1 ⟨x,H1,I1,r1,q1⟩=>jd (hb pins s1 σ H1 _ I1 q1) λu s2 ⟨y,H2,I2,r2,q2⟩=>
   jd (ho pins s2 σ H2 x y v u _ I2 r1 r2 q2) λc s3 ⟨z,H3,I3,r3,k,e,q3⟩=>?_) hm
 subst e
 cases r3
 exact wpAny_truthy_bool ⟨H3,I3,q3⟩)
theorem Ye:(sizeLine:Nat) < 2^63:=by rw[sizeLine_eq];decide
theorem Yb:Zc X (binaryOp .Add) (λx y H Q=>∃i j,x=.str i/\y=.str j/\i.length+j.length<=sizeLine/\Q (.str (i++j)) H):=by
 intro pins s σ H x y v u Q I rx ry h
 obtain⟨i,j,rfl,rfl,hz,q⟩:=h
 obtain⟨t,rfl⟩:=rx
 obtain⟨t',rfl⟩:=ry
 exact add_str (λt' tk=>⟨.str (i++j),H,I.tok _,⟨_,rfl⟩,q⟩) hz
theorem Qv {x:V} {us:List Value} (r:qF [x] us):∃u,us=[u]/\qI x u:=by
 cases r with
 | cons r1 r2=>cases r2;exact⟨_,rfl,r1⟩
theorem km {x y:V} {us:List Value} (r:qF [x,y] us):∃u w',us=[u,w']/\qI x u/\qI y w':=by
 cases r with
 | cons r1 r2=>
   cases r2 with
   | cons r3 r4=>cases r4;exact⟨_,_,rfl,r1,r3⟩
theorem Xb (hc:X.calm=true):j5 X (.builtin "max") (λxs H Q=>∃i j,xs=[.int i,.int j]/\Q (.int (if j > i then j else i)) H):=by
 intro pins s σ H xs us Q I r h
 obtain⟨i,j,rfl,q⟩:=h
 obtain⟨u,w',rfl,⟨t,rfl⟩,⟨t',rfl⟩⟩:=km r
 refine max_two_ints (I.ok.hd hc) λh' tk k=>⟨_,H,I.kept k,?_,q⟩
 by_cases hj:j > i
 . rw[if_pos hj,if_pos hj];exact⟨_,rfl⟩
 . rw[if_neg hj,if_neg hj];exact⟨_,rfl⟩
theorem vX (hc:X.calm=true):j5 X (.builtin "min") (λxs H Q=>∃i j,xs=[.int i,.int j]/\Q (.int (if j < i then j else i)) H):=by
 intro pins s σ H xs us Q I r h
 obtain⟨i,j,rfl,q⟩:=h
 obtain⟨u,w',rfl,⟨t,rfl⟩,⟨t',rfl⟩⟩:=km r
 refine min_two_ints (I.ok.hd hc) λh' tk k=>⟨_,H,I.kept k,?_,q⟩
 by_cases hj:j < i
 . rw[if_pos hj,if_pos hj];exact⟨_,rfl⟩
 . rw[if_neg hj,if_neg hj];exact⟨_,rfl⟩
theorem vY:j5 X (.type "int") (λxs H Q=>(∃i,xs=[.int i]/\Q (.int i) H)\/∃k,xs=[.bl k]/\Q (.int (if k then 1 else 0)) H):=by
 intro pins s σ H xs us Q I r h
 rcases h with ⟨i,rfl,q⟩ | ⟨k,rfl,q⟩
 . obtain⟨u,rfl,t,rfl⟩:=Qv r
   exact call_int_int ⟨.int i,H,I,⟨_,rfl⟩,q⟩
 . obtain⟨u,rfl,r1⟩:=Qv r
   cases r1
   exact call_int_bool ⟨.int (if k then 1 else 0),H,I.tok _,⟨_,rfl⟩,q⟩
end
end L2
namespace L2
open PySem PySem.Spec PyProof.Rows
structure VO (h:Heap) (x dx C:Addr) (mA:Str->Option Value):Prop where
 obj:h.get? x=some (PySem.W.instObj C dx)
 ns:h.Ns1 dx mA
 ne:dx≠x
theorem vA {h:Heap} {dx:Addr} {mA:Str->Option Value} (n:h.Ns1 dx mA):∃od,h.get? dx=some od/\∀name,PySem.W.lookIn name od=some (mA name):=by
 obtain⟨o,es,ep,ho,hd,hk,_,hm⟩:=n
 refine⟨o,ho,λname=>?_⟩
 have e:=hm name
 unfold nsFind findBy at e
 rw[<-Array.find?_toList]at e
 unfold PySem.W.lookIn
 rw[hd]
 dsimp only
 split
 . rename_i y q
   rw[q]at e
   exact congrArg some e
 . rename_i q
   rw[q]at e
   have a:es.toList.any (·.refKey)=false:=by
     rw[List.any_eq_false]
     intro y hy
     obtain⟨z,t,hkey⟩:=hk y (Array.mem_toList_iff.mp hy)
     simp [DictEntry.refKey,hkey]
   have a':¬es.toList.any (·.refKey)=true:=by rw[a];exact Bool.false_ne_true
   rw[if_neg a']
   exact congrArg some e
theorem VO.look {h:Heap} {x dx C:Addr} {mA:Str->Option Value} (I:VO h x dx C mA):∃od,PySem.W.InstAt h x (PySem.W.instObj C dx) C (some od)/\∀name,PySem.W.lookIn name od=some (mA name):=
 let ⟨od,ho,hl⟩:=vA I.ns
 ⟨od,⟨I.obj,rfl,rfl,ho⟩,hl⟩
section
variable {prog:Program} {w:World} {A:Around} {E:Value->Shared->Prop} {s:Shared} {K:PySem.W.Frag} {x dx C f:Addr} {mA:Str->Option Value} {name:Str} {v:Value}
theorem ui {expr:Bool} {Q:Value->Shared->Prop} (X:K.In s.heap) (I:VO s.heap x dx C mA) (hg:PySem.W.plainGet K C name=true) (hh:PySem.W.hasDictIn K C=true)
   (ha:PySem.W.findIn K (.ref C) name=some none) (hv:mA name=some v) (hv':PySem.W.handedIn v=true) (h:Q v {s with toks:=s.toks+1}):
   wpAny (model prog w) A (getAttr (.ref x) name expr) Q E s:=by
 obtain⟨od,J,hl⟩:=I.look
 exact PySem.W.get_value X J (PySem.W.plainGet_of hg).1 (PySem.W.findObj_own hh ha rfl (by rw[hl,hv])) hv' h
theorem y7 {pl:Sem Bool} {Q:Value×List Value->Shared->Prop} (X:K.In s.heap) (I:VO s.heap x dx C mA) (hg:PySem.W.plainGet K C name=true)
   (hf:PySem.W.findIn K (.ref C) name=some (some (.ref f))) (ht:PySem.W.isFn K (.ref f)=true) (hv:mA name=none) (h:Q (.ref f,[.ref x]) s):
   wpAny (model prog w) A (getMethod (.ref x) name pl) Q E s:=by
 obtain⟨od,J,hl⟩:=I.look
 exact PySem.W.method_fn X J (PySem.W.plainGet_of hg).1 (PySem.W.plainGet_of hg).2 hf (beq_iff_eq.mp ht) (by show (PySem.W.lookIn name od).map (·.isSome)=some false;rw[hl,hv];rfl) h
theorem xT {ns:List Str} {Q:Unit->Shared->Prop} (X:K.In s.heap) (I:VO s.heap x dx C mA)
   (hs:PySem.W.findIn K (.ref C) "__setattr__"=some (some (.builtin "object.__setattr__"))) (hp:PySem.W.plainOver K C=true) (ht:PySem.W.takerIn K C name=some none) (hh:PySem.W.hasDictIn K C=true)
   (hw:PySem.Within mA ns) (hsz:ns.length<=sizeLine)
   (h:∀h',VO h' x dx C (λy=>if y=name then some v else mA y)->Heap.SameBut dx s.heap h'->Q () {s with heap:=h',toks:=s.toks+2}):
   wpAny (model prog w) A (setAttr (.ref x) name v) Q E s:=by
 obtain⟨od,J,hl⟩:=I.look
 refine PySem.W.set_plain X J hs (PySem.W.osa_open (s:={s with toks:=s.toks+1}) (r:=none) X J hp ht λb=>?_)
 obtain⟨cd,hc,hd'⟩:=PySem.W.any_some hh
 have hx:s.heap.get? x=some ⟨.ref C,some dx,.plain,#[]⟩:=I.obj
 refine wpAny_bind (wpAny_pure (wpAny_bind (wpAny_bind (wpAny_loadPart hx (wpAny_bind (PySem.W.Looks.here (s:={s with toks:=s.toks+1}) (PySem.W.looks_clsIn X hc) ?_))))))
 rw[hd']
 refine wpAny_pure (a:=some dx) (wpAny_bind (wpAny_pure (wpAny_bind ?_)))
 refine wpAny_nsSet1 (s:={s with toks:=s.toks+1}) I.ns λh' hn2 hs2=>?_
 obtain⟨oD,esD,epD,hoD,hdD,hcD⟩:=hn2.count (PySem.Within.cons name v hw)
 refine wpAny_bind (wpAny_lookBehind hoD (by rw[hdD];exact pastItsLine_dict (Nat.le_trans hcD (by rw[List.length_cons];omega))) ?_)
 exact wpAny_pure (h _ ⟨(hs2.2 _ (Ne.symm I.ne)).trans I.obj,hn2,I.ne⟩ hs2)
theorem yB {R:Result->Shared->Prop} {vs:List Value} {kw:List (Str×Value)} (X:K.In s.heap) (hm:PySem.W.makesIn K C=true)
   (hi:PySem.W.findIn K (.ref C) "__init__"=some (some (.ref f))) (hf:PySem.W.typeIn K (.ref f)=some (.type "function"))
   (h:codeAny (model prog w) (A.under (.builtin "type.__call__" ⟨.ref C::vs,kw⟩)) (.call (.ref f) ⟨.ref (s.heap.objs.size+1)::vs,kw⟩) (PySem.W.InitBack (s.heap.objs.size+1) R)
     {s with heap:=(s.heap.push PySem.W.emptyDict).push (PySem.W.instObj C s.heap.objs.size)}):
   codeAny (model prog w) A (.call (.ref C) ⟨vs,kw⟩) R s:=by
 obtain⟨hh,g,d,t,os⟩:=s
 exact PySem.W.make_core (PySem.W.makes_of X hm) (PySem.W.looks_findIn X hi) (λself=>PySem.W.bind_fn X self hf) (.inl rfl) h
end
def QY (f:Str) (v:V):List (Str×V)->List (Str×V)
 | []=>[(f,v)]
 | (g,x)::r=>if g=f then (g,v)::r else (g,x)::QY f v r
theorem Z0 (f g:Str) (v:V):∀fs:List (Str×V),(QY f v fs).lookup g=if g=f then some v else fs.lookup g
 | []=>by
   show List.lookup g [(f,v)]=_
   by_cases h:g=f
   . have hb:(g==f)=true:=beq_iff_eq.mpr h
     simp only[List.lookup,hb,if_pos h]
   . have hb:(g==f)=false:=beq_eq_false_iff_ne.mpr h
     simp only[List.lookup,hb,if_neg h]
 | (k,x)::r=>by
   have ih:=Z0 f g v r
   rw[show QY f v ((k,x)::r)=(if k=f then (k,v)::r else (k,x)::QY f v r) from rfl]
   by_cases hk:k=f
   . rw[if_pos hk]
     by_cases h:g=k
     . have hb:(g==k)=true:=beq_iff_eq.mpr h
       simp only[List.lookup,hb,if_pos (h.trans hk)]
     . have hb:(g==k)=false:=beq_eq_false_iff_ne.mpr h
       simp only[List.lookup,hb,if_neg (λe:g=f=>h (e.trans hk.symm))]
   . rw[if_neg hk]
     by_cases h:g=k
     . have hb:(g==k)=true:=beq_iff_eq.mpr h
       simp only[List.lookup,hb,if_neg (λe:g=f=>hk (h.symm.trans e))]
     . have hb:(g==k)=false:=beq_eq_false_iff_ne.mpr h
       simp only[List.lookup,hb]
       exact ih
theorem ZO (f:Str) (v:V):∀fs:List (Str×V),f∈(QY f v fs).map (·.1)/\∀g,g∈fs.map (·.1)->g∈(QY f v fs).map (·.1)
 | []=>⟨by simp [QY],λg h=>by simp at h⟩
 | (k,x)::r=>by
   obtain⟨i1,i2⟩:=ZO f v r
   rw[show QY f v ((k,x)::r)=(if k=f then (k,v)::r else (k,x)::QY f v r) from rfl]
   by_cases hk:k=f
   . rw[if_pos hk]
     subst hk
     exact⟨by simp,λg h=>by simpa using h⟩
   . rw[if_neg hk]
     refine⟨?_,λg h=>?_⟩
     . rw[List.map_cons]
       exact List.mem_cons_of_mem _ i1
     . rw[List.map_cons]at h ⊢
       rcases List.mem_cons.mp h with e | e
       . exact List.mem_cons.mpr (.inl e)
       . exact List.mem_cons_of_mem _ (i2 g e)
theorem Z1 (f:Str) (v:V):∀fs:List (Str×V),(QY f v fs).length<=fs.length+1
 | []=>by simp [QY]
 | (k,x)::r=>by
   have ih:=Z1 f v r
   rw[show QY f v ((k,x)::r)=(if k=f then (k,v)::r else (k,x)::QY f v r) from rfl]
   by_cases hk:k=f
   . rw[if_pos hk,List.length_cons,List.length_cons];omega
   . rw[if_neg hk,List.length_cons,List.length_cons];omega
theorem Jq.some_of {v:V} {o:Option Value} (r:Jq (some v) o):∃u,o=some u/\qI v u:=by
 cases o with
 | none=>exact(show False from r).elim
 | some u=>exact⟨u,rfl,r⟩
theorem Jq.none_of {o:Option Value} (r:Jq none o):o=none:=by
 cases o with
 | none=>rfl
 | some u=>exact(show False from r).elim
theorem vM {v:V} {u:Value} (r:qI v u):PySem.W.handedIn u=true:=by
 cases v with
 | non=>cases (show u=Value.none from r);rfl
 | bl b=>cases (show u=Value.bool b from r);rfl
 | int i=>obtain⟨t,e⟩:=(show ∃t,u=Value.int i t from r);cases e;rfl
 | str x=>obtain⟨t,e⟩:=(show ∃t,u=Value.str x t from r);cases e;rfl
 | byt b=>obtain⟨t,e⟩:=(show ∃t,u=Value.bytes b t from r);cases e;rfl
 | flt b=>obtain⟨t,e⟩:=(show ∃t,u=Value.float b t from r);cases e;rfl
 | ref a=>cases (show u=Value.ref a from r);rfl
 | ty n=>cases (show u=Value.type n from r);rfl
section
variable {P:Program} {w:World} {H H':Hp} {h h':Heap} {a C dx:Addr} {fs fs':List (Str×V)}
theorem zz (hok:JM P w H h) (e:H a=some (.ins C dx fs)):∃mA,VO h a dx C mA/\(∀f,Jq (fs.lookup f) (mA f))/\PySem.Within mA (fs.map (·.1))/\fs.length<=1000/\H dx=some (.own a):=by
 obtain⟨d,z,ne,ob,mA,n,r,q⟩:=(show qX P w H h a (.ins C dx fs) from hok a _ e)
 exact⟨mA,⟨ob,n,ne⟩,r,q,z,d⟩
end
structure YB (K:PySem.W.Frag) (C:Addr):Prop where
 pg:PySem.W.plainGet K C Str.empty=true
 hd:PySem.W.hasDictIn K C=true
 po:PySem.W.plainOver K C=true
 sa:PySem.W.findIn K (.ref C) "__setattr__"=some (some (.builtin "object.__setattr__"))
theorem YB.get {K:PySem.W.Frag} {C:Addr} (c:YB K C) (f:Str):PySem.W.plainGet K C f=true:=c.pg
def Qd (K:PySem.W.Frag) (C:Addr) (f:Str):Prop:=PySem.W.findIn K (.ref C) f=some none
theorem Qd.taker {K:PySem.W.Frag} {C:Addr} {f:Str} (n:Qd K C f):PySem.W.takerIn K C f=some none:=by
 unfold PySem.W.takerIn
 rw[show PySem.W.findIn K (.ref C) f=some none from n]
 rfl
structure Con (K:PySem.W.Frag) (C:Addr) (f:Str) (v:V) (u:Value):Prop where
 at_:PySem.W.findIn K (.ref C) f=some (some u)
 rel:qI v u
 get:PySem.W.specialIn K u "__get__"=some none
 cp:PySem.W.copiedNames.contains f=false
structure W5 (K:PySem.W.Frag) (C:Addr) (m:Str) (f:Addr):Prop where
 at_:PySem.W.findIn K (.ref C) m=some (some (.ref f))
 fn:PySem.W.isFn K (.ref f)=true
 kp:PySem.W.keepIn K (.ref f)=true
section
variable {X:Cx} {pins:List (Addr×Obj)} {σ:St} {H:Hp} {s:Shared} {a C dx:Addr} {fs:List (Str×V)} {f:Str} {v:V} {A:Around} {E:Value->Shared->Prop}
theorem Vz {b:Bool} {Q:Value->Shared->Prop} (I:qy X pins σ H s) (e:H a=some (.ins C dx fs)) (c:YB X.K C) (n:Qd X.K C f) (l:fs.lookup f=some v)
   (h:∀u s',qy X pins σ H s'->qI v u->Q u s'):wpAny (model X.prog X.w) A (getAttr (.ref a) f b) Q E s:=by
 obtain⟨mA,O,r,_,_,_⟩:=zz I.hok e
 obtain⟨u,hu,ru⟩:=Jq.some_of (v:=v) (o:=mA f) (by rw[<-l];exact r f)
 exact ui I.kIn O (c.get f) c.hd n hu (vM ru) (h u _ (I.tok _) ru)
theorem Jc {m:Str} {g:Addr} {pl:Sem Bool} {Q:Value×List Value->Shared->Prop} (I:qy X pins σ H s) (e:H a=some (.ins C dx fs)) (c:YB X.K C) (k:W5 X.K C m g) (l:fs.lookup m=none)
   (h:Q (.ref g,[.ref a]) s):wpAny (model X.prog X.w) A (getMethod (.ref a) m pl) Q E s:=by
 obtain⟨mA,O,r,_,_,_⟩:=zz I.hok e
 have hn:mA m=none:=Jq.none_of (by rw[<-l];exact r m)
 exact y7 I.kIn O (c.get m) k.at_ k.fn hn h
theorem Vf {y:V} {u:Value} {Q:Unit->Shared->Prop} (I:qy X pins σ H s) (e:H a=some (.ins C dx fs)) (c:YB X.K C) (n:Qd X.K C f) (hl:fs.length < 1000) (ry:qI y u)
   (h:∀s',qy X pins σ (upd H a (.ins C dx (QY f y fs))) s'->Q () s'):wpAny (model X.prog X.w) A (setAttr (.ref a) f u) Q E s:=by
 obtain⟨mA,O,r,wi,_,ho⟩:=zz I.hok e
 have hz:(fs.map (·.1)).length<=sizeLine:=by rw[List.length_map,sizeLine_eq];omega
 refine xT I.kIn O c.sa c.po n.taker c.hd wi hz λh' O' sb=>h _ ?_
 have hd:∃o,h'.get? dx=some o:=let ⟨o,_,_,e',_⟩:=O'.ns;⟨o,e'⟩
 refine I.write (x:=a) (e:=dx) (by rw[e];exact True.intro) (.inr ho) (λb q hb z=>(sb.2 b hb).trans z) hd ?_
 refine⟨by rw[qi O.ne];exact ho,?_,O.ne,O'.obj,_,O'.ns,λg=>?_,λg hg=>?_⟩
 . have:=Z1 f y fs;omega
 . show Jq ((QY f y fs).lookup g) (if g=f then some u else mA g)
   rw[Z0]
   by_cases q:g=f
   . rw[if_pos q,if_pos q];exact ry
   . rw[if_neg q,if_neg q];exact r g
 . by_cases q:g=f
   . rw[q];exact(ZO f y fs).1
   . refine(ZO f y fs).2 g (wi g λz=>hg ?_)
     show (if g=f then some u else mA g)=none
     rw[if_neg q];exact z
theorem qy.made (I:qy X pins σ H s):qy X pins σ (upd (upd H s.heap.objs.size (.own (s.heap.objs.size+1))) (s.heap.objs.size+1) (.ins C s.heap.objs.size []))
   {s with heap:=(s.heap.push PySem.W.emptyDict).push (PySem.W.instObj C s.heap.objs.size)}:=by
 have e1:(s.heap.push PySem.W.emptyDict).get? s.heap.objs.size=some PySem.W.emptyDict:=Heap.get?_push_size s.heap rfl
 have e2:((s.heap.push PySem.W.emptyDict).push (PySem.W.instObj C s.heap.objs.size)).get? (s.heap.objs.size+1)=some (PySem.W.instObj C s.heap.objs.size):=by
   have:=Heap.get?_push_size (s.heap.push PySem.W.emptyDict) (o:=PySem.W.instObj C s.heap.objs.size) rfl
   rwa [Heap.size_push]at this
 have e3:(s.heap.push PySem.W.emptyDict).Ns s.heap.objs.size (λ_=>none):=⟨PySem.W.emptyDict,#[],_,e1,rfl,(λe he=>absurd he (by simp)),λ_=>rfl⟩
 have I1:=I.laid (a:=s.heap.objs.size) (o:=.own (s.heap.objs.size+1)) (h':=s.heap.push PySem.W.emptyDict) (t':=s.toks) (λb u q=>Heap.get?_push_of_some _ q) (Nat.le_refl _) ⟨_,e1⟩
 refine I1.laid (a:=s.heap.objs.size+1) (o:=.ins C s.heap.objs.size []) (t':=s.toks) (λb u q=>Heap.get?_push_of_some _ q) (Nat.le_of_eq (Heap.size_push _ _)) ?_
 have ne:s.heap.objs.size≠s.heap.objs.size+1:=Nat.ne_of_lt (Nat.lt_succ_self _)
 refine⟨by rw[qi ne,qd],Nat.zero_le _,ne,e2,λ_=>none,(Heap.Ns1.of_empty e3).at λo q=>Heap.get?_push_of_some _ q,λ_=>True.intro,λy hy=>absurd rfl hy⟩
theorem uy {prog:Program} {w:World} {env:Env} {e:Expr} {f:Str} {pos:Pos} {s:Shared} {Q:Value->Shared->Prop} (hb:attributeBase e f env (eval e env)=eval e env)
   (h:wpAny (model prog w) A (eval e env) (λo s₁=>wpAny (model prog w) A (getAttr o f true) Q E s₁) E s):wpAny (model prog w) A (eval (.Attribute e f pos) env) Q E s:=
 Attribute_any_ h (by rw[arm_eval_Attribute,hb])
end
def GX (K:PySem.W.Frag) (ta:TE) (f:Str):TE:=λσ H Q=>ta σ H λx H1=>∃a C dx fs v,x=.ref a/\H1 a=some (.ins C dx fs)/\YB K C/\Qd K C f/\fs.lookup f=some v/\Q v H1
def NE (K:PySem.W.Frag) (ta tv:TE) (f:Str):TS:=λD σ H=>tv σ H λy H1=>ta σ H1 λx H2=>∃a C dx fs,x=.ref a/\H2 a=some (.ins C dx fs)/\YB K C/\Qd K C f/\fs.length < 1000/\
 D.nx σ (upd H2 a (.ins C dx (QY f y fs)))
section
variable {X:Cx} {o e value:Expr} {f:Str} {pos pos' tpos:Pos} {ta tv:TE}
theorem Q7 (he:JE X e ta) (hb:attributeBase e f X.env (eval e X.env)=eval e X.env):JE X (.Attribute e f pos) (GX X.K ta f):=.of (by
 have he:=he.to
 intro pins s σ H Q I h
 refine uy hb (jd (he pins s σ H _ I h) λu s1 ⟨x,H1,I1,rx,a,C,dx,fs,v,ex,ea,c,n,l,q⟩=>?_)
 subst ex
 obtain rfl:u=Value.ref a:=rx
 exact Vz I1 ea c n l λu' s2 I2 ru=>⟨v,H1,I2,ru,q⟩)
theorem XQ (ha:JE X o ta) (hv:JE X value tv) (hs:swapsWith value (some (.Attribute o f pos')) pos.line X.env=pure false):JS X (.Assign [.Attribute o f pos'] value pos) (NE X.K ta tv f):=.of (by
 have ha:=ha.to
 have hv:=hv.to
 intro pins s σ H D I h
 refine plainObj_wpAny_Assign_Attribute (jd (hv pins s σ H _ I h) λu s1 ⟨y,H1,I1,ry,q⟩=>jd (ha pins s1 σ H1 _ I1 q) λov s2 ⟨x,H2,I2,rx,a,C,dx,fs,ex,ea,c,n,l,q2⟩=>?_) hs
 subst ex
 obtain rfl:ov=Value.ref a:=rx
 exact Vf I2 ea c n l ry λs3 I3=>⟨σ,_,I3,q2⟩)
end
section
variable {X:Cx} {pins:List (Addr×Obj)} {σ:St} {H:Hp} {s:Shared} {A:Around} {E:Value->Shared->Prop} {Q:Value->Shared->Prop} {c:Value} {b:Bool}
inductive ZV (K:PySem.W.Frag) (H:Hp):V->Value->Prop where
 | non:ZV K H .non (.type "NoneType")
 | bl (x:Bool):ZV K H (.bl x) (.type "bool")
 | int (i:Int):ZV K H (.int i) (.type "int")
 | str (x:Str):ZV K H (.str x) (.type "str")
 | flt (x:UInt64):ZV K H (.flt x) (.type "float")
 | lst {a:Addr} {xs:List V} (e:H a=some (.lst xs)):ZV K H (.ref a) (.type "list")
 | frz {a:Addr} {o:Obj} {xs:List V} (e:H a=some (.frz o (.lst xs))):ZV K H (.ref a) (.type "list")
 | tup {a:Addr} {xs:List V} (e:H a=some (.tup xs)):ZV K H (.ref a) (.type "tuple")
 | dK {a:Addr} {kvs:List (qA×V)} (e:H a=some (.dK kvs)):ZV K H (.ref a) (.type "dict")
 | dT {a:Addr} {kvs:List (List qA×V)} (e:H a=some (.dT kvs)):ZV K H (.ref a) (.type "dict")
 | ins {a C dx:Addr} {fs:List (Str×V)} (e:H a=some (.ins C dx fs)) (cl:YB K C) (ha:PySem.W.findIn K (.ref C) "__class__"=some (some (.builtin "object.__class__")))
     (hn:PySem.W.specialIn K (.builtin "object.__class__") "__get__"=some (some (.builtin "getset_descriptor.__get__"))) (htk:PySem.W.takesIn K (.builtin "object.__class__")=some true)
     (hm:PySem.W.mroIn K C (.type "object")=some true):ZV K H (.ref a) (.ref C)
theorem vH {x:V} {u t:Value} (I:qy X pins σ H s) (rx:qI x u) (ty:ZV X.K H x t) (e:PySem.W.kitOne X.K t c=some b) (h:∀tk,Q (.bool b) {s with toks:=tk}):
   wpAny (model X.prog X.w) A (call (.builtin "isinstance") [u,c]) Q E s:=by
 cases ty with
 | non=>cases (show u=Value.none from rx);exact PySem.W.kia_one PySem.W.kitx_none I.kIn True.intro e (λz=>nomatch z) h
 | bl y=>cases (show u=Value.bool y from rx);exact PySem.W.kia_one PySem.W.kitx_bool I.kIn True.intro e (λz=>nomatch z) h
 | int i=>obtain⟨t,q⟩:=(show ∃t,u=Value.int i t from rx);cases q;exact PySem.W.kia_one PySem.W.kitx_int I.kIn True.intro e (λz=>nomatch z) h
 | str y=>obtain⟨t,q⟩:=(show ∃t,u=Value.str y t from rx);cases q;exact PySem.W.kia_one PySem.W.kitx_str I.kIn True.intro e (λz=>nomatch z) h
 | flt y=>obtain⟨t,q⟩:=(show ∃t,u=Value.float y t from rx);cases q;exact PySem.W.kia_one PySem.W.kitx_float I.kIn True.intro e (λz=>nomatch z) h
 | @lst a xs ea=>
   cases (show u=Value.ref a from rx)
   obtain⟨_,_,n,_,h1⟩:=(show qX X.prog X.w H s.heap a (.lst xs) from I.hok a _ ea)
   exact PySem.W.kia_one PySem.W.kitx_list I.kIn ⟨_,h1,rfl⟩ e (λz=>nomatch z) h
 | @frz a ob xs ea=>
   cases (show u=Value.ref a from rx)
   obtain⟨_,_,_,n,_,h1⟩:=(show qX X.prog X.w H s.heap a (.frz ob (.lst xs)) from I.hok a _ ea)
   exact PySem.W.kia_one PySem.W.kitx_list I.kIn ⟨_,h1,rfl⟩ e (λz=>nomatch z) h
 | @tup a xs ea=>
   cases (show u=Value.ref a from rx)
   obtain⟨_,_,_,p⟩:=(show qX X.prog X.w H s.heap a (.tup xs) from I.hok a _ ea)
   obtain⟨o,h1,h2,_⟩:=p
   exact PySem.W.kia_one PySem.W.kitx_tuple I.kIn ⟨o,h1,h2⟩ e (λz=>nomatch z) h
 | @dK a kvs ea=>
   cases (show u=Value.ref a from rx)
   obtain⟨_,_,vs,_,p⟩:=(show qX X.prog X.w H s.heap a (.dK kvs) from I.hok a _ ea)
   obtain⟨o,es,ep,h1,h2,_⟩:=p
   exact PySem.W.kia_one PySem.W.kitx_dict I.kIn ⟨o,h1,h2.1⟩ e (λz=>nomatch z) h
 | @dT a kvs ea=>
   cases (show u=Value.ref a from rx)
   obtain⟨_,_,xs,_,o,es,ep,h1,h2,_⟩:=(show qX X.prog X.w H s.heap a (.dT kvs) from I.hok a _ ea)
   exact PySem.W.kia_one PySem.W.kitx_dict I.kIn ⟨o,h1,h2.1⟩ e (λz=>nomatch z) h
 | @ins a C dx fs ea cl ha hn htk hm=>
   cases (show u=Value.ref a from rx)
   obtain⟨mA,O,_⟩:=zz I.hok ea
   obtain⟨od,J,_⟩:=O.look
   exact PySem.W.kia_one (PySem.W.kitx_own (cl.get _) cl.hd ha hn htk hm) I.kIn J e (λz=>nomatch z) h
end
end L2
namespace L2
open PySem PySem.Spec PyProof.Rows
structure jg (k:Nat) (A:Around):Prop where
 hd:A.handled=none
 dp:A.depth+3*k+5 < recursionLimit
 un:A.units+16*k+200 < cLine
 gd:A.guards=some []
theorem jg.mono {j k:Nat} {A:Around} (r:jg k A) (h:j<=k):jg j A:=⟨r.hd,by have:=r.dp;omega,by have:=r.un;omega,r.gd⟩
theorem jg.deeper {k:Nat} {A:Around} (r:jg (k+1) A) (env:Env):jg k (A.deeper env):=
 ⟨r.hd,by have:=r.dp;show A.depth+1+3*k+5 < _;omega,by have:=r.un;show A.units+3+16*k+200 < _;omega,r.gd⟩
theorem Vt {A:Around} {C:Addr} {us:List Value} {kw:List (Str×Value)}:(A.under (.builtin "type.__call__" ⟨.ref C::us,kw⟩)).depth=A.depth+1:=by
 first | rfl | simp [Around.under,Code.weight,Code.isCreation,Code.isGuard,Code.isCaller,Code.frames,Code.isFrame,guardIds]
theorem Vs {A:Around} {C:Addr} {us:List Value} {kw:List (Str×Value)}:(A.under (.builtin "type.__call__" ⟨.ref C::us,kw⟩)).units=A.units+1:=by
 first | rfl | simp [Around.under,Code.cUnits,Code.frames,Code.isFrame]
theorem jg.make {k:Nat} {A:Around} (r:jg (k+1) A) (C:Addr) (us:List Value) (kw:List (Str×Value)):jg k (A.under (.builtin "type.__call__" ⟨.ref C::us,kw⟩)):=
 ⟨r.hd,by have:=r.dp;rw[Vt];omega,by have:=r.un;rw[Vs];omega,(by have:=r.gd;first | exact this | simpa [Around.under,Code.isGuard,guardIds] using this)⟩
theorem jg.depth {k:Nat} {A:Around} (r:jg k A):A.depth < recursionLimit:=by have:=r.dp;omega
theorem jg.units {k:Nat} {A:Around} (r:jg k A):A.units+64 < cLine:=by have:=r.un;omega
def QX:TA:=λ_ H Q=>Q [] H
def jr (ta:TE) (tr:TA):TA:=λσ H Q=>ta σ H λx H1=>tr σ H1 λxs H2=>Q (x::xs) H2
section
variable {X:Cx} {e:Expr} {es:List Expr} {te:TE} {t:TA} {pos:Pos}
theorem qf:JA X [] QX:=.of (by
 exact λ_ _ _ _ H Q I h=>Calls.spliced_nil ⟨[],H,I,.nil,h⟩)
theorem qb (ha:JE X e te) (hr:JA X es t) (hs:starEach (e::es) X.env=(false,eval e X.env)::starEach es X.env:=by rfl):JA X (e::es) (jr te t):=.of (by
 have ha:=ha.to
 have hr:=hr.to
 intro pos pins s σ H Q I h
 rw[hs]
 show wpAny _ _ (spliced ((false,eval e X.env)::backTo pos (starEach es X.env))) _ _ s
 refine Calls.spliced_cons (jd (ha pins s σ H _ I h) λu s1 ⟨x,H1,I1,r1,q1⟩=>?_)
 exact jd (hr pos pins s1 σ H1 _ I1 q1) λus s2 ⟨xs,H2,I2,r2,q2⟩=>⟨x::xs,H2,I2,.cons r1 r2,q2⟩)
def Xp (t:TA):TE:=λσ H Q=>t σ H λxs H1=>xs.length<=sizeLine/\∀p,H1 p=none->Q (.ref p) (upd H1 p (.tup xs))
def Nr (t:TA):TE:=λσ H Q=>t σ H λxs H1=>xs.length<=sizeLine/\∀p,H1 p=none->Q (.ref p) (upd H1 p (.lst xs))
theorem jl {x1} (h:JA X es t):JE X (.Tuple es x1 pos) (Xp t):=.of (by
 have h:=h.to
 intro pins s σ H Q I hq
 refine wpAny_Tuple_spliced (jd (h pos pins s σ H _ I hq) λus s1 ⟨xs,H1,I1,r,z,q⟩=>⟨by rw[<-r.length];exact z,?_⟩)
 have hf:H1 s1.heap.objs.size=none:=I1.hok.fresh (Nat.le_refl _)
 refine⟨.ref s1.heap.objs.size,upd H1 s1.heap.objs.size (.tup xs),I1.laid (t':=s1.toks) (λb u e=>Heap.get?_push_of_some _ e) (Nat.le_refl _) ?_,rfl,q _ hf⟩
 exact⟨z,us,r,⟨_,Heap.get?_push_size _ rfl,rfl,_,rfl⟩⟩)
theorem QS (h:JA X es t):JE X (.List es pos) (Nr t):=.of (by
 have h:=h.to
 intro pins s σ H Q I hq
 refine wpAny_List_spliced (jd (h pos pins s σ H _ I hq) λus s1 ⟨xs,H1,I1,r,z,q⟩=>⟨by rw[<-r.length];exact z,?_⟩)
 have hf:H1 s1.heap.objs.size=none:=I1.hok.fresh (Nat.le_refl _)
 refine⟨.ref s1.heap.objs.size,upd H1 s1.heap.objs.size (.lst xs),I1.laid (t':=s1.toks) (λb u e=>Heap.get?_push_of_some _ e) (Nat.le_refl _) ?_,rfl,q _ hf⟩
 exact⟨z,us,0,r,Heap.get?_push_size _ rfl⟩)
end
abbrev Sp:=List V->Hp->VK->XK->Prop
abbrev W7:=List Env->Hp->Shared->XK->Value->Shared->Prop
structure VP (P:Program) (w:World) (K:PySem.W.Frag) (mg:Str->Option Value) (base:Heap) (A:Around) (outer:List Env) (s:Shared) (H:Hp):Prop where
 frames:A.frames=some outer
 mod:Mod K mg base
 bs:∀b o,base.get? b=some o->s.heap.get? b=some o/\H b=none
 bsz:base.objs.size<=s.heap.objs.size
 funs:s.heap.FunFrames base outer
 frf:∀b∈xa outer,H b=none
 hok:JM P w H s.heap
 bare:AllBare s.gens
def CE (outer:List Env) (P:Program) (w:World) (H:Hp) (s:Shared) (Q:VK) (u:Value) (s':Shared):Prop:=
 ∃v H',s'.os=s.os/\AllBare s'.gens/\Un (xa outer) [] H H' s.heap s'.heap/\JM P w H' s'.heap/\qI v u/\Q v H'
def CR (CX:W7) (outer:List Env) (P:Program) (w:World) (H:Hp) (s:Shared) (Q:VK) (E:XK) (r:Result) (s':Shared):Prop:=
 match r with
 | .ok (.ret u)=>CE outer P w H s Q u s'
 | .ok _=>False
 | .error e=>CX outer H s E e s'
structure qv (P:Program) (w:World) (K:PySem.W.Frag) (mg:Str->Option Value) (base:Heap) (CX:W7) (k:Nat) (f:Addr) (fd:FuncData) (ps:List Str) (sp:Sp):Prop where
 len:∀vs H Q E,sp vs H Q E->vs.length=ps.length
 run:∀(A:Around) (outer:List Env) (s:Shared) (H:Hp) (args:Args) (us:List Value) (vs:List V) (Q:VK) (E:XK),jg k A->VP P w K mg base A outer s H->BindsTo s fd args (ps.zip us)->qF vs us->sp vs H Q E->
   codeAny (model P w) A (.call (.ref f) args) (CR CX outer P w H s Q E) s
theorem VP.make {P:Program} {w:World} {K:PySem.W.Frag} {mg:Str->Option Value} {base:Heap} {A:Around} {outer:List Env} {s:Shared} {H:Hp} (e:VP P w K mg base A outer s H) (C:Addr) (us:List Value) (kw:List (Str×Value)):
   VP P w K mg base (A.under (.builtin "type.__call__" ⟨.ref C::us,kw⟩)) outer s H:=⟨by first | exact e.frames | (simpa [Around.under,Code.envs,Code.isFrame,pushEnvs] using e.frames),e.mod,e.bs,e.bsz,e.funs,e.frf,e.hok,e.bare⟩
section
variable {X:Cx} {pins:List (Addr×Obj)} {σ:St} {H:Hp} {s s':Shared}
theorem qy.env0 (I:qy X pins σ H s):VP X.prog X.w X.K X.mg X.base X.A X.stack s H:=
 ⟨I.ok.frames,I.ok.mod,I.bs,Nat.le_trans I.ok.bsz I.sz,I.stack,I.stkFree,I.hok,I.bare⟩
theorem qy.after {Q:VK} {u:Value} (I:qy X pins σ H s) (h:CE X.stack X.prog X.w H s Q u s'):EP X pins σ Q u s':=by
 obtain⟨v,H',os,bare,un,hok,r,q⟩:=h
 obtain⟨hh,g,d,t,os'⟩:=s'
 obtain rfl:os'=s.os:=os
 exact⟨v,H',I.call (h':=hh) (g':=g) (d':=d) (t':=t) (ch:=[]) un hok bare (λb z=>absurd z (by simp)),r,q⟩
end
def Wj (sp:Sp) (dvs:List V) (E:XK) (t:TA):TE:=λσ H Q=>t σ H λvs H1=>sp (vs++dvs) H1 Q E
def YN (C:Addr) (m:Str) (sp:Sp) (dvs:List V) (E:XK) (ta:TE) (t:TA):TE:=λσ H Q=>ta σ H λx H1=>∃a dx fs,x=.ref a/\H1 a=some (.ins C dx fs)/\fs.lookup m=none/\
 t σ H1 λvs H2=>sp (x::(vs++dvs)) H2 Q E
def GQ (C:Addr) (sp:Sp) (dvs:List V) (E:XK) (t:TA):TE:=λσ H Q=>t σ H λvs H1=>∀x dx,H1 x=none->H1 dx=none->dx≠x->
 sp (.ref x::(vs++dvs)) (upd (upd H1 dx (.own x)) x (.ins C dx [])) (λv H2=>v=.non/\Q (.ref x) H2) E
def j8 (K:PySem.W.Frag) (fd:FuncData) (ps:List Str) (ds:List Value):Prop:=
 ∀(s:Shared) (us:List Value),K.In s.heap->(us++ds).length=ps.length->BindsTo s fd ⟨us,[]⟩ (ps.zip (us++ds))
theorem j8.all {K:PySem.W.Frag} {fd:FuncData} {ps:List Str} (h:∀us:List Value,us.length=ps.length->bindArgs fd ⟨us,[]⟩=pure (ps.zip us)):j8 K fd ps []:=λs us _ hl=>by
 rw[List.append_nil]at hl ⊢
 exact .of_eq (h us hl)
def Jf (CX:W7) (X:Cx) (E:XK):Prop:=∀(pins:List (Addr×Obj)) (σ:St) (H:Hp) (s:Shared) (e:Value) (s':Shared),qy X pins σ H s->CX X.stack H s E e s'->X.xe e s'
section
variable {X:Cx} {CX:W7} {k:Nat} {f C:Addr} {fd:FuncData} {ps:List Str} {sp:Sp} {dvs:List V} {ds:List Value} {E:XK} {x m:Str} {p pos apos:Pos} {e o:Expr} {es:List Expr} {ta:TE} {t:TA}
theorem zZ {pins:List (Addr×Obj)} {σ:St} {H:Hp} {s:Shared} {Q:VK} {us:List Value} {vs:List V} (F:qv X.prog X.w X.K X.mg X.base CX k f fd ps sp) (hr:jg k X.A) (hb:j8 X.K fd ps ds) (hd:qF dvs ds) (hx:Jf CX X E)
   (I:qy X pins σ H s) (r:qF vs us) (h:sp (vs++dvs) H Q E):wpAny (model X.prog X.w) X.A (call (.ref f) us) (EP X pins σ Q) X.xe s:=by
 have r2:qF (vs++dvs) (us++ds):=r.append hd
 have hl:(us++ds).length=ps.length:=by rw[<-r2.length];exact F.len _ _ _ _ h
 refine wpAny_call (codeAny_mono (F.run X.A X.stack s H ⟨us,[]⟩ (us++ds) (vs++dvs) Q E hr I.env0 (hb s us I.kIn hl) r2 h) λr s' hq=>?_)
 cases r with
 | error e=>exact hx pins σ H s e s' I hq
 | ok fl=>
   cases fl with
   | ret u=>exact I.after hq
   | next=>exact False.elim hq
   | brk=>exact False.elim hq
   | cont=>exact False.elim hq
theorem wu (F:qv X.prog X.w X.K X.mg X.base CX k f fd ps sp) (hr:jg k X.A) (hg:Gl X x) (hm:X.mg x=some (.ref f)) (hk:PySem.W.keepIn X.K (.ref f)=true) (hb:j8 X.K fd ps ds) (hd:qF dvs ds) (hx:Jf CX X E)
   (ha:PA X (e::es) t) (hdb:(x==("__debug__":Str))=false:=by decide) (he:starEach (e::es) X.env=(false,eval e X.env)::starEach es X.env:=by rfl) (hpl:(backTo pos (starEach es X.env)).any (·.1)=false:=by rfl):
   PE X (.Call (.Name x p) (e::es) [] pos) (Wj sp dvs E t):=by
 intro pins s σ H Q I h
 refine wpAny_Call_Name_kw (XN I hg hm ?_ hdb)
 refine PySem.W.callWith_K (h₀:=X.base) I.ok.mod.kin hk (jd (ha pos pins s σ H _ I h) λus s1 ⟨vs,H1,I1,r,q⟩=>⟨I1.kIn,?_⟩) he hpl
 exact zZ F hr hb hd hx I1 r q
theorem wq {pl:Sem Bool} (he:PE X o ta) (c:YB X.K C) (hm:W5 X.K C m f) (F:qv X.prog X.w X.K X.mg X.base CX k f fd ps sp) (hr:jg k X.A) (hb:j8 X.K fd ps ds) (hd:qF dvs ds) (hx:Jf CX X E) (ha:PA X (e::es) t)
   (hst:starEach (e::es) X.env=(false,eval e X.env)::starEach es X.env:=by rfl) (hpl:(backTo pos (starEach es X.env)).any (·.1)=false:=by rfl)
   (ht:eval (.Call (.Attribute o m apos) (e::es) [] pos) X.env=(do
     let ov <-eval o X.env
     standAt apos.atName
     let (f,first) <-holding [ov] (getMethod ov m pl)
     callWith pos f first (backTo pos (starEach (e::es) X.env)) (backToKw pos (keywordEach [] X.env))):=by rfl):
   PE X (.Call (.Attribute o m apos) (e::es) [] pos) (YN C m sp dvs E ta t):=by
 intro pins s σ H Q I h
 refine PySem.W.methodCall_KW (pl:=pl) (jd (he pins s σ H _ I h) λu s1 ⟨x,H1,I1,rx,a,dx,fs,ex,ea,l,q⟩=>?_) ht
 subst ex
 obtain rfl:u=Value.ref a:=rx
 refine Jc I1 ea c hm l ?_
 refine PySem.W.callWith_K (first:=[.ref a]) (h₀:=X.base) I.ok.mod.kin hm.kp (jd (ha pos pins s1 σ H1 _ I1 q) λus s2 ⟨vs,H2,I2,r,q2⟩=>⟨I2.kIn,?_⟩) hst hpl
 exact zZ (us:=.ref a::us) (vs:=.ref a::vs) F hr hb hd hx I2 (.cons rfl r) q2
theorem ua {pl:Sem Bool} (he:JE X o ta) (c:YB X.K C) (hm:W5 X.K C m f) (F:qv X.prog X.w X.K X.mg X.base CX k f fd ps sp) (hr:jg k X.A) (hb:j8 X.K fd ps ds) (hd:qF dvs ds) (hx:Jf CX X E) (ha:JA X (e::es) t) (hst:starEach (e::es) X.env=(false,eval e X.env)::starEach es X.env:=by rfl) (hpl:(backTo pos (starEach es X.env)).any (·.1)=false:=by rfl) (ht:eval (.Call (.Attribute o m apos) (e::es) [] pos) X.env=(do
     let ov <-eval o X.env
     standAt apos.atName
     let (f,first) <-holding [ov] (getMethod ov m pl)
     callWith pos f first (backTo pos (starEach (e::es) X.env)) (backToKw pos (keywordEach [] X.env))):=by rfl):JE X (.Call (.Attribute o m apos) (e::es) [] pos) (YN C m sp dvs E ta t):=.of (wq he.to c hm F hr hb hd hx ha.to hst hpl ht)
theorem k7 {pl:Sem Bool} (he:PE X o ta) (c:YB X.K C) (hm:W5 X.K C m f) (F:qv X.prog X.w X.K X.mg X.base CX k f fd ps sp) (hr:jg k X.A) (hb:j8 X.K fd ps ds) (hd:qF dvs ds) (hx:Jf CX X E)
   (ht:eval (.Call (.Attribute o m apos) [] [] pos) X.env=(do
     let ov <-eval o X.env
     standAt apos.atName
     let (f,first) <-holding [ov] (getMethod ov m pl)
     callWith pos f first (backTo pos (starEach [] X.env)) (backToKw pos (keywordEach [] X.env))):=by rfl):
   PE X (.Call (.Attribute o m apos) [] [] pos) (YN C m sp dvs E ta QX):=by
 intro pins s σ H Q I h
 refine PySem.W.methodCall_KW (pl:=pl) (jd (he pins s σ H _ I h) λu s1 ⟨x,H1,I1,rx,a,dx,fs,ex,ea,l,q⟩=>?_) ht
 subst ex
 obtain rfl:u=Value.ref a:=rx
 refine Jc I1 ea c hm l ?_
 exact PySem.W.callWith_K0 (first:=[.ref a]) I1.kIn hm.kp (zZ (us:=[.ref a]) (vs:=[.ref a]) F hr hb hd hx I1 (.cons rfl .nil) q)
theorem yO {pl:Sem Bool} (he:JE X o ta) (c:YB X.K C) (hm:W5 X.K C m f) (F:qv X.prog X.w X.K X.mg X.base CX k f fd ps sp) (hr:jg k X.A) (hb:j8 X.K fd ps ds) (hd:qF dvs ds) (hx:Jf CX X E) (ht:eval (.Call (.Attribute o m apos) [] [] pos) X.env=(do
     let ov <-eval o X.env
     standAt apos.atName
     let (f,first) <-holding [ov] (getMethod ov m pl)
     callWith pos f first (backTo pos (starEach [] X.env)) (backToKw pos (keywordEach [] X.env))):=by rfl):JE X (.Call (.Attribute o m apos) [] [] pos) (YN C m sp dvs E ta QX):=.of (k7 he.to c hm F hr hb hd hx ht)
structure Mk (K:PySem.W.Frag) (C f:Addr):Prop where
 makes:PySem.W.makesIn K C=true
 init:PySem.W.findIn K (.ref C) "__init__"=some (some (.ref f))
 fn:PySem.W.isFn K (.ref f)=true
 kp:PySem.W.keepIn K (.ref C)=true
theorem kM {pins:List (Addr×Obj)} {σ:St} {H:Hp} {s:Shared} {Q:VK} {us:List Value} {vs:List V} (M:Mk X.K C f) (F:qv X.prog X.w X.K X.mg X.base CX k f fd ps sp) (hr:jg (k+1) X.A) (hb:j8 X.K fd ps ds) (hd:qF dvs ds)
   (hx:Jf CX X E) (I:qy X pins σ H s) (r:qF vs us)
   (h:∀x dx,H x=none->H dx=none->dx≠x->sp (.ref x::(vs++dvs)) (upd (upd H dx (.own x)) x (.ins C dx [])) (λv H2=>v=.non/\Q (.ref x) H2) E):
   wpAny (model X.prog X.w) X.A (call (.ref C) us) (EP X pins σ Q) X.xe s:=by
 have hq:=h (s.heap.objs.size+1) s.heap.objs.size (I.hok.fresh (Nat.le_succ _)) (I.hok.fresh (Nat.le_refl _)) (Nat.ne_of_lt (Nat.lt_succ_self _))
 have I2:=qy.made (C:=C) I
 have r2:qF (V.ref (s.heap.objs.size+1)::(vs++dvs)) (Value.ref (s.heap.objs.size+1)::(us++ds)):=.cons rfl (r.append hd)
 have hl:(Value.ref (s.heap.objs.size+1)::us++ds).length=ps.length:=by
   have e:=r2.length
   rw[F.len _ _ _ _ hq]at e
   exact e.symm
 refine wpAny_call (yB (f:=f) I.kIn M.makes M.init (beq_iff_eq.mp M.fn) (codeAny_mono (F.run _ X.stack _ _ ⟨Value.ref (s.heap.objs.size+1)::us,[]⟩ (Value.ref (s.heap.objs.size+1)::(us++ds)) _ _ E (hr.make C us [])
   (I2.env0.make C us []) (hb _ (Value.ref (s.heap.objs.size+1)::us) I2.kIn hl) r2 hq) λr s' hq'=>?_))
 cases r with
 | error e=>exact hx pins σ _ _ e s' I2 hq'
 | ok fl=>
   cases fl with
   | ret u=>
     obtain⟨v,H',I3,rv,ev,q3⟩:=I2.after hq'
     subst ev
     exact⟨rv,⟨V.ref (s.heap.objs.size+1),H',I3,rfl,q3⟩⟩
   | next=>exact False.elim hq'
   | brk=>exact False.elim hq'
   | cont=>exact False.elim hq'
theorem zy (M:Mk X.K C f) (F:qv X.prog X.w X.K X.mg X.base CX k f fd ps sp) (hr:jg (k+1) X.A) (hg:Gl X x) (hm:X.mg x=some (.ref C)) (hb:j8 X.K fd ps ds) (hd:qF dvs ds) (hx:Jf CX X E) (ha:JA X (e::es) t) (hdb:(x==("__debug__":Str))=false:=by decide) (he:starEach (e::es) X.env=(false,eval e X.env)::starEach es X.env:=by rfl) (hpl:(backTo pos (starEach es X.env)).any (·.1)=false:=by rfl):JE X (.Call (.Name x p) (e::es) [] pos) (GQ C sp dvs E t):=.of (by
 have ha:=ha.to
 intro pins s σ H Q I h
 refine wpAny_Call_Name_kw (XN I hg hm ?_ hdb)
 refine PySem.W.callWith_K (h₀:=X.base) I.ok.mod.kin M.kp (jd (ha pos pins s σ H _ I h) λus s1 ⟨vs,H1,I1,r,q⟩=>⟨I1.kIn,?_⟩) he hpl
 exact kM M F hr hb hd hx I1 r q)
end
section
variable {X:Cx} {CX:W7} {k:Nat} {f C:Addr} {fd:FuncData} {ps ks:List Str} {sp:Sp} {E:XK} {x m:Str} {p pos apos kpos:Pos} {e o:Expr} {es:List Expr} {kws:List Keyword} {te ta:TE} {t tk:TA} {nm:Option Str}
structure Mc (K:PySem.W.Frag) (fd:FuncData) (ps ks:List Str) (g:List Value->List Value->List Value) (gV:List V->List V->List V):Prop where
 to:∀(s:Shared) (us ws:List Value),K.In s.heap->(g us ws).length=ps.length->BindsTo s fd ⟨us,ks.zip ws⟩ (ps.zip (g us ws))
 rel:∀{vs:List V} {us:List Value} {zs:List V} {ws:List Value},qF vs us->qF zs ws->qF (gV vs zs) (g us ws)
variable {g:List Value->List Value->List Value} {gV:List V->List V->List V}
end
structure qu (N P:List Str) (sc:Scope):Prop where
 kind:sc.kind=.function
 co:sc.isCoroutine=false
 gen:sc.isGenerator=false
 nd:N.Nodup
 pre:N.take P.length=P
 par:∀x∈P,sc.names.lookup x=some .local\/sc.names.lookup x=some .cell
 nofree:∀y∈sc.names,y.2≠.free
theorem Xe {kindOf:Str->Option NameKind} {x:Str}:∀{binds:List (Str×Value)} {m:Str->Option Value},(∀v,(x,v)∉binds)->bindL kindOf binds m x=m x
 | [],_,_=>rfl
 | (n,v)::r,m,h=>by
   unfold bindL
   rw[Xe λw hw=>h w (List.mem_cons_of_mem _ hw)]
   split
   . have:x≠n:=by rintro rfl;exact h v List.mem_cons_self
     simp [this]
   . rfl
theorem Xg {kindOf:Str->Option NameKind} {x:Str}:∀{binds:List (Str×Value)} {m:Str->Option Value},(∀v,(x,v)∉binds)->bindC kindOf binds m x=m x
 | [],_,_=>rfl
 | (n,v)::r,m,h=>by
   unfold bindC
   rw[Xg λw hw=>h w (List.mem_cons_of_mem _ hw)]
   split
   . rfl
   . have:x≠n:=by rintro rfl;exact h v List.mem_cons_self
     simp [this]
theorem Xf {kindOf:Str->Option NameKind} {x:Str} {v:Value}:∀{P:List Str} {vs:List Value} {i:Nat} {m:Str->Option Value},P.Nodup->P[i]?=some x->vs[i]?=some v->kindOf x=some .local->
   bindL kindOf (P.zip vs) m x=some v
 | [],_,_,_,_,h,_,_=>by simp at h
 | _::_,[],_,_,_,_,h,_=>by simp at h
 | p::P,w::vs,0,m,nd,h1,h2,hk=>by
   simp at h1 h2;subst h1;subst h2
   show bindL kindOf ((p,w)::P.zip vs) m p=_
   unfold bindL
   rw[Xe λv hv=>(List.nodup_cons.mp nd).1 (List.of_mem_zip hv).1,if_pos hk]
   simp
 | p::P,w::vs,i+1,m,nd,h1,h2,hk=>by
   show bindL kindOf ((p,w)::P.zip vs) m x=_
   unfold bindL
   exact Xf (i:=i) (List.nodup_cons.mp nd).2 (by simpa using h1) (by simpa using h2) hk
theorem Xh {kindOf:Str->Option NameKind} {x:Str} {v:Value}:∀{P:List Str} {vs:List Value} {i:Nat} {m:Str->Option Value},P.Nodup->P[i]?=some x->vs[i]?=some v->kindOf x≠some .local->
   bindC kindOf (P.zip vs) m x=some v
 | [],_,_,_,_,h,_,_=>by simp at h
 | _::_,[],_,_,_,_,h,_=>by simp at h
 | p::P,w::vs,0,m,nd,h1,h2,hk=>by
   simp at h1 h2;subst h1;subst h2
   show bindC kindOf ((p,w)::P.zip vs) m p=_
   unfold bindC
   rw[Xg λv hv=>(List.nodup_cons.mp nd).1 (List.of_mem_zip hv).1,if_neg hk]
   simp
 | p::P,w::vs,i+1,m,nd,h1,h2,hk=>by
   show bindC kindOf ((p,w)::P.zip vs) m x=_
   unfold bindC
   exact Xh (i:=i) (List.nodup_cons.mp nd).2 (by simpa using h1) (by simpa using h2) hk
def Zi (N:List Str) (vs:List V):St:=vs.map some++List.replicate (N.length - vs.length) none
def VG (CX:W7) (P:Program) (w:World) (K:PySem.W.Frag) (mg:Str->Option Value) (base:Heap) (N:List Str) (qual:Str) (scope:Scope) (f:Addr) (cd:Value) (A:Around) (outer:List Env) (s:Shared) (H:Hp) (E:XK):Cx where
 prog:=P
 w:=w
 K:=K
 mg:=mg
 base:=base
 A:=A.deeper (envOfC qual scope s.heap.objs.size f cd)
 N:=N
 s₀:=s
 H₀:=H
 env:=envOfC qual scope s.heap.objs.size f cd
 outer:=outer
 stack:=envOfC qual scope s.heap.objs.size f cd::outer
 ex:=[]
 calm:=true
 fn:=λ_=>true
 pn:=[]
 xe:=λe s'=>wpAny (model P w) (A.deeper (envOfC qual scope s.heap.objs.size f cd)) (leaving (envOfC qual scope s.heap.objs.size f cd) e) (λ_ s''=>CX outer H s E e s'') (λe' s''=>CX outer H s E e' s'') s'
theorem W0 {sc:Scope} {n:Nat} {x:Str} (h:sc.names.lookup x=some .cell):∃c,(cellsFrom n sc.names []).lookup x=some c:=by
 have q:=PySem.W.cellsFrom_some sc.names n [] (.inl h)
 exact Option.isSome_iff_exists.mp q
theorem vJ {CX:W7} {P:Program} {w:World} {K:PySem.W.Frag} {mg:Str->Option Value} {base:Heap} {N ps:List Str} {qual:Str} {scope:Scope} {f:Addr} {cd:Value} {A:Around} {outer:List Env} {s s1:Shared} {H:Hp} {E:XK} {us:List Value} {vs:List V}
   (S:qu N ps scope) (hd:A.handled=none) (e0:VP P w K mg base A outer s H) (hl:vs.length=ps.length) (r:qF vs us)
   (x:InCallC s s.heap.objs.size (bindL (envOfC qual scope s.heap.objs.size f cd).kindOf (ps.zip us) λ_=>none) (cellsFrom (s.heap.objs.size+1) scope.names []) (bindC (envOfC qual scope s.heap.objs.size f cd).kindOf (ps.zip us) λ_=>none) s1):
   qy (VG CX P w K mg base N qual scope f cd A outer s H E) [] (Zi N vs) H s1:=by
 have hpl:ps.length<=N.length:=by have:=congrArg List.length S.pre;rw[List.length_take]at this;omega
 obtain⟨h1,tk,rfl,hk⟩:=x.done
 have noA:∀b:Addr,b∉(VG CX P w K mg base N qual scope f cd A outer s H E).ex:=λb z=>absurd (show b∈([]:List Addr) from z) (by simp)
 refine⟨⟨e0.mod,S.kind,rfl,rfl,Nat.le_refl _,λy z c h1 h2=>?_,λy hy=>?_,λy c _ h=>?_,λ_=>hd,Around.frames_deeper e0.frames,.inr ⟨rfl,rfl⟩,λb z=>absurd z (noA b),e0.bs,e0.bsz,λb _ _=>noA b,λb z=>absurd z (noA b),e0.funs,e0.frf⟩,
   rfl,e0.bare,Un.kept hk,⟨_,x.toInCall.ns,λi y v h1 h2 h3=>?_⟩,λy c h=>⟨_,x.cell y c h⟩,e0.hok.fresh (Nat.le_refl _),λy c h=>?_,λp hp=>absurd (show p∈([]:List (Addr×Obj)) from hp) (by simp),e0.hok.kept hk,?_⟩
 . exact name_of_addr x.apart (PySem.mem_of_lookup h1) (PySem.mem_of_lookup h2)
 . have hy:scope.names.lookup y=some .cell\/scope.names.lookup y=some .free:=hy
   rcases hy with hy | hy
   . exact W0 hy
   . exact absurd rfl (S.nofree _ (PySem.mem_of_lookup hy))
 . exact Nat.le_of_lt (x.above y c (PySem.mem_of_lookup h))
 . have hi:i < vs.length:=by
     unfold Zi at h2
     by_cases hi:i < vs.length
     . exact hi
     . rw[List.getElem?_append_right (by simpa using hi)]at h2
       rw[List.getElem?_replicate]at h2
       split at h2<;>cases h2
   have ha:vs[i]?=some v:=by
     unfold Zi at h2
     rw[List.getElem?_append_left (by simpa using hi),List.getElem?_map]at h2
     cases e:vs[i]? with
     | none=>rw[e]at h2;cases h2
     | some a=>rw[e]at h2;cases h2;rfl
   obtain⟨u,hu,rv⟩:=r.get ha
   have hp:ps[i]?=some y:=by
     rw[<-S.pre,List.getElem?_take_of_lt (by omega)];exact h1
   have ndP:ps.Nodup:=by rw[<-S.pre];exact S.nd.sublist (List.take_sublist _ _)
   refine⟨u,rv,?_⟩
   rcases S.par y (List.mem_of_getElem? hp) with k | k
   . exact .inl ⟨k,Xf ndP hp hu k⟩
   . obtain⟨c,e⟩:=W0 (n:=s.heap.objs.size+1) k
     refine .inr ⟨.inl k,c,e,?_⟩
     have q:=x.cell y c e
     rw[Xh ndP hp hu (by show scope.names.lookup y≠_;rw[k];decide)]at q
     exact q
 . exact e0.hok.fresh (Nat.le_of_lt (x.above y c (PySem.mem_of_lookup h)))
 . unfold Zi
   show _=N.length
   rw[List.length_append,List.length_map,List.length_replicate]
   omega
theorem RW {CX:W7} {P:Program} {w:World} {K:PySem.W.Frag} {mg:Str->Option Value} {base:Heap} {k:Nat} {f:Addr} {name qual:Str} {params:Arguments} {body:List Stmt} {scope:Scope} {dV kV doc pm cdv ct oc:Value} {an od:Option Addr}
   {osl:Array (Option Value)} {N ps:List Str} {sp:Sp} (lk:K.lookup f=some ⟨oc,od,.func (PySem.W.fnOf name qual params body scope dV kV doc pm an cdv ct),osl⟩) (hcd:PySem.W.codeIn K cdv qual=true) (S:qu N ps scope)
   (len:∀vs H Q E,sp vs H Q E->vs.length=ps.length)
   (hbody:∀(A:Around) (outer:List Env) (s:Shared) (H:Hp) (vs:List V) (Q:VK) (E:XK),jg k (A.deeper (envOfC qual scope s.heap.objs.size f cdv))->sp vs H Q E->
     ∃t,Kb (VG CX P w K mg base N qual scope f cdv A outer s H E) body t/\t {nx:=λ_ H'=>Q .non H',rt:=Q} (Zi N vs) H):
   qv P w K mg base CX (k+1) f (PySem.W.fnOf name qual params body scope dV kV doc pm an cdv ct) ps sp:=by
 refine⟨len,λA outer s H args us vs Q E hr e0 hb r hsp=>?_⟩
 have hl:=len _ _ _ _ hsp
 have KX:K.In s.heap:=e0.mod.kin.keeps λb o e=>(e0.bs b o e).1
 have lim:s.heap.NoLimit:=e0.mod.nolimit.keeps λb o e=>(e0.bs b o e).1
 have hkind:∀y∈ps.zip us,scope.names.lookup y.1=some .local\/(scope.names.lookup y.1=some .cell/\((cellsFrom (s.heap.objs.size+1) scope.names []).lookup y.1).isSome=true):=λ⟨n,v⟩ hy=>by
   rcases S.par n (List.of_mem_zip hy).1 with q | q
   . exact .inl q
   . exact .inr ⟨q,PySem.W.cellsFrom_some _ _ _ (.inl q)⟩
 refine codeAny_call_function hr.depth (KX _ _ lk) rfl S.co S.gen rfl (PySem.W.codeRec_of KX hcd) (hb _ _ _ _ ?_)
 refine wpAny_newFunctionEnv_cells S.kind hkind λenv he s1 x=>?_
 subst he
 refine⟨lim.keeps x.toInCall.keep,codeAny_func ?_⟩
 obtain⟨t,ht,hq⟩:=hbody A outer s H vs Q E (hr.deeper _) hsp
 have I:qy (VG CX P w K mg base N qual scope f cdv A outer s H E) [] (Zi N vs) H s1:=vJ S hr.hd e0 hl r x
 refine wpAny_mono (ht [] s1 (Zi N vs) H _ I hq) (λfl s' hs=>?_) λe s' hs=>hs
 have fin:∀{σ':St} {H':Hp} {v:V} {u:Value},qy (VG CX P w K mg base N qual scope f cdv A outer s H E) [] σ' H' s'->qI v u->Q v H'->CE outer P w H s Q u s':=
   λ{σ' H' v u} J rv q=>⟨v,H',J.os,J.bare,J.base,J.hok,rv,q⟩
 cases fl with
 | ret u=>
   obtain⟨v,σ',H',J,rv,q⟩:=hs
   exact fin J rv q
 | next=>
   obtain⟨σ',H',J,q⟩:=hs
   exact fin (v:=V.non) (u:=Value.none) J rfl q
 | brk=>
   obtain⟨_,_,_,q⟩:=hs
   exact False.elim q
 | cont=>
   obtain⟨_,_,_,q⟩:=hs
   exact False.elim q
end L2
namespace L2
open PySem PySem.Spec PyProof.Rows
section
variable {X:Cx} {x:Str} {p pos:Pos} {e:Expr} {es:List Expr} {t:TA} {id T:String} {r:List V->Hp->VK->Prop}
def Nf (r:List V->Hp->VK->Prop) (t:TA):TE:=λσ H Q=>t σ H λvs H1=>r vs H1 Q
theorem qC (hc:j5 X (.builtin id) r) (hg:Gl X x) (hm:X.mg x=none) (hv:bootBuiltins x=some (.builtin id)) (ha:JA X (e::es) t) (hn:x≠"__name__":=by decide) (hdb:(x==("__debug__":Str))=false:=by decide) (he:starEach (e::es) X.env=(false,eval e X.env)::starEach es X.env:=by rfl) (hpl:(backTo pos (starEach es X.env)).any (·.1)=false:=by rfl):JE X (.Call (.Name x p) (e::es) [] pos) (Nf r t):=.of (by
 have ha:=ha.to
 intro pins s σ H Q I h
 refine wpAny_Call_Name_kw (QR I hg hm hv ?_ hn hdb)
 exact PyProof.Rows.callWith_builtin1 (jd (ha pos pins s σ H _ I h) λus s1 ⟨vs,H1,I1,r1,q1⟩=>hc pins s1 σ H1 vs us Q I1 r1 q1) he hpl)
theorem ji (hc:j5 X (.type T) r) (hg:Gl X x) (hm:X.mg x=none) (hv:bootBuiltins x=some (.type T)) (ha:JA X (e::es) t) (hn:x≠"__name__":=by decide) (hdb:(x==("__debug__":Str))=false:=by decide) (he:starEach (e::es) X.env=(false,eval e X.env)::starEach es X.env:=by rfl) (hpl:(backTo pos (starEach es X.env)).any (·.1)=false:=by rfl):JE X (.Call (.Name x p) (e::es) [] pos) (Nf r t):=.of (by
 have ha:=ha.to
 intro pins s σ H Q I h
 refine wpAny_Call_Name_kw (QR I hg hm hv ?_ hn hdb)
 exact PyProof.Rows.callWith_type1 (jd (ha pos pins s σ H _ I h) λus s1 ⟨vs,H1,I1,r1,q1⟩=>hc pins s1 σ H1 vs us Q I1 r1 q1) he hpl)
end
end L2
namespace HT
open PySem PyProof.Rows
section
open PySem.SeqAt
open PySem.AutoSeq1 (wpAny_loadPart')
open PySem.MeetsSeq PySem.MeetsSeq2 PySem.MeetsSeq3
end
section
variable {prog:Program} {w:World} {A:Around} {E:Value->Shared->Prop} {s:Shared}
def sIx (n d:Nat):Option Int->Nat
 | none=>d
 | some v=>if v < 0 then (v+(n:Int)).toNat else min v.toNat n
theorem sIx_none (n d:Nat):sIx n d none=d:=rfl
theorem sIx_nat (n d k:Nat):sIx n d (some (k:Int))=min k n:=by
 show (if (k:Int) < 0 then ((k:Int)+(n:Int)).toNat else min (k:Int).toNat n)=min k n
 rw[if_neg (by omega),Int.toNat_natCast]
end
end HT
namespace L2
open PySem PySem.Spec PyProof.Rows
abbrev TO:=St->Hp->(Option Int->Hp->Prop)->Prop
def PO (X:Cx) (e:Option Expr) (t:TO):Prop:=
 ∀(pins:List (Addr×Obj)) (s:Shared) (σ:St) (H:Hp) (Q:Option Int->Hp->Prop),qy X pins σ H s->t σ H Q->
   wpAny (model X.prog X.w) X.A (evalPart e X.env) (λu s'=>∃o H',qy X pins σ H' s'/\IsPart u o/\Q o H') X.xe s
@[irreducible] def JO (X:Cx) (e:Option Expr) (t:TO):Prop:=PO X e t
theorem JO.of {X:Cx} {e:Option Expr} {t:TO} (h:PO X e t):JO X e t:=by unfold JO;exact h
theorem JO.to {X:Cx} {e:Option Expr} {t:TO} (h:JO X e t):PO X e t:=by unfold JO at h;exact h
def xH:TO:=λ_ H Q=>Q none H
def GJ (t:TE):TO:=λσ H Q=>t σ H λx H1=>∃i,x=.int i/\Q (some i) H1
theorem Vx {ns:List Int}:∀{us:List Value},qF (ns.map V.int) us->IntsAre us ns:=by
 induction ns with
 | nil=>intro us r;rw[List.map_nil]at r;cases r;exact .nil
 | cons n ns ih=>
   intro us r
   rw[List.map_cons]at r
   cases r with
   | cons r1 r2=>
     obtain⟨t,e⟩:=r1
     subst e
     exact .cons n t (ih r2)
section
variable {X:Cx} {e:Expr} {te:TE} {lo hi:Option Expr} {tl th:TO} {pos p2:Pos}
theorem zx:JO X none xH:=.of (by
 intro pins s σ H Q I h
 rw[evalPart_none]
 exact wpAny_pure ⟨none,H,I,.none,h⟩)
theorem zw (h:JE X e te):JO X (some e) (GJ te):=.of (by
 have h:=h.to
 intro pins s σ H Q I hw
 rw[evalPart_some]
 refine jd (h pins s σ H _ I hw) λu s1 ⟨x,H1,I1,r1,q1⟩=>?_
 obtain⟨i,rfl,q⟩:=q1
 obtain⟨t,rfl⟩:=r1
 exact⟨some i,H1,I1,.int i t,q⟩)
def N8 (X:Cx) (r:V->Option Int->Option Int->Hp->VK->Prop):Prop:=
 ∀(pins:List (Addr×Obj)) (s:Shared) (σ:St) (H:Hp) (x:V) (v vl vu:Value) (lo hi:Option Int) (sl:Addr) (Q:VK),qy X pins σ H s->qI x v->s.heap.IsSliceOf sl vl vu .none->IsPart vl lo->IsPart vu hi->r x lo hi H Q->
   ∃T id,typeLookup (.type T) "__getitem__"=pure (some (.builtin id))/\s.TypeIs v T/\wpAny (model X.prog X.w) X.A (getItem v (.ref sl)) (EP X pins σ Q) X.xe s
def tSl (r:V->Option Int->Option Int->Hp->VK->Prop) (te:TE) (tl th:TO):TE:=λσ H Q=>te σ H λx H1=>tl σ H1 λl H2=>th σ H2 λu H3=>r x l u H3 Q
theorem Zv {r:V->Option Int->Option Int->Hp->VK->Prop} (hr:N8 X r) (he:JE X e te) (hl:JO X lo tl) (hu:JO X hi th):JE X (.Subscript e (.Slice lo hi none p2) pos) (tSl r te tl th):=.of (by
 have he:=he.to
 have hl:=hl.to
 have hu:=hu.to
 intro pins s σ H Q I h
 refine Subscript_ (jd (he pins s σ H _ I h) λv s1 ⟨x,H1,I1,r1,q1⟩=>?_)
 refine wpAny_Slice (jd (hl pins s1 σ H1 _ I1 q1) λvl s2 ⟨l,H2,I2,pl,q2⟩=>jd (hu pins s2 σ H2 _ I2 q2) λvu s3 ⟨u,H3,I3,pu,q3⟩=>?_)
 rw[evalPart_none]
 refine wpAny_pure ?_
 have I4:qy X pins σ H3 {s3 with heap:=s3.heap.push {cls:=.type "slice",data:=.fields #[vl,vu,.none]}}:=I3.kept (t':=s3.toks) λb ob q=>Heap.get?_push_of_some _ q
 obtain⟨T,id,hT,ht,hg⟩:=hr pins {s3 with heap:=s3.heap.push {cls:=.type "slice",data:=.fields #[vl,vu,.none]}} σ H3 x v vl vu l u s3.heap.objs.size Q I4 r1 (Heap.IsSliceOf.new ..) pl pu q3
 show wpAny (model X.prog X.w) X.A (subscriptTail e (.Slice lo hi none p2) v (.ref s3.heap.objs.size)) (EP X pins σ Q) X.xe {s3 with heap:=s3.heap.push {cls:=.type "slice",data:=.fields #[vl,vu,.none]}}
 exact tail_any (ops:=[.ref s3.heap.objs.size,v]) ht hT hg (by with_unfolding_all rfl))
def WY (xs:List V) (lo hi:Option Int):List V:=(xs.drop (HT.sIx xs.length 0 lo)).take (HT.sIx xs.length xs.length hi - HT.sIx xs.length 0 lo)
theorem WX (xs:List V) (lo hi:Option Int):(WY xs lo hi).length<=xs.length:=by
 unfold WY
 rw[List.length_take,List.length_drop]
 omega
end
end L2
namespace L2
open PySem PySem.Spec PyProof.Rows
def Gw (n:Nat) (i:Int):Option Nat:=if 0<=i then (if i < n then some i.toNat else none) else if -(n:Int)<=i then some (i+n).toNat else none
def xq {α:Type} (xs:List α) (i:Int):Option α:=(Gw xs.length i).bind λj=>xs[j]?
theorem uf {n:Nat} {i:Int} {j:Nat} (h:Gw n i=some j):seqIndex? i n=some j/\j < n/\-(n:Int)<=i/\i < n:=by
 unfold Gw at h
 by_cases h0:0<=i
 . rw[if_pos h0]at h
   by_cases h1:i < n
   . rw[if_pos h1]at h
     have e:i.toNat=j:=Option.some.inj h
     exact⟨by rw[seqIndex_of h0 h1,e],by omega,by omega,h1⟩
   . rw[if_neg h1]at h;cases h
 . rw[if_neg h0]at h
   by_cases h1:-(n:Int)<=i
   . rw[if_pos h1]at h
     have e:(i+n).toNat=j:=Option.some.inj h
     exact⟨by rw[seqIndex_neg (by omega) h1,e],by omega,h1,by omega⟩
   . rw[if_neg h1]at h;cases h
theorem X0 {α:Type} {xs:List α} {i:Int} {v:α} (h:xq xs i=some v):∃j,seqIndex? i xs.length=some j/\xs[j]?=some v/\j < xs.length/\-(xs.length:Int)<=i/\i < xs.length:=by
 unfold xq at h
 cases e:Gw xs.length i with
 | none=>rw[e]at h;cases h
 | some j=>
   rw[e]at h
   obtain⟨h1,h2,h3,h4⟩:=uf e
   exact⟨j,h1,h,h2,h3,h4⟩
theorem Qi {α:Type} {xs:List α} {j:Nat} {v:α} (h:xs[j]?=some v):xq xs (j:Int)=some v:=by
 have hj:j < xs.length:=(List.getElem?_eq_some_iff.mp h).1
 have e:Gw xs.length (j:Int)=some j:=by
   unfold Gw
   rw[if_pos (by omega),if_pos (by omega)];simp
 unfold xq;rw[e];exact h
def uB (b:Expr):Prop:=∀o i,subscripted b false o i=operate [o,i] (getItem o i)
def Nl (X:Cx) (r:R2):Prop:=
 ∀(value slice:Expr) (pins:List (Addr×Obj)) (s:Shared) (σ:St) (H:Hp) (x y:V) (v u:Value) (Q:VK),qy X pins σ H s->qI x v->qI y u->r x y H Q->
   subscripted slice false v u=operate [v,u] (getItem v u)->wpAny (model X.prog X.w) X.A (subscriptTail value slice v u) (EP X pins σ Q) X.xe s
def Gz (X:Cx) (id:String) (r:V->List V->Hp->VK->Prop):Prop:=
 ∀(pins:List (Addr×Obj)) (s:Shared) (σ:St) (H:Hp) (x:V) (xs:List V) (v:Value) (us:List Value) (Q:VK),qy X pins σ H s->qI x v->qF xs us->r x xs H Q->
   wpAny (model X.prog X.w) X.A (call (.builtin id) (v::us)) (EP X pins σ Q) X.xe s
section
variable {X:Cx} {a b:Expr} {ta tb:TE} {pos:Pos}
theorem jA {r:R2} (hr:Nl X r) (ha:JE X a ta) (hb:JE X b tb) (hs:uB b):JE X (.Subscript a b pos) (YA r ta tb):=.of (by
 have ha:=ha.to
 have hb:=hb.to
 intro pins s σ H Q I h
 exact Subscript_ (Gg ha hb I h λv u s2 x y H2 I2 rx ry q=>hr a b pins s2 σ H2 x y v u Q I2 rx ry q (hs _ _)))
def Rp (K:PySem.W.Frag):R2:=λx y H Q=>∃p xs i v,x=.ref p/\y=.int i/\SqL K H p xs/\xq xs i=some v/\Q v H
def Wx (K:PySem.W.Frag):R2:=λx y H Q=>∃p xs i v,x=.ref p/\y=.int i/\zE K H p xs/\xq xs i=some v/\Q v H
def NH:R2:=λx y H Q=>∃z i c,x=.str z/\y=.int i/\z.length<=sizeLine/\xq z.cps.toList i=some c/\Q (.str ⟨#[c]⟩) H
theorem Zw:Nl X (Rp X.K):=by
 intro value slice pins s σ H x y v u Q I rx ry h hs
 obtain⟨p,xs,i,z,rfl,rfl,hq,he,q⟩:=h
 cases rx
 obtain⟨t,rfl⟩:=ry
 obtain⟨its,r,pl,hz⟩:=I.list hq
 obtain⟨j,h1,h2,h3,h4,h5⟩:=X0 he
 obtain⟨w,ew,rw'⟩:=r.get h2
 have hl:=r.length
 have hn:=Ye
 have fin:EP X pins σ Q w s:=⟨z,H,I,rw',q⟩
 by_cases h0:0<=i
 . have hj:i.toNat=j:=by
     rw[seqIndex_of h0 h5]at h1
     exact Option.some.inj h1
   exact item_listR pl.isList h0 (by omega) (by rw[hj];simpa using ew) fin hs
 . have hj:(i+(its.toArray.size:Int)).toNat=j:=by
     rw[seqIndex_neg (by omega) h4]at h1
     rw[List.size_toArray,<-hl]
     exact Option.some.inj h1
   exact subscriptTail_builtinR (x:=w) pl.isList.typeIs slot_list_getitem.lookup
     (wpAny_getItem_list_neg (Q:=λr s'=>r=w/\EP X pins σ Q r s') pl.isList (by omega) (by rw[List.size_toArray]<;>omega) (by omega) (by rw[hj];simpa using ew) ⟨rfl,fin⟩) hs
theorem jD:Nl X (Wx X.K):=by
 intro value slice pins s σ H x y v u Q I rx ry h hs
 obtain⟨p,xs,i,z,rfl,rfl,hq,he,q⟩:=h
 cases rx
 obtain⟨t,rfl⟩:=ry
 obtain⟨its,r,pl,hz⟩:=I.tuple hq
 obtain⟨j,h1,h2,h3,h4,h5⟩:=X0 he
 obtain⟨w,ew,rw'⟩:=r.get h2
 have hl:=r.length
 have hn:=Ye
 have fin:EP X pins σ Q w s:=⟨z,H,I,rw',q⟩
 exact subscriptTail_builtinR (x:=w) pl.typeIs slot_tuple_getitem.lookup
   (getItem_tuple (j:=j) (Q:=λr s'=>r=w/\EP X pins σ Q r s') pl (by omega) (by omega) (by rw[List.size_toArray,<-hl];exact h1) (by simpa using ew) ⟨rfl,fin⟩) hs
theorem yS:Nl X NH:=by
 intro value slice pins s σ H x y v u Q I rx ry h hs
 obtain⟨z,i,c,rfl,rfl,hz,he,q⟩:=h
 obtain⟨t,rfl⟩:=rx
 obtain⟨t',rfl⟩:=ry
 obtain⟨j,h1,h2,h3,h4,h5⟩:=X0 he
 have hl:z.cps.toList.length=z.length:=by simp [Str.length]
 rw[hl]at h1 h4 h5
 have hn:=Ye
 exact tail_any (typeIs_str s z t) slot_str_getitem.lookup (getItem_str (c:=c) (by
   have e1:decide (i < -(2^63:Int))=false:=decide_eq_false (by omega)
   have e2:decide (i ≥ 2^63)=false:=decide_eq_false (by omega)
   rw[e1,e2,Bool.or_false]) (by rw[h1];simpa using h2) ⟨.str ⟨#[c]⟩,H,I.tok _,⟨_,rfl⟩,q⟩) hs
theorem Xx (lo hi:Option Int) (n:Nat):(sliceBounds lo hi none n).1=((HT.sIx n 0 lo:Nat):Int)/\(sliceBounds lo hi none n).2.1=((HT.sIx n n hi:Nat):Int)/\(sliceBounds lo hi none n).2.2=1:=by
 refine⟨?_,?_,rfl⟩
 . cases lo with
   | none=>simp [sliceBounds,HT.sIx]
   | some i=>
     simp only[sliceBounds,HT.sIx,Option.getD_none,show (1:Int) > 0 by decide,if_true]
     by_cases h:i < 0
     . simp only[h,if_true]<;>omega
     . simp only[h,if_false]<;>omega
 . cases hi with
   | none=>simp [sliceBounds,HT.sIx]
   | some i=>
     simp only[sliceBounds,HT.sIx,Option.getD_none,show (1:Int) > 0 by decide,if_true]
     by_cases h:i < 0
     . simp only[h,if_true]<;>omega
     . simp only[h,if_false]<;>omega
theorem YD (its:List Value) (lo hi:Option Int):slicePick its.toArray lo hi none=((its.drop (HT.sIx its.length 0 lo)).take (HT.sIx its.length its.length hi - HT.sIx its.length 0 lo)).toArray:=by
 obtain⟨h1,h2,h3⟩:=Xx lo hi its.toArray.size
 unfold slicePick
 rw[h1,h2,h3]
 simp only[sliceRange_one,pick_run,List.size_toArray]<;>rfl
def NG (K:PySem.W.Frag):V->Option Int->Option Int->Hp->VK->Prop:=λx lo hi H Q=>∃a xs,x=.ref a/\SqL K H a xs/\∀p,H p=none->Q (.ref p) (upd H p (.lst (WY xs lo hi)))
theorem Ub:N8 X (NG X.K):=by
 intro pins s σ H x v vl vu lo hi sl Q I rx hs pl pu h
 obtain⟨a,xs,rfl,hx,q⟩:=h
 cases rx
 obtain⟨its,r,ht,hz⟩:=I.list hx
 have hlen:=r.length
 refine⟨"list",_,slot_list_getitem.lookup,ht.isList.typeIs,?_⟩
 refine wpAny_getItem_list_slice ht.isList hs pl pu .none (by simp) ?_ (by rw[List.size_toArray]<;>omega)
 rw[YD,<-hlen]
 refine⟨.ref s.heap.objs.size,_,I.laid (t':=s.toks) (o:=.lst (WY xs lo hi)) (λb ob q=>Heap.get?_push_of_some _ q) (Nat.le_refl _) ?_,rfl,q _ (I.hok.fresh (Nat.le_refl _))⟩
 exact⟨Nat.le_trans (WX xs lo hi) hz,_,0,(r.drop (HT.sIx xs.length 0 lo)).take (HT.sIx xs.length xs.length hi - HT.sIx xs.length 0 lo),Heap.get?_push_size _ rfl⟩
def Jn:V->Bool
 | .non=>true
 | .bl _=>true
 | .int _=>true
 | .str _=>true
 | _=>false
def kj:V->V->Bool
 | .non,.non=>true
 | .bl a,.bl b=>a==b
 | .bl a,.int b=>(if a then 1 else 0)==b
 | .int a,.bl b=>a==(if b then 1 else 0)
 | .int a,.int b=>a==b
 | .str a,.str b=>a==b
 | _,_=>false
theorem Ga {A:Around} {s:Shared} {y x:V} {u v:Value} (ry:qI y u) (rx:qI x v) (fy:Jn y=true) (fx:Jn x=true):SeqAt.EqAt A s u v (kj y x):=by
 cases y with
 | non=>
   cases ry
   cases x with
   | non=>cases rx;exact SeqAt.EqAt.same _
   | bl b=>cases rx;exact SeqAt.EqAt.none_bool b
   | int b=>obtain⟨t,rfl⟩:=rx;exact SeqAt.EqAt.none_int b t
   | str b=>obtain⟨t,rfl⟩:=rx;exact SeqAt.EqAt.none_str b t
   | _=>exact absurd (show false=true from fx) Bool.false_ne_true
 | bl a=>
   cases ry
   cases x with
   | non=>cases rx;exact SeqAt.EqAt.bool_none a
   | bl b=>cases rx;exact SeqAt.EqAt.bool_bool a b
   | int b=>obtain⟨t,rfl⟩:=rx;exact SeqAt.EqAt.bool_int a b t
   | str b=>obtain⟨t,rfl⟩:=rx;exact SeqAt.EqAt.bool_str a b t
   | _=>exact absurd (show false=true from fx) Bool.false_ne_true
 | int a=>
   obtain⟨t',rfl⟩:=ry
   cases x with
   | non=>cases rx;exact SeqAt.EqAt.int_none a t'
   | bl b=>cases rx;exact SeqAt.EqAt.int_bool a t' b
   | int b=>obtain⟨t,rfl⟩:=rx;exact SeqAt.EqAt.int_int a t' b t
   | str b=>obtain⟨t,rfl⟩:=rx;exact SeqAt.EqAt.int_str a t' b t
   | _=>exact absurd (show false=true from fx) Bool.false_ne_true
 | str a=>
   obtain⟨t',rfl⟩:=ry
   cases x with
   | non=>cases rx;exact SeqAt.EqAt.str_none a t'
   | bl b=>cases rx;exact SeqAt.EqAt.str_bool a t' b
   | int b=>obtain⟨t,rfl⟩:=rx;exact SeqAt.EqAt.str_int a t' b t
   | str b=>obtain⟨t,rfl⟩:=rx;exact SeqAt.EqAt.str_str a t' b t
   | _=>exact absurd (show false=true from fx) Bool.false_ne_true
 | _=>exact absurd (show false=true from fy) Bool.false_ne_true
def VD (x:V) (u:Value):Bool:=match u with
 | .none=>kj .non x
 | .bool b=>kj (.bl b) x
 | .int i _=>kj (.int i) x
 | .str z _=>kj (.str z) x
 | _=>false
theorem xg {x y:V} {u:Value} (r:qI y u) (f:Jn y=true):VD x u=kj y x:=by
 cases y with
 | non=>cases r;rfl
 | bl b=>cases r;rfl
 | int i=>obtain⟨t,rfl⟩:=r;rfl
 | str z=>obtain⟨t,rfl⟩:=r;rfl
 | _=>exact absurd (show false=true from f) Bool.false_ne_true
theorem ZF {x:V}:∀{xs:List V} {us:List Value},qF xs us->xs.all Jn=true->us.any (VD x)=xs.any λy=>kj y x
 | _,_,.nil,_=>rfl
 | y::xs,u::us,.cons r t,f=>by
   rw[List.all_cons,Bool.and_eq_true]at f
   rw[List.any_cons,List.any_cons,xg r f.1,ZF t f.2]
theorem Jy {A:Around} {s:Shared} {x:V} {v:Value} (rx:qI x v) (fx:Jn x=true):∀{xs:List V} {us:List Value},qF xs us->xs.all Jn=true->∀u∈us,SeqAt.EqAt A s u v (VD x u)
 | _,_,.nil,_=>λu hu=>by cases hu
 | y::xs,u::us,.cons r t,f=>λu' hu=>by
   rw[List.all_cons,Bool.and_eq_true]at f
   rcases List.mem_cons.mp hu with rfl | hu
   . rw[xg r f.1];exact Ga r rx f.1 fx
   . exact Jy rx fx t f.2 u' hu
def zc (x:V) (xs:List V):Bool:=xs.any λy=>kj y x
def Gv (K:PySem.W.Frag) (neg:Bool):R2:=λx y H Q=>∃p xs,y=.ref p/\(SqL K H p xs\/zE K H p xs)/\Jn x=true/\xs.all Jn=true/\Q (.bl (if neg then !zc x xs else zc x xs)) H
theorem JP:Zc X (compareOp .In) (Gv X.K false):=by
 intro pins s σ H x y v u Q I rx ry h
 obtain⟨p,xs,rfl,hq,fx,fs,q⟩:=h
 cases ry
 rcases hq with hq | hq
 . obtain⟨its,r,pl,hz⟩:=I.list hq
   refine SeqAt.in_listAt (VD x) pl.isList (λw hw=>Jy rx fx r fs w (by simpa using hw)) ⟨.bl _,H,I,rfl,?_⟩
   rw[show its.toArray.any (VD x)=its.any (VD x) by simp,ZF r fs]
   exact q
 . obtain⟨its,r,pl,hz⟩:=I.tuple hq
   refine SeqAt.in_tupleAt (VD x) pl (λw hw=>Jy rx fx r fs w (by simpa using hw)) ⟨.bl _,H,I,rfl,?_⟩
   rw[show its.toArray.any (VD x)=its.any (VD x) by simp,ZF r fs]
   exact q
theorem QZ:Zc X (compareOp .NotIn) (Gv X.K true):=by
 intro pins s σ H x y v u Q I rx ry h
 obtain⟨p,xs,rfl,hq,fx,fs,q⟩:=h
 cases ry
 rcases hq with hq | hq
 . obtain⟨its,r,pl,hz⟩:=I.list hq
   refine SeqAt.notIn_listAt (VD x) pl.isList (λw hw=>Jy rx fx r fs w (by simpa using hw)) ⟨.bl _,H,I,rfl,?_⟩
   rw[show its.toArray.any (VD x)=its.any (VD x) by simp,ZF r fs]
   exact q
 . obtain⟨its,r,pl,hz⟩:=I.tuple hq
   refine SeqAt.notIn_tupleAt (VD x) pl (λw hw=>Jy rx fx r fs w (by simpa using hw)) ⟨.bl _,H,I,rfl,?_⟩
   rw[show its.toArray.any (VD x)=its.any (VD x) by simp,ZF r fs]
   exact q
theorem jf:j5 X (.builtin "len") (λxs H Q=>∃p ys,xs=[.ref p]/\(SqL X.K H p ys\/zE X.K H p ys)/\Q (.int ys.length) H):=by
 intro pins s σ H xs us Q I r h
 obtain⟨p,ys,rfl,hq,q⟩:=h
 obtain⟨u,rfl,rx⟩:=Qv r
 cases rx
 have hn:=Ye
 rcases hq with hq | hq
 . obtain⟨its,r',pl,hz⟩:=I.list hq
   have hlen:=r'.length
   exact Calls.call_len_list pl.isList (by simp only[List.size_toArray]<;>omega) ⟨.int ys.length,H,I.tok _,⟨s.toks+1,by rw[List.size_toArray,hlen]⟩,q⟩
 . obtain⟨its,r',pl,hz⟩:=I.tuple hq
   have hlen:=r'.length
   exact len_tuple pl (by simp only[List.size_toArray]<;>omega) ⟨.int ys.length,H,I.tok _,⟨s.toks+1,by rw[List.size_toArray,hlen]⟩,q⟩
theorem Je:j5 X (.builtin "len") (λxs H Q=>∃z,xs=[.str z]/\z.length<=sizeLine/\Q (.int z.length) H):=by
 intro pins s σ H xs us Q I r h
 obtain⟨z,rfl,hz,q⟩:=h
 obtain⟨u,rfl,t,rfl⟩:=Qv r
 have hn:=Ye
 exact len_str (by omega) ⟨.int z.length,H,I.tok _,⟨_,rfl⟩,q⟩
theorem Jd:j5 X (.type "list") (λxs H Q=>∃p ys,xs=[.ref p]/\(SqL X.K H p ys\/zE X.K H p ys)/\∀l,H l=none->Q (.ref l) (upd H l (.lst ys))):=by
 intro pins s σ H xs us Q I r h
 obtain⟨p,ys,rfl,hq,q⟩:=h
 obtain⟨u,rfl,rx⟩:=Qv r
 cases rx
 have fin:∀(its:List Value),qF ys its->ys.length<=sizeLine->∀(h':Heap) (c':Nat),(∀b o',s.heap.get? b=some o'->h'.get? b=some o')->
     h'.get? s.heap.objs.size=some {cls:=.type "list",dict:=none,data:=.seq its.toArray c',slots:=#[]}->EP X pins σ Q (.ref s.heap.objs.size) {s with heap:=h'}:=λits r' hz h' c' kp e=>
   ⟨.ref s.heap.objs.size,_,I.laid (t':=s.toks) kp (Nat.le_refl _) (show qX X.prog X.w _ h' _ (.lst ys) from⟨hz,its,c',r',e⟩),rfl,q _ (I.hok.fresh (Nat.le_refl _))⟩
 rcases hq with hq | hq
 . obtain⟨its,r',pl,hz⟩:=I.list hq
   have hlen:=r'.length
   obtain⟨o,ho,hc,n,hd⟩:=pl.isList
   exact call_list_seq p (.inl rfl) ho hc hd (λh' c' kp e=>fin its r' hz h' c' kp e) (by simp only[List.size_toArray]<;>omega)
 . obtain⟨its,r',pl,hz⟩:=I.tuple hq
   have hlen:=r'.length
   obtain⟨o,ho,hc,n,hd⟩:=pl
   exact call_list_seq p (.inr rfl) ho hc hd (λh' c' kp e=>fin its r' hz h' c' kp e) (by simp only[List.size_toArray]<;>omega)
theorem Qh:j5 X (.type "tuple") (λxs H Q=>∃p ys,xs=[.ref p]/\((SqL X.K H p ys/\∀l,H l=none->Q (.ref l) (upd H l (.tup ys)))\/(zE X.K H p ys/\Q (.ref p) H))):=by
 intro pins s σ H xs us Q I r h
 obtain⟨p,ys,rfl,h⟩:=h
 obtain⟨u,rfl,rx⟩:=Qv r
 cases rx
 rcases h with ⟨hq,q⟩ | ⟨hq,q⟩
 . obtain⟨its,r',pl,hz⟩:=I.list hq
   have hlen:=r'.length
   refine call_tuple_list pl.isList (λh' kp=>?_) (by simp only[List.size_toArray]<;>omega)
   have I1:qy X pins σ H {s with heap:=h'}:=I.kept (t':=s.toks) kp
   have I2:qy X pins σ (upd H h'.objs.size (.tup ys)) {s with heap:=h'.push {cls:=.type "tuple",data:=.seq its.toArray}}:=
     I1.laid (t':=s.toks) (λb o e=>Heap.get?_push_of_some _ e) (Nat.le_refl _) (show qX X.prog X.w _ _ _ (.tup ys) from⟨hz,its,r',IsTup.new _ _⟩)
   exact⟨.ref h'.objs.size,_,I2,rfl,q _ (I1.hok.fresh (Nat.le_refl _))⟩
 . obtain⟨its,r',pl,hz⟩:=I.tuple hq
   exact call_tuple_same pl ⟨.ref p,H,I,rfl,q⟩
def Nm (K:PySem.W.Frag) (T:String) (x:V) (H:Hp):Prop:=match x with
 | .str _=>T="str"
 | .int _=>T="int"
 | .ref p=>(T="list"/\∃xs,SqL K H p xs)\/(T="tuple"/\∃o,K.lookup p=some o/\o.cls=.type "tuple"/\o.dict=none)\/
     (T="dict"/\((∃kvs,H p=some (.dK kvs))\/∃kvs,H p=some (.dT kvs)))\/(T="set"/\∃S n,H p=some (.set S n))
 | _=>False
theorem ko {pins:List (Addr×Obj)} {σ:St} {H:Hp} {s:Shared} {T:String} {x:V} {v:Value} (I:qy X pins σ H s) (r:qI x v) (ty:Nm X.K T x H):
   s.TypeIs v T/\∀a,v=.ref a->∃ob,s.heap.get? a=some ob/\ob.dict=none:=by
 cases x with
 | str z=>
   obtain⟨t,rfl⟩:=r
   cases (show T="str" from ty)
   exact⟨typeIs_str s z t,λ_ e=>nomatch e⟩
 | int i=>
   obtain⟨t,rfl⟩:=r
   cases (show T="int" from ty)
   exact⟨typeIs_int s i t,λ_ e=>nomatch e⟩
 | ref p=>
   cases r
   rcases ty with ⟨rfl,xs,hq⟩ | ⟨rfl,o,hk,hc,hd⟩ | ⟨rfl,hk⟩ | ⟨rfl,S,n,hk⟩
   . obtain⟨its,_,pl,_⟩:=I.list hq
     refine⟨pl.isList.typeIs,λa e=>?_⟩
     cases e
     obtain⟨o,n,e,c,hd,_⟩:=pl
     exact⟨o,e,hd⟩
   . refine⟨⟨o,I.kIn p o hk,hc⟩,λa e=>?_⟩
     cases e
     exact⟨o,I.kIn _ o hk,hd⟩
   . have z:∃o,s.heap.get? p=some o/\o.ExactDict:=by
       rcases hk with ⟨kvs,hk⟩ | ⟨kvs,hk⟩
       . obtain⟨_,_,_,_,o,_,_,e,ex,_⟩:=I.hok p _ hk
         exact⟨o,e,ex⟩
       . obtain⟨_,_,_,_,o,_,_,e,ex,_⟩:=I.hok p _ hk
         exact⟨o,e,ex⟩
     obtain⟨o,e,ex⟩:=z
     refine⟨⟨o,e,ex.1⟩,λa e2=>?_⟩
     cases e2
     exact⟨o,e,ex.2.1⟩
   . obtain⟨o,_,_,_,e,ex,_⟩:=I.hok p _ hk
     refine⟨⟨o,e,ex.1⟩,λa e2=>?_⟩
     cases e2
     exact⟨o,e,ex.2.1⟩
 | _=>exact False.elim ty
def Nw (K:PySem.W.Frag) (T:String) (r:V->List V->Hp->VK->Prop) (to:TE):TE:=λσ H Q=>to σ H λx H1=>Nm K T x H1/\r x [] H1 Q
def tBM (K:PySem.W.Frag) (T:String) (r:V->List V->Hp->VK->Prop) (to:TE) (t:TA):TE:=λσ H Q=>to σ H λx H1=>Nm K T x H1/\t σ H1 λxs H2=>r x xs H2 Q
variable {o e:Expr} {es:List Expr} {to:TE} {t:TA} {name:Str} {apos cpos:Pos} {T id:String} {r:V->List V->Hp->VK->Prop}
theorem Vw (pa:PlainAttrs T) (slot:Slot T name id) (hty:typeOf (.builtin id)=pure (.type "method_descriptor")) (hm:Gz X id r) (ho:JE X o to) (hbase:attributeBase o name X.env (eval o X.env)=eval o X.env:=by rfl) (hline:(apos.endLine==cpos.line)=true:=by rfl):JE X (.Call (.Attribute o name apos) [] [] cpos) (Nw X.K T r to):=.of (by
 have ho:=ho.to
 intro pins s σ H Q I h
 refine wpAny_Call_method0_late hbase hline (jd (ho pins s σ H _ I h) λv s1 ⟨x,H1,I1,r1,ty,q1⟩=>?_)
 obtain⟨h1,h2⟩:=ko I1 r1 ty
 exact⟨T,id,pa,slot,hty,h1,h2,Calls.callWith_builtin rfl (PySem.evalArgs_none (hm pins s1 σ H1 x [] v [] Q I1 r1 .nil q1))⟩)
theorem Ru (pa:PlainAttrs T) (slot:Slot T name id) (hty:typeOf (.builtin id)=pure (.type "method_descriptor")) (hm:Gz X id r) (ho:PE X o to) (ha:PA X (e::es) t)
   (hbase:attributeBase o name X.env (eval o X.env)=eval o X.env:=by rfl)
   (hfew:((backTo cpos (starEach (e::es) X.env)).all (λx=> !x.1)&&(backToKw cpos (keywordEach [] X.env)).all (λx=>x.1.isSome)
     &&decide ((e::es).length+([]:List Keyword).length+(if ([]:List Keyword).isEmpty then 0 else 1) < 30))=true:=by rfl)
   (hline:(apos.endLine==cpos.line)=true:=by rfl) (hs:starEach (e::es) X.env=(false,eval e X.env)::starEach es X.env:=by rfl) (hplain:(backTo cpos (starEach es X.env)).any (·.1)=false:=by rfl):
   PE X (.Call (.Attribute o name apos) (e::es) [] cpos) (tBM X.K T r to t):=by
 intro pins s σ H Q I h
 refine wpAny_Call_method_late hbase hfew hline rfl (jd (ho pins s σ H _ I h) λv s1 ⟨x,H1,I1,r1,ty,q1⟩=>?_)
 obtain⟨h1,h2⟩:=ko I1 r1 ty
 refine⟨T,id,pa,slot,hty,h1,h2,?_⟩
 have hA:=ha cpos pins s1 σ H1 _ I1 q1
 rw[hs]at hA ⊢
 refine Calls.callWith_builtin (by show (false || (backTo cpos (starEach es X.env)).any (·.1))=false;rw[hplain]<;>rfl) (Calls.evalArgs_plain ?_)
 exact jd hA λus s2 ⟨vs,H2,I2,r2,q2⟩=>hm pins s2 σ H2 x vs v us Q I2 r1 r2 q2
theorem WN (pa:PlainAttrs T) (slot:Slot T name id) (hty:typeOf (.builtin id)=pure (.type "method_descriptor")) (hm:Gz X id r) (ho:JE X o to) (ha:JA X (e::es) t) (hbase:attributeBase o name X.env (eval o X.env)=eval o X.env:=by rfl) (hfew:((backTo cpos (starEach (e::es) X.env)).all (λx=> !x.1)&&(backToKw cpos (keywordEach [] X.env)).all (λx=>x.1.isSome)
     &&decide ((e::es).length+([]:List Keyword).length+(if ([]:List Keyword).isEmpty then 0 else 1) < 30))=true:=by rfl) (hline:(apos.endLine==cpos.line)=true:=by rfl) (hs:starEach (e::es) X.env=(false,eval e X.env)::starEach es X.env:=by rfl) (hplain:(backTo cpos (starEach es X.env)).any (·.1)=false:=by rfl):JE X (.Call (.Attribute o name apos) (e::es) [] cpos) (tBM X.K T r to t):=.of (Ru pa slot hty hm ho.to ha.to hbase hfew hline hs hplain)
end
end L2
namespace L2
open PySem PySem.Spec PyProof.Rows
def Ma (X:Cx) (id:String) (r:V->List V->Hp->VK->Prop):Prop:=
 ∀(pins:List (Addr×Obj)) (s:Shared) (σ:St) (H:Hp) (x:V) (xs:List V) (v:Value) (us:List Value) (Q:VK),qy X pins σ H s->qI x v->qF xs us->r x xs H Q->
   wpAny (model X.prog X.w) X.A (call (.builtin id) (v::us)) (EP X pins σ Q) X.xe s
theorem qF.one:∀{x:V} {us:List Value},qF [x] us->∃u,us=[u]/\qI x u
 | _,_,.cons r .nil=>⟨_,rfl,r⟩
theorem qF.zero:∀{us:List Value},qF [] us->us=[]
 | _,.nil=>rfl
theorem qF.reverse {xs:List V} {us:List Value} (h:qF xs us):qF xs.reverse us.reverse:=by
 induction h with
 | nil=>exact .nil
 | cons r t ih=>rw[List.reverse_cons,List.reverse_cons];exact qF.append ih (.cons r .nil)
section
variable {X:Cx} {pins:List (Addr×Obj)} {σ:St} {H:Hp} {s:Shared} {l b:Addr} {xs ys zs:List V}
theorem qy.lset {its its':List Value} {n:Nat} {f:Array Value->Array Value} {t':Nat} (I:qy X pins σ H s) (hH:H l=some (.lst xs))
   (e:s.heap.get? l=some {cls:=.type "list",data:=.seq its.toArray n}) (hf:f its.toArray=its'.toArray) (hv:qF ys its') (hz:ys.length<=sizeLine):
   qy X pins σ (upd H l (.lst ys)) {s with heap:=s.heap.update l (Obj.mapSeq f),toks:=t'}:=by
 have q:=PySem.IsL.update e f
 rw[hf]at q
 refine I.write (x:=l) (e:=l) (by rw[hH];exact trivial) (.inl rfl) (λb' u hb hu=>(Heap.get?_update_other s.heap (Obj.mapSeq f) (Ne.symm hb)).trans hu) ⟨_,q⟩ ?_
 exact⟨hz,its',_,hv,q⟩
theorem qy.lstM (I:qy X pins σ H s) (hH:H l=some (.lst xs)):xs.length<=sizeLine/\∃(its:List Value) (n:Nat),qF xs its/\xs.length=its.length/\s.heap.get? l=some {cls:=.type "list",data:=.seq its.toArray n}:=by
 obtain⟨z,its,n,r,e⟩:=I.hok l _ hH
 exact⟨z,its,n,r,r.length,e⟩
theorem yx {n:Nat} (h:n<=sizeLine):Builtin.List.listTooLong n=false:=by
 unfold Builtin.List.listTooLong
 exact decide_eq_false (by omega)
end
section
variable {X:Cx}
def wp:V->List V->Hp->VK->Prop:=λx vs H Q=>∃l xs y,x=.ref l/\vs=[y]/\H l=some (.lst xs)/\xs.length < sizeLine/\Q .non (upd H l (.lst (xs++[y])))
theorem JR:Ma X "list.append" wp:=by
 intro pins s σ H x vs v us Q I rx rv h
 obtain⟨l,xs,y,rfl,rfl,hH,hz,q⟩:=h
 cases rx
 obtain⟨u,rfl,ru⟩:=rv.one
 obtain⟨z,its,n,r,hl,e⟩:=I.lstM hH
 refine call_meets F.slot_list_append ⟨_,e,rfl⟩ F.entry_list_append (F.args_list_append_2 _ _) (PySem.list_append l its.toArray n u (by rw[List.size_toArray];omega)) ⟨e,?_⟩
 refine⟨.non,_,I.lset (its':=its++[u]) hH e (by simp) (r.append (.cons ru .nil)) ?_,rfl,q⟩
 rw[List.length_append,List.length_singleton]
 omega
def wo:V->List V->Hp->VK->Prop:=λx vs H Q=>∃l b xs zs,x=.ref l/\vs=[.ref b]/\H l=some (.lst xs)/\H b=some (.lst zs)/\xs.length+zs.length<=sizeLine/\Q .non (upd H l (.lst (xs++zs)))
theorem vt:Ma X "list.extend" wo:=by
 intro pins s σ H x vs v us Q I rx rv h
 obtain⟨l,b,xs,zs,rfl,rfl,hH,hB,hz,q⟩:=h
 cases rx
 obtain⟨u,rfl,ru⟩:=rv.one
 cases ru
 obtain⟨z,its,n,r,hl,e⟩:=I.lstM hH
 obtain⟨z2,its2,n2,r2,hl2,e2⟩:=I.lstM hB
 have hsz:its.toArray.size+its2.toArray.size<=sizeLine:=by rw[List.size_toArray,List.size_toArray];omega
 have hlong:¬(!its.toArray.isEmpty&&Builtin.List.listTooLong (its.toArray.size+its2.toArray.size))=true:=by
   rw[yx hsz,Bool.and_false]
   exact Bool.false_ne_true
 refine call_meets F.slot_list_extend ⟨_,e,rfl⟩ F.entry_list_extend (F.args_list_extend_2 _ _)
   (AutoSeq1.list_extend_list_list_0 l its.toArray n b its2.toArray n2 hlong (by rw[List.size_toArray];omega) (by omega)) ⟨e,e2,?_⟩
 refine⟨.non,_,I.lset (its':=its++its2) hH e (by simp) (r.append r2) ?_,rfl,q⟩
 rw[List.length_append]
 omega
def kX:V->List V->Hp->VK->Prop:=λx vs H Q=>∃l xs,x=.ref l/\vs=[]/\H l=some (.lst xs)/\Q .non (upd H l (.lst xs.reverse))
theorem Vq:Ma X "list.reverse" kX:=by
 intro pins s σ H x vs v us Q I rx rv h
 obtain⟨l,xs,rfl,rfl,hH,q⟩:=h
 cases rx
 have hus:=rv.zero
 subst hus
 obtain⟨z,its,n,r,hl,e⟩:=I.lstM hH
 refine call_meets F.slot_list_reverse ⟨_,e,rfl⟩ F.entry_list_reverse (F.args_list_reverse_1 _) (AutoSeq1.list_reverse_list_0 l its.toArray n (by rw[List.size_toArray];omega)) ⟨e,?_⟩
 refine⟨.non,_,I.lset (its':=its.reverse) hH e (by simp) r.reverse ?_,rfl,q⟩
 rw[List.length_reverse]
 omega
end
section
variable {prog:Program} {w:World} {A:Around} {E:Value->Shared->Prop} {s:Shared}
set_option maxRecDepth 100000 in
end
section
variable {X:Cx}
end
end L2
namespace L2
open PySem PySem.Spec PyProof.Rows
section
variable {κ:Type} [DecidableEq κ]
def qM (kvs:List (κ×V)) (k:κ):Option V:=(kvs.find? λkv=>decide (kv.1=k)).map (·.2)
def jp (kvs:List (κ×V)) (k:κ) (v:V):List (κ×V):=
 if (kvs.any λkv=>decide (kv.1=k))=true then kvs.map (λkv=>if kv.1=k then (kv.1,v) else kv) else kvs++[(k,v)]
theorem je {p:κ×V} {r:List (κ×V)} {k:κ} (e:p.1=k):qM (p::r) k=some p.2:=by simp [qM,List.find?_cons,e]
theorem qZ {p:κ×V} {r:List (κ×V)} {k:κ} (e:¬p.1=k):qM (p::r) k=qM r k:=by simp [qM,List.find?_cons,e]
theorem Qk (k:κ):∀kvs:List (κ×V),(kvs.any λkv=>decide (kv.1=k))=(qM kvs k).isSome
 | []=>rfl
 | p::r=>by
   rw[List.any_cons]
   by_cases e:p.1=k
   . simp only[je e,decide_eq_true e,Bool.true_or,Option.isSome_some]
   . rw[qZ e,decide_eq_false e,Bool.false_or];exact Qk k r
theorem Wf (k j:κ) (y:V):∀kvs:List (κ×V),qM (kvs.map λkv=>if kv.1=k then (kv.1,y) else kv) j=(qM kvs j).map λx=>if j=k then y else x
 | []=>rfl
 | p::r=>by
   have ih:=Wf k j y r
   rw[List.map_cons]
   by_cases h:p.1=k
   . rw[if_pos h]
     by_cases e:p.1=j
     . rw[je (p:=(p.1,y)) e,je e,Option.map_some,if_pos (e.symm.trans h)]
     . rw[qZ (p:=(p.1,y)) e,qZ e,ih]
   . rw[if_neg h]
     by_cases e:p.1=j
     . rw[je (p:=p) e,je e,Option.map_some,if_neg (λz=>h (e.trans z))]
     . rw[qZ (p:=p) e,qZ e,ih]
theorem YK (k j:κ) (y:V):∀kvs:List (κ×V),qM kvs k=none->qM (kvs++[(k,y)]) j=if j=k then some y else qM kvs j
 | [],_=>by
   by_cases e:k=j
   . rw[if_pos e.symm];exact je (p:=(k,y)) e
   . rw[if_neg (λz=>e z.symm)];exact qZ (p:=(k,y)) e
 | p::r,hn=>by
   rw[List.cons_append]
   have hk:¬p.1=k:=λz=>by rw[je z]at hn;cases hn
   rw[qZ hk]at hn
   have ih:=YK k j y r hn
   by_cases e:p.1=j
   . rw[je e,je e,if_neg (λz=>hk (e.trans z))]
   . rw[qZ e,qZ e,ih]
theorem jz (kvs:List (κ×V)) (k j:κ) (y:V):qM (jp kvs k y) j=if j=k then some y else qM kvs j:=by
 unfold jp
 by_cases a:(kvs.any λkv=>decide (kv.1=k))=true
 . rw[if_pos a,Wf]
   rw[Qk]at a
   by_cases e:j=k
   . obtain⟨x,hx⟩:=Option.isSome_iff_exists.mp a
     rw[if_pos e,e,hx,Option.map_some,if_pos rfl]
   . rw[if_neg e]
     cases qM kvs j with
     | none=>rfl
     | some x=>rw[Option.map_some,if_neg e]
 . rw[if_neg a]
   refine YK k j y kvs ?_
   rw[Qk]at a
   cases q:qM kvs k with
   | none=>rfl
   | some x=>rw[q]at a;exact(a rfl).elim
theorem Qm (kvs:List (κ×V)) (k:κ) (v:V):(jp kvs k v).length<=kvs.length+1:=by
 unfold jp
 split
 . rw[List.length_map];omega
 . rw[List.length_append,List.length_cons,List.length_nil];omega
theorem jW {kvs:List (κ×V)} {k:κ} (v:V) (h:qM kvs k=none):jp kvs k v=kvs++[(k,v)]:=by
 unfold jp
 rw[Qk,h]
 exact if_neg (by decide)
theorem Jq.isSome_eq {o:Option V} {u:Option Value} (r:Jq o u):o.isSome=u.isSome:=by
 cases o with
 | none=>cases u with
   | none=>rfl
   | some _=>exact(show False from r).elim
 | some _=>cases u with
   | none=>exact(show False from r).elim
   | some _=>rfl
theorem Jq.getD {o:Option V} {u:Option Value} {d:V} {d':Value} (r:Jq o u) (rd:qI d d'):qI (o.getD d) (u.getD d'):=by
 cases o with
 | none=>cases u with
   | none=>exact rd
   | some _=>exact(show False from r).elim
 | some _=>cases u with
   | none=>exact(show False from r).elim
   | some _=>exact r
theorem KV.val {kvs:List (κ×V)} {vs:List (κ×Value)} (r:KV kvs vs) (k:κ):Jq (qM kvs k) (valueAt vs k):=by
 unfold KV at r
 induction r with
 | nil=>exact True.intro
 | @cons p q ps qs h t ih=>
   obtain⟨h1,h2⟩:=h
   by_cases e:p.1=k
   . have e':q.1=k:=h1.symm.trans e
     have b:valueAt (q::qs) k=some q.2:=by simp [valueAt,List.find?_cons,e']
     rw[je e,b];exact h2
   . have e':¬q.1=k:=λz=>e (h1.trans z)
     have b:valueAt (q::qs) k=valueAt qs k:=by simp [valueAt,List.find?_cons,e']
     rw[qZ e,b];exact ih
theorem KV.any {kvs:List (κ×V)} {vs:List (κ×Value)} (r:KV kvs vs) (k:κ):(kvs.any λkv=>decide (kv.1=k))=vs.any λkv=>decide (kv.1=k):=by
 unfold KV at r
 induction r with
 | nil=>rfl
 | cons h t ih=>rw[List.any_cons,List.any_cons,ih,h.1]
theorem KV.repl {kvs:List (κ×V)} {vs:List (κ×Value)} (r:KV kvs vs) (k:κ) {y:V} {u:Value} (ry:qI y u):
   KV (kvs.map λkv=>if kv.1=k then (kv.1,y) else kv) (vs.map λkv=>if kv.1=k then (kv.1,u) else kv):=by
 unfold KV at r ⊢
 induction r with
 | nil=>exact .nil
 | @cons p q ps qs h t ih=>
   rw[List.map_cons,List.map_cons]
   refine .cons ?_ ih
   obtain⟨h1,h2⟩:=h
   by_cases e:p.1=k
   . rw[if_pos e,if_pos (h1.symm.trans e)];exact⟨h1,ry⟩
   . rw[if_neg e,if_neg (λz=>e (h1.trans z))];exact⟨h1,h2⟩
theorem KV.put {kvs:List (κ×V)} {vs:List (κ×Value)} (r:KV kvs vs) (k:κ) {y:V} {u:Value} (ry:qI y u):KV (jp kvs k y) (stored vs k u):=by
 unfold jp stored
 rw[r.any k]
 by_cases e:(vs.any λkv=>decide (kv.1=k))=true
 . rw[if_pos e,if_pos e];exact r.repl k ry
 . rw[if_neg e,if_neg e];exact Paired.snoc r ⟨rfl,ry⟩
theorem KV.length {kvs:List (κ×V)} {vs:List (κ×Value)} (r:KV kvs vs):kvs.length=vs.length:=Paired.length r
end
theorem Z3 {P:Program} {w:World} {k:qA} {u:Value} (r:qI (kV k) u):(qK P w).is k u=true:=by
 cases k with
 | inl i=>obtain⟨t,e⟩:=(show ∃t,u=Value.int i t from r);subst e;exact WI P w i t
 | inr x=>obtain⟨t,e⟩:=(show ∃t,u=Value.str x t from r);subst e;exact WH P w x t
theorem Y2 {P:Program} {w:World}:∀{ks:List qA} {us:List Value},qF (ks.map kV) us->ItemsAre (qK P w) ks us
 | [],_,r=>by rw[List.map_nil]at r;cases r;exact .nil
 | k::ks,_,r=>by
   rw[List.map_cons]at r
   cases r with
   | cons h t=>exact .cons (Z3 h) (Y2 t)
abbrev KT (H:Hp):List (List qA×V)->List (List qA×Addr×Value)->Prop:=Paired λp q=>p.1=q.1/\H q.2.1=some (.tup (p.1.map kV))/\qI p.2 q.2.2
theorem KT.val {H:Hp} {kvs:List (List qA×V)} {xs:List (List qA×Addr×Value)} (r:KT H kvs xs) (k:List qA):Jq (qM kvs k) ((atKey xs k).map (·.2)):=by
 induction r with
 | nil=>exact True.intro
 | @cons p q ps qs h t ih=>
   obtain⟨h1,_,h2⟩:=h
   by_cases e:p.1=k
   . have e':q.1=k:=h1.symm.trans e
     have b:atKey (q::qs) k=some q.2:=by simp [atKey,List.find?_cons,e']
     rw[je e,b];exact h2
   . have e':¬q.1=k:=λz=>e (h1.trans z)
     have b:atKey (q::qs) k=atKey qs k:=by simp [atKey,List.find?_cons,e']
     rw[qZ e,b];exact ih
theorem KT.repl {H:Hp} {kvs:List (List qA×V)} {xs:List (List qA×Addr×Value)} (r:KT H kvs xs) (k:List qA) {y:V} {u:Value} (ry:qI y u):
   KT H (kvs.map λkv=>if kv.1=k then (kv.1,y) else kv) (xs.map (putAt k u)):=by
 induction r with
 | nil=>exact .nil
 | @cons p q ps qs h t ih=>
   rw[List.map_cons,List.map_cons]
   refine .cons ?_ ih
   obtain⟨h1,h2,h3⟩:=h
   unfold putAt
   by_cases e:p.1=k
   . rw[if_pos e,if_pos (h1.symm.trans e)];exact⟨h1,h2,ry⟩
   . rw[if_neg e,if_neg (λz=>e (h1.trans z))];exact⟨h1,h2,h3⟩
theorem KT.put {H:Hp} {kvs:List (List qA×V)} {xs:List (List qA×Addr×Value)} (r:KT H kvs xs) (k:List qA) {b:Addr} {y:V} {u:Value} (hb:H b=some (.tup (k.map kV))) (ry:qI y u):
   KT H (jp kvs k y) (storedH xs k b u):=by
 have e:(kvs.any λkv=>decide (kv.1=k))=(atKey xs k).isSome:=by
   rw[Qk,(r.val k).isSome_eq,Option.isSome_map]
 unfold jp storedH
 rw[e]
 by_cases q:(atKey xs k).isSome=true
 . rw[if_pos q,if_pos q];exact r.repl k ry
 . rw[if_neg q,if_neg q];exact Paired.snoc r ⟨rfl,hb,ry⟩
theorem KT.keeps {H H':Hp} {kvs:List (List qA×V)} {xs:List (List qA×Addr×Value)} (r:KT H kvs xs) (ht:∀b ys,H b=some (.tup ys)->H' b=some (.tup ys)):KT H' kvs xs:=
 Paired.mapP r λ_ _ z=>⟨z.1,ht _ _ z.2.1,z.2.2⟩
section
variable {P:Program} {w:World} {H:Hp} {h:Heap} {a:Addr}
theorem uX {u:HO} (ok:JM P w H h) (e:Rd H a u):qX P w H h a u:=e.ok ok
theorem Z5 {kvs:List (qA×V)} (ok:JM P w H h) (e:Rd H a (.dK kvs)):kvs.length<=sizeLine/\(a==sysModules)=false/\∃vs,KV kvs vs/\h.DictOf (qK P w) a vs:=
 show qX P w H h a (.dK kvs) from uX ok e
theorem xj {kvs:List (qA×V)} (ok:JM P w H h) (e:H a=some (.dK kvs)):kvs.length<=sizeLine/\(a==sysModules)=false/\∃vs,KV kvs vs/\h.DictOf (qK P w) a vs:=Z5 ok (.inl e)
theorem J7 {ks:List qA} (ok:JM P w H h) (e:H a=some (.tup (ks.map kV))):(tupleKind (qK P w)).is h ks a:=by
 obtain⟨_,its,r,o,h1,h2,n,h3⟩:=(show qX P w H h a (.tup (ks.map kV)) from ok a _ e)
 exact⟨o,its.toArray,n,h1,h2,h3,by simpa using Y2 r⟩
theorem Yt {kvs:List (List qA×V)} (ok:JM P w H h) (e:Rd H a (.dT kvs)):kvs.length<=sizeLine/\(a==sysModules)=false/\
   ∃xs,KT H kvs xs/\h.DictOfH (tupleKind (qK P w)) a xs:=by
 obtain⟨z,y,xs,r,o,es,ep,h1,h2,h3,h4,h5⟩:=(show qX P w H h a (.dT kvs) from uX ok e)
 refine⟨z,y,xs,r,o,es,ep,h1,h2,h3,h4,λx hx=>?_,h5⟩
 have all:∀{l:List (List qA×V)} {m:List (List qA×Addr×Value)},KT H l m->∀x∈m,(tupleKind (qK P w)).is h x.1 x.2.1:=by
   intro l m q
   induction q with
   | nil=>intro x hx;exact nomatch hx
   | @cons p q ps qs hq t ih=>
     intro x hx
     rcases List.mem_cons.mp hx with e | hx
     . subst e
       exact J7 ok (by rw[<-hq.1];exact hq.2.1)
     . exact ih x hx
 exact all r x hx
theorem u9 {kvs:List (List qA×V)} (ok:JM P w H h) (e:H a=some (.dT kvs)):kvs.length<=sizeLine/\(a==sysModules)=false/\
   ∃xs,KT H kvs xs/\h.DictOfH (tupleKind (qK P w)) a xs:=Yt ok (.inl e)
end
def jm (H:Hp) (a:Addr) (y:V) (r:Option V):Prop:=
 (∃kvs k,Rd H a (.dK kvs)/\y=kV k/\r=qM kvs k)\/∃kvs k b,Rd H a (.dT kvs)/\y=.ref b/\H b=some (.tup (k.map kV))/\r=qM kvs k
def Qf (H:Hp) (a:Addr) (y v:V) (H':Hp):Prop:=
 (∃kvs k,H a=some (.dK kvs)/\y=kV k/\kvs.length < sizeLine/\H'=upd H a (.dK (jp kvs k v)))\/
 ∃kvs k b,H a=some (.dT kvs)/\y=.ref b/\H b=some (.tup (k.map kV))/\kvs.length < sizeLine/\H'=upd H a (.dT (jp kvs k v))
theorem jm.k {H:Hp} {a:Addr} {kvs:List (qA×V)} {k:qA} (e:H a=some (.dK kvs)):jm H a (kV k) (qM kvs k):=.inl ⟨kvs,k,.inl e,rfl,rfl⟩
theorem jm.t {H:Hp} {a b:Addr} {kvs:List (List qA×V)} {k:List qA} (e:H a=some (.dT kvs)) (eb:H b=some (.tup (k.map kV))):jm H a (.ref b) (qM kvs k):=.inr ⟨kvs,k,b,.inl e,rfl,eb,rfl⟩
theorem Qf.k {H:Hp} {a:Addr} {kvs:List (qA×V)} {k:qA} {v:V} (e:H a=some (.dK kvs)) (hl:kvs.length < sizeLine):Qf H a (kV k) v (upd H a (.dK (jp kvs k v))):=.inl ⟨kvs,k,e,rfl,hl,rfl⟩
theorem Qf.t {H:Hp} {a b:Addr} {kvs:List (List qA×V)} {k:List qA} {v:V} (e:H a=some (.dT kvs)) (eb:H b=some (.tup (k.map kV))) (hl:kvs.length < sizeLine):
   Qf H a (.ref b) v (upd H a (.dT (jp kvs k v))):=.inr ⟨kvs,k,b,e,rfl,eb,hl,rfl⟩
section
variable {X:Cx} {pins:List (Addr×Obj)} {σ:St} {H:Hp} {s:Shared} {a:Addr} {y v:V} {u r:Value} {o:Option V} {A:Around} {E:Value->Shared->Prop}
theorem qy.big (I:qy X pins σ H s):sysModules < s.heap.objs.size:=by
 have h:mainGlobals < s.heap.objs.size:=(I.mod.glob.keeps I.bk).lt
 exact Nat.lt_trans (by decide) h
theorem vU {Q:Value->Shared->Prop} (hu:A.units+1 < cLine) (I:qy X pins σ H s) (g:jm H a y (some v)) (ry:qI y u) (h:∀w' s',qy X pins σ H s'->qI v w'->Q w' s'):
   wpAny (model X.prog X.w) A (getItem (.ref a) u) Q E s:=by
 rcases g with ⟨kvs,k,e,ey,l⟩ | ⟨kvs,k,b,e,ey,eb,l⟩
 . subst ey
   obtain⟨z,hd,vs,rel,dd⟩:=Z5 I.hok e
   obtain⟨w',hw,rw'⟩:=Jq.some_of (v:=v) (o:=valueAt vs k) (by rw[l];exact rel.val k)
   exact wpAny_getItem_of (Z3 ry) dd.mapOf hw (h w' _ (I.tok _) rw')
 . subst ey
   cases (show u=Value.ref b from ry)
   obtain⟨z,hd,xs,rel,dd⟩:=Yt I.hok e
   obtain⟨w',hw,rw'⟩:=Jq.some_of (v:=v) (o:=(atKey xs k).map (·.2)) (by rw[l];exact rel.val k)
   obtain⟨p,hp,hp2⟩:=Option.map_eq_some_iff.mp hw
   refine wpAny_getItem_heap (tupleKind_room_in1 hu) (J7 I.hok eb) dd hp ?_
   rw[hp2]
   exact h w' _ (I.tok _) rw'
theorem N6 {Q:Value->Shared->Prop} (hu:A.units+1 < cLine) (I:qy X pins σ H s) (g:jm H a y o) (ry:qI y u) (h:∀s',qy X pins σ H s'->Q (.bool o.isSome) s'):
   wpAny (model X.prog X.w) A (compareOp .In u (.ref a)) Q E s:=by
 rcases g with ⟨kvs,k,e,ey,l⟩ | ⟨kvs,k,b,e,ey,eb,l⟩
 . subst ey
   obtain⟨z,hd,vs,rel,dd⟩:=Z5 I.hok e
   refine wpAny_in_of (Z3 ry) hd dd.mapOf ?_
   rw[<-(rel.val k).isSome_eq,<-l]
   exact h _ (I.tok _)
 . subst ey
   cases (show u=Value.ref b from ry)
   obtain⟨z,hd,xs,rel,dd⟩:=Yt I.hok e
   refine wpAny_in_heap (tupleKind_room_in1 hu) (J7 I.hok eb) hd dd ?_
   have q:=(rel.val k).isSome_eq
   rw[Option.isSome_map]at q
   rw[<-q,<-l]
   exact h _ (I.tok _)
theorem uu {Q:Value->Shared->Prop} (hu:A.units+1 < cLine) (I:qy X pins σ H s) (g:jm H a y o) (ry:qI y u) (h:∀s',qy X pins σ H s'->Q (.bool (!o.isSome)) s'):
   wpAny (model X.prog X.w) A (compareOp .NotIn u (.ref a)) Q E s:=by
 rcases g with ⟨kvs,k,e,ey,l⟩ | ⟨kvs,k,b,e,ey,eb,l⟩
 . subst ey
   obtain⟨z,hd,vs,rel,dd⟩:=Z5 I.hok e
   refine wpAny_notIn_of (Z3 ry) hd dd.mapOf ?_
   rw[<-(rel.val k).isSome_eq,<-l]
   exact h _ (I.tok _)
 . subst ey
   cases (show u=Value.ref b from ry)
   obtain⟨z,hd,xs,rel,dd⟩:=Yt I.hok e
   refine wpAny_notIn_heap (tupleKind_room_in1 hu) (J7 I.hok eb) hd dd ?_
   have q:=(rel.val k).isSome_eq
   rw[Option.isSome_map]at q
   rw[<-q,<-l]
   exact h _ (I.tok _)
theorem ZD {h':Heap} {t':Nat} {ob:HO} (I:qy X pins σ H s) (mu:Go (H a)) (hs:Heap.SameBut a s.heap h') (he:∃q,h'.get? a=some q) (new:qX X.prog X.w (upd H a ob) h' a ob):
   qy X pins σ (upd H a ob) {s with heap:=h',toks:=t'}:=
 I.write (x:=a) (e:=a) mu (.inl rfl) (λb q hb z=>(hs.2 b hb).trans z) he new
theorem XW {P:Program} {w:World} {H':Hp} {h':Heap} {kvs:List (qA×V)} {vs:List (qA×Value)} (z:kvs.length<=sizeLine) (hd:(a==sysModules)=false) (rel:KV kvs vs) (dd:h'.DictOf (qK P w) a vs):
   qX P w H' h' a (.dK kvs):=⟨z,hd,vs,rel,dd⟩
theorem vT {H':Hp} {Q:Unit->Shared->Prop} (hu:A.units+1 < cLine) (I:qy X pins σ H s) (g:Qf H a y v H') (ry:qI y u) (rv:qI v r) (h:∀s',qy X pins σ H' s'->Q () s'):
   wpAny (model X.prog X.w) A (setItem (.ref a) u r) Q E s:=by
 rcases g with ⟨kvs,k,e,ey,l,eH⟩ | ⟨kvs,k,b,e,ey,eb,l,eH⟩
 . subst ey eH
   obtain⟨z,hd,vs,rel,dd⟩:=xj I.hok e
   have hz:vs.length<=sizeLine:=by rw[<-rel.length];exact z
   have hl:(jp kvs k v).length<=sizeLine:=by have:=Qm kvs k v;omega
   refine wpAny_setItem_pairs (hsz:=hz) (Z3 ry) dd λh' dd' hs=>h _ ?_
   have he:∃q,h'.get? a=some q:=let ⟨q,_,_,hq,_⟩:=dd';⟨q,hq⟩
   exact ZD I (by rw[e];exact True.intro) hs he (XW hl hd (rel.put k rv) dd')
 . subst ey eH
   cases (show u=Value.ref b from ry)
   obtain⟨z,hd,xs,rel,dd⟩:=u9 I.hok e
   have hz:xs.length<=sizeLine:=by rw[<-Paired.length rel];exact z
   have hl:(jp kvs k v).length<=sizeLine:=by have:=Qm kvs k v;omega
   refine wpAny_setItem_heap (hsz:=hz) (tupleKind_room_in1 hu) (J7 I.hok eb) dd λh' dd' hs=>h _ ?_
   obtain⟨q,es,ep,hq,h2,h3,h4,_,h5⟩:=dd'
   refine ZD I (by rw[e];exact True.intro) hs ⟨q,hq⟩ ⟨hl,hd,_,(rel.put k eb rv).keeps λc ys ec=>?_,q,es,ep,hq,h2,h3,h4,h5⟩
   rw[qi (u3 ec e (λz=>nomatch z))]
   exact ec
end
section
variable {X:Cx} {pins:List (Addr×Obj)} {σ:St} {H:Hp} {s:Shared} {a:Addr} {kvs:List (qA×V)} {k:qA} {u:Value} {A:Around} {E:Value->Shared->Prop}
end
def R7 (i:Expr):Prop:=∀ov iv,subscripted i false ov iv=operate [ov,iv] (getItem ov iv)
theorem xO {prog:Program} {w:World} {A:Around} {E:Value->Shared->Prop} {s:Shared} {env:Env} {value slice:Expr} {pos:Pos} {T id:String} {Q:Value->Shared->Prop}
   (hl:typeLookup (.type T) "__getitem__"=pure (some (.builtin id))) (hs:R7 slice)
   (h:wpAny (model prog w) A (eval value env) (λo s₁=>wpAny (model prog w) A (eval slice env) (λi s₂=>s₂.TypeIs o T/\wpAny (model prog w) A (getItem o i) Q E s₂) E s₁) E s):
   wpAny (model prog w) A (eval (.Subscript value slice pos) env) Q E s:=by
 refine Subscript_ (wpAny_mono h (λo s₁ h₁=>wpAny_mono h₁ (λi s₂ h₂=>?_) λ_ _ x=>x) λ_ _ x=>x)
 obtain⟨hT,h₂⟩:=h₂
 unfold subscriptTail
 refine wpAny_bind ?_
 rw[getitemInPython_of_ne hT.not_modules]
 refine wpAny_bind (wpAny_specialOf hT hl ?_)
 have fin:wpAny (model prog w) A (subscripted slice false o i) (λr s₃=>wpAny (model prog w) A (letTemporaryGo value o r >>= λ_=>pure r) Q E s₃) E s₂:=by
   rw[hs o i]
   exact wpAny_operating (wpAny_mono h₂ (λr s₃ h₃=>wpAny_bind (wpAny_letTemporaryGo (wpAny_pure h₃))) λ_ _ x=>x)
 first
   | exact wpAny_pure (wpAny_bind fin)
   | exact wpAny_bind (wpAny_pure (wpAny_bind fin))
   | exact wpAny_bind fin
theorem WV {X:Cx} {pins:List (Addr×Obj)} {σ:St} {H:Hp} {s:Shared} {a:Addr} {y:V} {o:Option V} (I:qy X pins σ H s) (g:jm H a y o):s.TypeIs (.ref a) "dict":=by
 rcases g with ⟨kvs,k,e,_,_⟩ | ⟨kvs,k,b,e,_,_,_⟩
 . obtain⟨_,_,vs,_,dd⟩:=Z5 I.hok e
   exact dd.typeIs
 . obtain⟨_,_,xs,_,dd⟩:=Yt I.hok e
   exact dd.typeIs
def Jt (td ty:TE):TE:=λσ H Q=>td σ H λx H1=>ty σ H1 λy H2=>∃a v,x=.ref a/\jm H2 a y (some v)/\Q v H2
def xJ (ty td:TE):TE:=λσ H Q=>ty σ H λy H1=>td σ H1 λx H2=>∃a o,x=.ref a/\jm H2 a y o/\Q (.bl o.isSome) H2
def VX (ty td:TE):TE:=λσ H Q=>ty σ H λy H1=>td σ H1 λx H2=>∃a o,x=.ref a/\jm H2 a y o/\Q (.bl (!o.isSome)) H2
def uW (td ty tv:TE):TS:=λD σ H=>tv σ H λv H1=>td σ H1 λx H2=>ty σ H2 λy H3=>∃a H4,x=.ref a/\Qf H3 a y v H4/\D.nx σ H4
section
variable {X:Cx} {o i e value:Expr} {pos pos' tpos:Pos} {td ty tv:TE}
theorem qG (hu:X.A.units+1 < cLine) (ho:JE X o td) (hi:JE X i ty) (hs:R7 i):JE X (.Subscript o i pos) (Jt td ty):=.of (by
 have ho:=ho.to
 have hi:=hi.to
 intro pins s σ H Q I h
 refine xO PySem.F.slot_dict_getitem.lookup hs (jd (ho pins s σ H _ I h) λu s1 ⟨x,H1,I1,rx,q1⟩=>jd (hi pins s1 σ H1 _ I1 q1) λiv s2 ⟨y,H2,I2,ry,a,v,ex,g,q2⟩=>?_)
 subst ex
 obtain rfl:u=Value.ref a:=rx
 exact⟨WV I2 g,vU hu I2 g ry λw' s3 I3 rw'=>⟨v,H2,I3,rw',q2⟩⟩)
theorem JF (hu:X.A.units+1 < cLine) (hi:JE X i ty) (ho:JE X o td):JC X .In i o (xJ ty td):=.of (by
 have hi:=hi.to
 have ho:=ho.to
 intro pins s σ H Q I h
 refine jd (hi pins s σ H _ I h) λiv s1 ⟨y,H1,I1,ry,q1⟩=>jd (ho pins s1 σ H1 _ I1 q1) λu s2 ⟨x,H2,I2,rx,a,ov,ex,g,q2⟩=>?_
 subst ex
 obtain rfl:u=Value.ref a:=rx
 exact N6 hu I2 g ry λs3 I3=>⟨.bl ov.isSome,H2,I3,rfl,q2⟩)
theorem QD (hu:X.A.units+1 < cLine) (hi:JE X i ty) (ho:JE X o td):JC X .NotIn i o (VX ty td):=.of (by
 have hi:=hi.to
 have ho:=ho.to
 intro pins s σ H Q I h
 refine jd (hi pins s σ H _ I h) λiv s1 ⟨y,H1,I1,ry,q1⟩=>jd (ho pins s1 σ H1 _ I1 q1) λu s2 ⟨x,H2,I2,rx,a,ov,ex,g,q2⟩=>?_
 subst ex
 obtain rfl:u=Value.ref a:=rx
 exact uu hu I2 g ry λs3 I3=>⟨.bl (!ov.isSome),H2,I3,rfl,q2⟩)
theorem qS (hu:X.A.units+1 < cLine) (ho:JE X o td) (hi:JE X i ty) (hv:JE X value tv) (hs:swapsWith value (some (.Subscript o i pos')) pos.line X.env=pure false):JS X (.Assign [.Subscript o i pos'] value pos) (uW td ty tv):=.of (by
 have ho:=ho.to
 have hi:=hi.to
 have hv:=hv.to
 intro pins s σ H D I h
 refine wpAny_Assign_Subscript (jd (hv pins s σ H _ I h) λr s1 ⟨v,H1,I1,rv,q1⟩=>jd (ho pins s1 σ H1 _ I1 q1) λu s2 ⟨x,H2,I2,rx,q2⟩=>jd (hi pins s2 σ H2 _ I2 q2) λiv s3 ⟨y,H3,I3,ry,a,H4,ex,g,q3⟩=>?_) hs
 subst ex
 obtain rfl:u=Value.ref a:=rx
 exact vT hu I3 g ry rv λs4 I4=>⟨σ,H4,I4,q3⟩)
end
theorem WU {P:Program} {w:World} {H:Hp} (h:Heap) (hb:sysModules < h.objs.size):qX P w H (h.push {cls:=.type "dict",data:=.dict #[]}) h.objs.size (.dK []):=
 ⟨Nat.zero_le _,beq_eq_false_iff_ne.mpr (Ne.symm (Nat.ne_of_lt hb)),[],.nil,Heap.DictOf.new h⟩
theorem xh {P:Program} {w:World} {H:Hp} (h:Heap) (hb:sysModules < h.objs.size):qX P w H (h.push {cls:=.type "dict",data:=.dict #[]}) h.objs.size (.dT []):=
 ⟨Nat.zero_le _,beq_eq_false_iff_ne.mpr (Ne.symm (Nat.ne_of_lt hb)),[],.nil,_,#[],0,Heap.get?_push_size _ rfl,⟨rfl,rfl,rfl⟩,rfl,rfl,List.nodup_nil⟩
def ku:TE:=λ_ H Q=>∀p,H p=none->Q (.ref p) (upd H p (.dK []))
def kt:TE:=λ_ H Q=>∀p,H p=none->Q (.ref p) (upd H p (.dT []))
section
variable {X:Cx} {pos:Pos}
theorem k9:PE X (.Dict [] [] pos) ku:=λpins s σ H Q I h=>
 wpAny_Dict_empty ⟨.ref s.heap.objs.size,_,I.laid (a:=s.heap.objs.size) (o:=.dK []) (t':=s.toks) (λ_ _ q=>Heap.get?_push_of_some _ q) (Nat.le_refl _) (WU s.heap I.big),rfl,h _ (I.hok.fresh (Nat.le_refl _))⟩
theorem jw:JE X (.Dict [] [] pos) ku:=.of (k9)
theorem k8:PE X (.Dict [] [] pos) kt:=λpins s σ H Q I h=>
 wpAny_Dict_empty ⟨.ref s.heap.objs.size,_,I.laid (a:=s.heap.objs.size) (o:=.dT []) (t':=s.toks) (λ_ _ q=>Heap.get?_push_of_some _ q) (Nat.le_refl _) (xh s.heap I.big),rfl,h _ (I.hok.fresh (Nat.le_refl _))⟩
theorem Yl:JE X (.Dict [] [] pos) kt:=.of (k8)
end
def Vd:List (TE×TE)->St->Hp->(List (V×V)->Hp->Prop)->Prop
 | [],_,H,Q=>Q [] H
 | (tk,tv)::r,σ,H,Q=>tk σ H λx H1=>tv σ H1 λy H2=>Vd r σ H2 λps H3=>Q ((x,y)::ps) H3
abbrev VV:List (V×V)->List (Value×Value)->Prop:=Paired λp q=>qI p.1 q.1/\qI p.2 q.2
def R6 (X:Cx) (pos:Pos) (keys:List (Option Expr)) (values:List Expr) (trs:List (TE×TE)):Prop:=
 ∀(pins:List (Addr×Obj)) (s:Shared) (σ:St) (H:Hp) (Q:List (V×V)->Hp->Prop),qy X pins σ H s->Vd trs σ H Q->
   wpAny (model X.prog X.w) X.A (evalPairs (pairTrees keys values X.env pos)) (λvs s'=>∃ps H',qy X pins σ H' s'/\VV ps vs/\Q ps H') X.xe s
@[irreducible] def xB (X:Cx) (pos:Pos) (keys:List (Option Expr)) (values:List Expr) (trs:List (TE×TE)):Prop:=R6 X pos keys values trs
theorem xB.of {X:Cx} {pos:Pos} {keys:List (Option Expr)} {values:List Expr} {trs:List (TE×TE)} (h:R6 X pos keys values trs):xB X pos keys values trs:=by unfold xB;exact h
theorem xB.to {X:Cx} {pos:Pos} {keys:List (Option Expr)} {values:List Expr} {trs:List (TE×TE)} (h:xB X pos keys values trs):R6 X pos keys values trs:=by unfold xB at h;exact h
theorem w5 {X:Cx} {pos:Pos}:xB X pos [] [] []:=.of (by
 exact λpins s σ H Q I h=>pairTrees_nil_walk ⟨[],H,I,.nil,h⟩)
theorem k6 {X:Cx} {pos:Pos} {k v:Expr} {ks:List (Option Expr)} {vs:List Expr} {tk tv:TE} {trs:List (TE×TE)} (hk:PE X k tk) (hv:PE X v tv) (hr:R6 X pos ks vs trs):
   R6 X pos (some k::ks) (v::vs) ((tk,tv)::trs):=λpins s σ H Q I h=>
 pairTrees_cons_walk (jd (hk pins s σ H _ I h) λu s1 ⟨x,H1,I1,rx,q1⟩=>jd (hv pins s1 σ H1 _ I1 q1) λw2 s2 ⟨y,H2,I2,ry,q2⟩=>
   jd (hr pins s2 σ H2 _ I2 q2) λws s3 ⟨ps,H3,I3,rel,q3⟩=>⟨(x,y)::ps,H3,I3,.cons ⟨rx,ry⟩ rel,q3⟩)
theorem Yi {X:Cx} {pos:Pos} {k v:Expr} {ks:List (Option Expr)} {vs:List Expr} {tk tv:TE} {trs:List (TE×TE)} (hk:JE X k tk) (hv:JE X v tv) (hr:xB X pos ks vs trs):xB X pos (some k::ks) (v::vs) ((tk,tv)::trs):=.of (k6 hk.to hv.to hr.to)
def Qt (kvs more:List (qA×V)):List (qA×V):=more.foldl (λacc kv=>jp acc kv.1 kv.2) kvs
theorem KV.merge:∀{more:List (qA×V)} {rs:List (qA×Value)} {kvs:List (qA×V)} {vs:List (qA×Value)},KV more rs->KV kvs vs->KV (Qt kvs more) (merged vs rs):=by
 intro more rs kvs vs r
 unfold KV at r
 induction r generalizing kvs vs with
 | nil=>intro q;exact q
 | @cons p q ps qs h t ih=>
   intro r0
   have e:KV (jp kvs p.1 p.2) (stored vs q.1 q.2):=by
     have:=r0.put p.1 h.2
     rw[<-h.1];exact this
   exact ih e
theorem QQ:∀(more kvs:List (qA×V)),(Qt kvs more).length<=kvs.length+more.length
 | [],kvs=>by show kvs.length<=kvs.length+0;omega
 | p::r,kvs=>by
   have h1:=QQ r (jp kvs p.1 p.2)
   have h2:=Qm kvs p.1 p.2
   show (Qt (jp kvs p.1 p.2) r).length<=_
   rw[List.length_cons];omega
theorem Yu {P:Program} {w:World}:∀{kvs:List (qA×V)} {ws:List (Value×Value)},VV (kvs.map λkv=>(kV kv.1,kv.2)) ws->∃rs,Carries (qK P w) ws rs/\KV kvs rs
 | [],_,r=>by rw[List.map_nil]at r;cases r;exact⟨[],True.intro,.nil⟩
 | p::kvs,_,r=>by
   rw[List.map_cons]at r
   cases r with
   | @cons a b as bs h t=>
     obtain⟨rs,c,q⟩:=Yu (P:=P) (w:=w) t
     obtain⟨b1,b2⟩:=b
     exact⟨(p.1,b2)::rs,⟨Z3 h.1,rfl,c⟩,.cons ⟨rfl,h.2⟩ q⟩
def GZ (trs:List (TE×TE)):TE:=λσ H Q=>∀p,H p=none->Vd trs σ (upd H p (.dK [])) λps H2=>H2 p=some (.dK [])/\∃kvs:List (qA×V),ps=kvs.map (λkv=>(kV kv.1,kv.2))/\kvs.length<=15/\Q (.ref p) (upd H2 p (.dK (Qt [] kvs)))
theorem uc {X:Cx} {pos:Pos} {keys:List (Option Expr)} {values:List Expr} {trs:List (TE×TE)} (h:xB X pos keys values trs) (hall:keys.all (·.isSome)=true) (hl:keys.length=values.length) (h0:keys≠[]) (h15:keys.length<=15):JE X (.Dict keys values pos) (GZ trs):=.of (by
 have h:=h.to
 intro pins s σ H Q I q
 have hn:=I.hok.fresh (Nat.le_refl s.heap.objs.size)
 have I1:=I.laid (a:=s.heap.objs.size) (o:=.dK []) (h':=s.heap.push {cls:=.type "dict",data:=.dict #[]}) (t':=s.toks) (λ_ _ q=>Heap.get?_push_of_some _ q) (Nat.le_refl _) (WU s.heap I.big)
 refine wpAny_Dict_walk (knd:=qK X.prog X.w) hall hl h0 h15 (jd (h pins _ σ _ _ I1 (q _ hn)) λws s2 ⟨ps,H2,I2,rel,e,kvs,ep,lk,q2⟩=>?_)
 subst ep
 obtain⟨rs,c,rk⟩:=Yu (P:=X.prog) (w:=X.w) rel
 obtain⟨z,hd,vs0,r0,dd⟩:=xj I2.hok e
 cases r0
 refine⟨rs,c,dd,λh' dd' hs=>⟨.ref s.heap.objs.size,_,?_,rfl,q2⟩⟩
 have hz:(Qt [] kvs).length<=sizeLine:=by
   have h1:=QQ kvs []
   rw[List.length_nil]at h1
   rw[sizeLine_eq];omega
 have he:∃q,h'.get? s.heap.objs.size=some q:=let ⟨q,_,_,hq,_⟩:=dd';⟨q,hq⟩
 exact ZD I2 (by rw[e];exact True.intro) hs he (XW hz hd (rk.merge .nil) dd'))
structure M1 (X:Cx) (o:Expr) (m:Str) (apos:Pos) (e:Expr) (cpos:Pos):Prop where
 base:attributeBase o m X.env (eval o X.env)=eval o X.env
 few:((backTo cpos (starEach [e] X.env)).all (λx=> !x.1)&&(backToKw cpos (keywordEach [] X.env)).all (λx=>x.1.isSome)
   &&decide (([e]:List Expr).length+([]:List Keyword).length+(if ([]:List Keyword).isEmpty then 0 else 1) < 30))=true
 line:(apos.endLine==cpos.line)=true
 trees:backTo cpos (starEach [e] X.env)=[(false,eval e X.env)]
structure M2 (X:Cx) (o:Expr) (m:Str) (apos:Pos) (e f:Expr) (cpos:Pos):Prop where
 base:attributeBase o m X.env (eval o X.env)=eval o X.env
 few:((backTo cpos (starEach [e,f] X.env)).all (λx=> !x.1)&&(backToKw cpos (keywordEach [] X.env)).all (λx=>x.1.isSome)
   &&decide (([e,f]:List Expr).length+([]:List Keyword).length+(if ([]:List Keyword).isEmpty then 0 else 1) < 30))=true
 line:(apos.endLine==cpos.line)=true
 trees:backTo cpos (starEach [e,f] X.env)=[(false,eval e X.env),(false,eval f X.env)]
def Mf (H:Hp) (a:Addr):Prop:=(∃kvs,Rd H a (.dK kvs))\/∃kvs,Rd H a (.dT kvs)
theorem yT {X:Cx} {pins:List (Addr×Obj)} {σ:St} {H:Hp} {s:Shared} {a:Addr} (I:qy X pins σ H s) (d:Mf H a):
   s.TypeIs (.ref a) "dict"/\(∀b,Value.ref a=.ref b->∃ob,s.heap.get? b=some ob/\ob.dict=none)/\(a==sysModules)=false:=by
 rcases d with ⟨kvs,e⟩ | ⟨kvs,e⟩
 . obtain⟨_,hd,vs,_,dd⟩:=Z5 I.hok e
   refine⟨dd.typeIs,λb q=>?_,hd⟩
   cases q
   obtain⟨ob,_,_,h1,h2,_⟩:=dd
   exact⟨ob,h1,h2.2.1⟩
 . obtain⟨_,hd,xs,_,dd⟩:=Yt I.hok e
   refine⟨dd.typeIs,λb q=>?_,hd⟩
   cases q
   obtain⟨ob,_,_,h1,h2,_⟩:=dd
   exact⟨ob,h1,h2.2.1⟩
section
variable {X:Cx} {pins:List (Addr×Obj)} {σ:St} {H:Hp} {s:Shared} {a:Addr} {y d:V} {u r:Value} {o:Option V} {A:Around} {E:Value->Shared->Prop}
theorem Ge {Q:Value->Shared->Prop} (hu:A.units+1 < cLine) (I:qy X pins σ H s) (g:jm H a y o) (ry:qI y u) (h:∀w' s',qy X pins σ H s'->qI (o.getD .non) w'->Q w' s'):
   wpAny (model X.prog X.w) A (call (.builtin "dict.get") [.ref a,u]) Q E s:=by
 rcases g with ⟨kvs,k,e,ey,l⟩ | ⟨kvs,k,b,e,ey,eb,l⟩
 . subst ey
   obtain⟨z,hd,vs,rel,dd⟩:=Z5 I.hok e
   refine call_meetsIn PySem.F.slot_dict_get dd.typeIs PySem.F.entry_dict_get (PySem.F.args_dict_get_2 _ _) (meets_dict_get (qK X.prog X.w) a (Z3 ry) hd) ⟨_,dd.mapOf,h _ _ (I.tok _) ?_⟩
   rw[l]
   exact(rel.val k).getD rfl
 . subst ey
   cases (show u=Value.ref b from ry)
   obtain⟨z,hd,xs,rel,dd⟩:=Yt I.hok e
   refine call_meetsIn PySem.F.slot_dict_get dd.typeIs PySem.F.entry_dict_get (PySem.F.args_dict_get_2 _ _) (meetsH_dict_get (tupleKind (qK X.prog X.w)) a b hd) ⟨tupleKind_room_in1 hu,k,xs,J7 I.hok eb,dd,h _ _ (I.tok _) ?_⟩
   rw[l]
   exact(rel.val k).getD rfl
end
def kx (td ty:TE):TE:=λσ H Q=>td σ H λx H1=>∃a,x=.ref a/\Mf H1 a/\ty σ H1 λy H2=>∃o,jm H2 a y o/\Q (o.getD .non) H2
section
variable {X:Cx} {o e f:Expr} {apos cpos:Pos} {td ty tx:TE}
theorem yR (hu:X.A.units+1 < cLine) (ho:JE X o td) (he:JE X e ty) (m:M1 X o "get" apos e cpos):JE X (.Call (.Attribute o "get" apos) [e] [] cpos) (kx td ty):=.of (by
 have ho:=ho.to
 have he:=he.to
 intro pins s σ H Q I h
 refine wpAny_Call_method m.base m.few m.line PySem.F.plainAttrs_dict PySem.F.slot_dict_get PySem.F.type_dict_get (jd (ho pins s σ H _ I h) λu s1 ⟨x,H1,I1,rx,a,ex,d,q1⟩=>?_)
 subst ex
 obtain rfl:u=Value.ref a:=rx
 obtain⟨t1,t2,_⟩:=yT I1 d
 refine⟨t1,t2,?_⟩
 rw[m.trees]
 refine Calls.callWith_builtin rfl (Calls.evalArgs_plain (Calls.spliced_cons (jd (he pins s1 σ H1 _ I1 q1) λiv s2 ⟨y,H2,I2,ry,ov,g,q2⟩=>Calls.spliced_nil ?_)))
 exact Ge hu I2 g ry λw' s3 I3 rw'=>⟨_,H2,I3,rw',q2⟩)
end
section
variable {X:Cx} {pins:List (Addr×Obj)} {σ:St} {H:Hp} {s:Shared} {a:Addr} {kvs:List (qA×V)} {A:Around} {E:Value->Shared->Prop}
end
section
variable {X:Cx} {pins:List (Addr×Obj)} {σ:St} {H:Hp} {s:Shared} {a:Addr} {y:V} {u:Value} {A:Around} {E:Value->Shared->Prop}
end
end L2
namespace Att
open PySem PySem.W PySem.Calls PyProof.Rows
theorem zb {P:Params} {h:Heap}:∀(ns:List Int) (vs:List Value),WellAll P h vs (ns.map WData.int)->IntsAre vs ns:=by
 intro ns
 induction ns with
 | nil=>
   intro vs w
   rw[List.map_nil]at w
   cases w
   exact .nil
 | cons n ns ih=>
   intro vs w
   rw[List.map_cons]at w
   cases w with
   | cons a b=>
     cases a
     exact .cons _ _ (ih _ b)
theorem U8 {l:OpenLaw} {n:Nat} (hn:l.most=some n) {P:Params} {h:Heap} {args:List WData} {vals:List Value}
   (hpre:l.row.toRowW.claim.pre args=true) (hwl:WellAll P h vals args):
   ∃a vs ns,vals=[Value.ref a]/\args=[WData.list (ns.map WData.int)]/\h.get? a=some {cls:=.type "list",data:=.seq vs.toArray}/\IntsAre vs ns/\ns.length<=n:=by
 have hsh:WShape.hasAll [] args [.list .int]=true:=(pre_splitW hpre).1
 have hc:l.pre.holds [] {args:=args}=true:=(pre_splitW hpre).2
 obtain⟨d,r,rfl,h1,h2⟩:=hasAllW_cons hsh
 obtain rfl:=hasAllW_nil h2
 obtain⟨xs,rfl,h3⟩:=hasW_list h1
 obtain⟨ns,rfl⟩:=items_int h3
 have hlen:ns.length<=n:=by
   unfold OpenLaw.pre at hc
   have h4:(WTm.not (.lt (.lit (.int (n:Int))) (.len (.arg 0)))).holds [] {args:=[.list (ns.map .int)]}=true:=by
     have h4:=(holds_andW hc).1
     rw[hn]at h4
     exact h4
   have h5:=condW_of h4 (w_not (w_lt w_lit (w_len_list (w_arg rfl))))
   rw[List.length_map]at h5
   refine Nat.le_of_not_lt λq=>?_
   have q':(n:Int) < ((ns.length:Nat):Int):=by omega
   first
     | (rw[decide_eq_true q']at h5;exact absurd h5 (by decide))
     | (simp at h5;omega)
 cases hwl with
 | cons w1 w2=>
   cases w2
   cases w1 with
   | list ho hall=>exact⟨_,_,ns,rfl,rfl,ho,zb ns _ hall,hlen⟩
theorem vi (l:OpenLaw) (args:List WData):l.row.toRowW.claim.post args (.bool true) args=true:=
 postW_of (r:=l.row.toRowW) (X:=(true==true))
   (show WShape.has [] (.bool true) .bool=true by first | rfl | decide | simp [WShape.has,WShape.arms,WShape.armsAll])
   (show (WTm.eq .res (.lit (.bool true))).value [] {args:=args,res:=some (.bool true),after:=args}=some (.bool (true==true)) from w_eq_bool (w_res rfl) w_lit) rfl
theorem attach_call {l:OpenLaw} {n:Nat} {q:Program} {loose:List Str} {XP:(Str->Option Value)->Heap->Prop} {YP:World->Heap->Prop} {d:DefRec}
   (hn:l.most=some n) (hdf:d.params.defaults=[])
   (call:∀(w:World) (s₀ s₁:Shared) (mg mb:Str->Option Value) (fa:Addr) (o:Obj) (pm cd doc:Value) (a:Addr) (vs:List Value) (ns:List Int),
     Ground q loose [] XP w s₀ mg mb s₁.heap->YP w s₁.heap->
     s₁.heap.get? fa=some o->o.data=.func (docDef d.name d.params d.body d.scope pm cd doc)->s₁.heap.CodeRec cd d.name->mg d.name=some (.ref fa)->
     s₁.heap.get? a=some {cls:=.type "list",data:=.seq vs.toArray}->IntsAre vs ns->ns.length<=n->s₁.gens=#[]->
     codeAny (model l.prog w) callerA (.call (.ref fa) ⟨[.ref a],[]⟩) (λr s'=>r=.ok (.ret (.bool true))/\OldK s₁.heap s'.heap/\s'.os=s₁.os/\AllBare s'.gens) s₁):
   WalkO q loose XP YP l.row.toRowW d [] (λf vs=>PySem.call f vs):=by
 intro w s₀ s₁ mg mb G Y fa o pm cd doc dV kV ho hd hcd hD hmg hg args vals as hpre hlay hrd hwl hlo
 obtain rfl:dV=.none:=Dflts.none hD hdf
 obtain rfl:kV=.none:=Dflts.noKw hD
 obtain⟨a,vs,ns,rfl,rfl,hobj,hints,hlen⟩:=U8 hn hpre hwl
 refine enter_call (codeAny_mono (call w s₀ s₁ mg mb fa o pm cd doc a vs ns G Y ho (fd_plain hd) hcd hmg hobj hints hlen hg) λr s' hq=>?_)
 obtain⟨rfl,h2,h3,h4⟩:=hq
 exact⟨.inl ⟨.bool true,.bool true,[],rfl,λ_=>rfl,.bool true,vi l _,λ_=>⟨List.Pairwise.nil,λ_ hm=>(nomatch hm)⟩⟩,h2,h3,h4⟩
section
variable {prog:Program} {w:World} {A:Around} {E:Value->Shared->Prop} {s:Shared} {K:Frag}
end
end Att
namespace L2
open PySem PySem.Spec PyProof.Rows
theorem YJ:∀{vs:List Value} {ns:List Int},IntsAre vs ns->qF (ns.map V.int) vs
 | _,_,.nil=>.nil
 | _,_,.cons n t h=>.cons ⟨t,rfl⟩ (YJ h)
def Gn (H:Hp):Prop:=∀b,H b=none\/∃o xs,H b=some (.frz o (.lst xs))
theorem yI {P:Program} {w:World} {K:PySem.W.Frag} {mg mb:Str->Option Value} {CX:W7} {k:Nat} {fa a:Addr} {fd:FuncData} {x:Str} {sp:Sp} {s₁:Shared} {vs:List Value} {ns:List Int}
   (KX:K.In s₁.heap) (hns:s₁.heap.Ns mainGlobals mg) (hb:s₁.heap.Ns builtinsNs mb) (hbb:∀x:Str,x≠"__name__"->mb x=bootBuiltins x) (hlim:s₁.heap.NoLimit) (hg:s₁.gens=#[])
   (ha:s₁.heap.get? a=some {cls:=.type "list",data:=.seq vs.toArray}) (hi:IntsAre vs ns) (hl:ns.length<=sizeLine) (hr:jg k callerA)
   (F:∀base:Heap,K.In base->base.Ns mainGlobals mg->qv P w K mg base CX k fa fd [x] sp) (hbind:∀(s:Shared) (u:Value),BindsTo s fd ⟨[u],[]⟩ [(x,u)])
   (hsp:∀H:Hp,Gn H->SqL K H a (ns.map V.int)->sp [.ref a] H (λv _=>v=.bl true) λ_ _ _=>False)
   (hCX:∀H e s',CX [] H s₁ (λ_ _ _=>False) e s'->False):
   codeAny (model P w) callerA (.call (.ref fa) ⟨[.ref a],[]⟩) (λr s'=>r=.ok (.ret (.bool true))/\OldK s₁.heap s'.heap/\s'.os=s₁.os/\AllBare s'.gens) s₁:=by
 have rv:=YJ hi
 have lenV:=hi.length
 have core:∀H:Hp,Gn H->SqL K H a (ns.map V.int)->JM P w H s₁.heap->(∀b,H b≠none->b=a)->(H a≠none->K.lookup a=none)->
     codeAny (model P w) callerA (.call (.ref fa) ⟨[.ref a],[]⟩) (λr s'=>r=.ok (.ret (.bool true))/\OldK s₁.heap s'.heap/\s'.os=s₁.os/\AllBare s'.gens) s₁:=by
   intro H hO hS hok hA hK
   have base_of:∀{b:Addr} {o:Obj},s₁.heap.get? b=some o->H b=none->(XT s₁.heap H).get? b=some o:=λe n=>y4 e n
   have noA:∀{b:Addr} {o:Obj} {es:Array DictEntry} {ep:Nat},s₁.heap.get? b=some o->o.data=.dict es ep->H b=none:=λ{b o es ep} e d=>by
     cases q:H b with
     | none=>rfl
     | some u=>
       have e':b=a:=hA b (by rw[q];simp)
       subst e'
       rw[ha]at e;cases e
       have d':Data.seq vs.toArray _=Data.dict es ep:=d
       cases d'
   have nsK:∀{b:Addr} {m:Str->Option Value},s₁.heap.Ns b m->(XT s₁.heap H).Ns b m:=λ{b m} ⟨o,es,ep,e,d,r⟩=>⟨o,es,ep,base_of e (noA e d),d,r⟩
   have hKb:K.In (XT s₁.heap H):=λb o e=>base_of (KX b o e) (by
     cases q:H b with
     | none=>rfl
     | some u=>
       have e':b=a:=hA b (by rw[q];simp)
       subst e'
       rw[hK (by rw[q];simp)]at e;cases e)
   have hM:Mod K mg (XT s₁.heap H):=⟨hKb,nsK hns,⟨mb,nsK hb,hbb⟩,let ⟨mc,h1,h2⟩:=hlim;⟨mc,nsK h1,h2⟩⟩
   have e0:VP P w K mg (XT s₁.heap H) callerA [] s₁ H:=⟨rfl,hM,λb o e=>wJ e,Nat.le_of_eq (vL _ _),trivial,λb hb=>absurd (show b∈([]:List Addr) from hb) (by simp),hok,.of_eq hg⟩
   refine codeAny_mono ((F _ hKb (nsK hns)).run callerA [] s₁ H ⟨[.ref a],[]⟩ [.ref a] [.ref a] _ _ hr e0 (hbind s₁ (.ref a)) (.cons rfl .nil) (hsp H hO hS)) λr s' h=>?_
   cases r with
   | error e=>exact(hCX H e s' h).elim
   | ok fl=>
     cases fl with
     | next=>exact False.elim h
     | brk=>exact False.elim h
     | cont=>exact False.elim h
     | ret u=>
       obtain⟨v,H',os,bare,un,hok',r',q⟩:=h
       have q':v=.bl true:=q
       subst q'
       obtain rfl:u=Value.bool true:=r'
       refine⟨rfl,OldK.of_keep λb o e=>?_,os,bare⟩
       cases q:H b with
       | none=>exact un.keep b o e q (by intro z;exact absurd (show b∈([]:List Addr) from z) (by simp)) (by simp)
       | some u=>
         rcases hO b with z | ⟨ob,xs,z⟩
         . rw[q]at z;cases z
         . have z2:=un.frzs b ob _ z
           obtain⟨e1,_⟩:=hok b _ z
           obtain⟨e2,_⟩:=hok' b _ z2
           rw[e]at e1;cases e1
           exact e2
 cases hk:K.lookup a with
 | some o=>
   have e:=KX a o hk
   rw[ha]at e
   cases e
   refine core (λ_=>none) (λ_=>.inl rfl) (.inr ⟨_,vs.toArray,_,hk,rfl,rfl,rfl,by rw[List.size_toArray,lenV];exact hl,by simpa using rv⟩) (λb u z=>by have z':(none:Option HO)=some u:=z;cases z') (λb z=>absurd rfl z) λz=>absurd rfl z
 | none=>
   refine core (λb=>if b=a then some (.frz {cls:=.type "list",data:=.seq vs.toArray} (.lst (ns.map V.int))) else none) (λb=>?_) (.inl (.inr ⟨{cls:=.type "list",data:=.seq vs.toArray},if_pos rfl⟩)) (λb u z=>?_) (λb z=>?_) λ_=>hk
   . by_cases hb:b=a
     . exact .inr ⟨_,_,if_pos hb⟩
     . exact .inl (if_neg hb)
   . by_cases hb:b=a
     . have z':=(if_pos hb).symm.trans z
       cases z'
       subst hb
       exact⟨ha,by rw[List.length_map];exact hl,vs,_,rv,ha⟩
     . have z':=(if_neg hb).symm.trans z
       cases z'
   . by_cases hb:b=a
     . exact hb
     . exact absurd (if_neg hb) z
end L2
namespace L2
open PySem PySem.Spec PyProof.Rows
theorem walk_of {l:PySem.W.OpenLaw} {n k:Nat} {q:Program} {loose:List Str} {XP:(Str->Option Value)->Heap->Prop} {YP:World->Heap->Prop} {d:DefRec} {K:Params->PySem.W.Frag} {CX:World->W7} {sp:World->Sp} {x:Str}
   (hn:l.most=some n) (hn2:n<=sizeLine) (hdf:d.params.defaults=[]) (hr:jg k callerA)
   (hY:∀(w:World) (h:Heap),YP w h->(K w.params).In h)
   (F:∀(w:World) (mg:Str->Option Value) (fa:Addr) (h:Heap),(K w.params).In h->h.Ns mainGlobals mg->mg d.name=some (.ref fa)->
     ∃fd:FuncData,(∀(s:Shared) (u:Value),BindsTo s fd ⟨[u],[]⟩ [(x,u)])/\
      ∀base:Heap,(K w.params).In base->base.Ns mainGlobals mg->qv l.prog w (K w.params) mg base (CX w) k fa fd [x] (sp w))
   (hsp:∀(w:World) (H:Hp) (a:Addr) (ns:List Int),ns.length<=n->Gn H->SqL (K w.params) H a (ns.map V.int)->sp w [.ref a] H (λv _=>v=.bl true) λ_ _ _=>False)
   (hCX:∀(w:World) (H:Hp) (s:Shared) (e:Value) (s':Shared),CX w [] H s (λ_ _ _=>False) e s'->False):
   PySem.W.WalkO q loose XP YP l.row.toRowW d [] (λf vs=>PySem.call f vs):=by
 refine Att.attach_call hn hdf λw s₀ s₁ mg mb fa o pm cd doc a vs ns G Y ho hd hcd hmg hobj hints hlen hg=>?_
 have KX:=hY w _ Y
 obtain⟨fd,hb,hF⟩:=F w mg fa _ KX G.T.g hmg
 exact yI KX G.T.g G.T.b G.T.builtins G.T.nolimit hg hobj hints (Nat.le_trans hlen hn2) hr hF hb (λH hO hS=>hsp w H a ns hlen hO hS) λH e s'=>hCX w H s₁ e s'
end L2
namespace L2
open PySem PySem.Spec PyProof.Rows
def QM (s:Stmt) (j:Nat):Stmt:=match s with
 | .ClassDef _ _ _ body _ _ _ _ _ _ _=>body.getD j (.Pass ⟨0,0,0,0⟩)
 | _=>.Pass ⟨0,0,0,0⟩
def QN (s:Stmt):Arguments:=match s with
 | .FunctionDef _ a _ _ _ _ _ _ _ _=>a
 | _=>{posonlyargs:=[],args:=[],vararg:=none,kwonlyargs:=[],kw_defaults:=[],kwarg:=none,defaults:=[]}
def Qg (s:Stmt):List Stmt:=match s with
 | .FunctionDef _ _ b _ _ _ _ _ _ _=>b
 | _=>[]
def qm (s:Stmt):Scope:=match s with
 | .FunctionDef _ _ _ _ _ _ sc _ _ _=>sc
 | _=>{kind:=.function,names:=[],isGenerator:=false,isCoroutine:=false}
abbrev qV:W7:=λ_ _ _ _ _ _=>False
abbrev E0:XK:=λ_ _ _=>False
theorem Zs {X:Cx}:Jf qV X E0:=λ_ _ _ _ _ _ _ h=>h.elim
structure j7 (K:PySem.W.Frag) (x qual:Str) (st:Stmt) (f:Addr) (fd:FuncData):Prop where
 ex:∃(oc:Value) (od:Option Addr) (kV doc pm:Value) (an:Option Addr) (cdv ct:Value) (osl:Array (Option Value)),
   fd=PySem.W.fnOf x qual (QN st) (Qg st) (qm st) .none kV doc pm an cdv ct/\K.lookup f=some ⟨oc,od,.func fd,osl⟩/\PySem.W.codeIn K cdv qual=true
 kp:PySem.W.keepIn K (.ref f)=true
section
variable {P:Program} {w:World} {K:PySem.W.Frag} {mg:Str->Option Value} {base:Heap}
theorem j7.ok {x qual:Str} {st:Stmt} {f:Addr} {fd:FuncData} {N ps:List Str} {k:Nat} {sp:Sp} (F:j7 K x qual st f fd) (S:qu N ps (qm st)) (len:∀vs H Q E,sp vs H Q E->vs.length=ps.length)
   (hbody:∀(cdv:Value) (A:Around) (outer:List Env) (s:Shared) (H:Hp) (vs:List V) (Q:VK) (E:XK),jg k (A.deeper (envOfC qual (qm st) s.heap.objs.size f cdv))->sp vs H Q E->
     ∃t,Kb (VG qV P w K mg base N qual (qm st) f cdv A outer s H E).nox (Qg st) t/\t {nx:=λ_ H'=>Q .non H',rt:=Q} (Zi N vs) H):qv P w K mg base qV (k+1) f fd ps sp:=by
 obtain⟨oc,od,kV,doc,pm,an,cdv,ct,osl,rfl,lk,hcd⟩:=F.ex
 refine RW lk hcd S len λA outer s H vs Q E hr hsp=>?_
 obtain⟨t,h,q⟩:=hbody cdv A outer s H vs Q E hr hsp
 exact⟨t,h.nox,q⟩
theorem j7.okJ {x qual:Str} {st:Stmt} {f:Addr} {fd:FuncData} {N ps:List Str} {k:Nat} {sp:Sp} (F:j7 K x qual st f fd) (S:qu N ps (qm st)) (len:∀vs H Q E,sp vs H Q E->vs.length=ps.length)
   (hbody:∀(cdv:Value) (A:Around) (outer:List Env) (s:Shared) (H:Hp) (vs:List V) (Q:VK) (E:XK),jg k (A.deeper (envOfC qual (qm st) s.heap.objs.size f cdv))->sp vs H Q E->
     ∃t,X9 (VG qV P w K mg base N qual (qm st) f cdv A outer s H E).nox (Qg st) t/\t {nx:=λ_ H'=>Q .non H',rt:=Q} (Zi N vs) H):qv P w K mg base qV (k+1) f fd ps sp:=
 F.ok S len λcdv A outer s H vs Q E hr h=>let ⟨t,a,b⟩:=hbody cdv A outer s H vs Q E hr h;⟨t,a.to,b⟩
theorem j7.binds {x qual:Str} {st:Stmt} {f:Addr} {fd:FuncData} {ps:List Str} (F:j7 K x qual st f fd)
   (h:∀(kV doc pm:Value) (an:Option Addr) (cdv ct:Value) (us:List Value),us.length=ps.length->bindArgs (PySem.W.fnOf x qual (QN st) (Qg st) (qm st) .none kV doc pm an cdv ct) ⟨us,[]⟩=pure (ps.zip us)):j8 K fd ps []:=by
 obtain⟨oc,od,kV,doc,pm,an,cdv,ct,osl,rfl,lk,hcd⟩:=F.ex
 exact .all (h kV doc pm an cdv ct)
theorem VA {x qual:Str} {st:Stmt} {f:Addr} {oc:Value} {od an:Option Addr} {osl:Array (Option Value)} {kV doc pm cdv ct:Value} (l:K.lookup f=some ⟨oc,od,.func (PySem.W.fnOf x qual (QN st) (Qg st) (qm st) .none kV doc pm an cdv ct),osl⟩)
   (c:PySem.W.codeIn K cdv qual=true) (k:PySem.W.keepIn K (.ref f)=true):j7 K x qual st f (PySem.W.fnOf x qual (QN st) (Qg st) (qm st) .none kV doc pm an cdv ct):=⟨⟨oc,od,kV,doc,pm,an,cdv,ct,osl,rfl,l,c⟩,k⟩
end
theorem jJ {A:Around} {k:Nat} (hr:jg k A):A.units+1 < cLine:=Nat.lt_of_le_of_lt (Nat.add_le_add_left (by decide:1<=64) _) hr.units
theorem qk {n:Nat} (h:n<=1000):n < sizeLine:=Nat.lt_of_le_of_lt h (by decide)
section
variable {X:Cx}
theorem pv (i:Nat) {x:Str} {pos:Pos} (hN:X.N[i]?=some x:=by rfl) (hv:Gx X.env.scope x:=by first | exact Or.inl rfl | exact Or.inr (Or.inl rfl) | exact Or.inr (Or.inr rfl)) (hd:(x==("__debug__":Str))=false:=by decide)
   (hcd:(x==("__classdict__":Str))=false:=by decide):PE X (.Name x pos) (qJ i):=Ku hN hv hd hcd
theorem jv (i:Nat) {x:Str} {pos:Pos} (hN:X.N[i]?=some x:=by rfl) (hv:Gx X.env.scope x:=by first | exact Or.inl rfl | exact Or.inr (Or.inl rfl) | exact Or.inr (Or.inr rfl)) (hd:(x==("__debug__":Str))=false:=by decide) (hcd:(x==("__classdict__":Str))=false:=by decide):JE X (.Name x pos) (qJ i):=.of (pv i hN hv hd hcd)
end
theorem jx {A B:Prop} (h:B):if false=true then A else B:=by
 rw[if_neg Bool.false_ne_true]
 exact h
theorem Qc {A B:Prop} (h:A):if true=true then A else B:=by
 rw[if_pos rfl]
 exact h
theorem vG {c A B:Prop} [Decidable c] (h1:c->A) (h2:¬c->B):if c then A else B:=by
 by_cases h:c
 . rw[if_pos h]
   exact h1 h
 . rw[if_neg h]
   exact h2 h
def qo (H H':Hp):Prop:=∀b o,H b=some o->H' b=some o
theorem qo.refl (H:Hp):qo H H:=λ_ _ h=>h
theorem qo.trans {H H1 H2:Hp} (a:qo H H1) (b:qo H1 H2):qo H H2:=λc o h=>b c o (a c o h)
theorem qo.seq {K:PySem.W.Frag} {H H':Hp} {a:Addr} {xs:List V} (e:qo H H') (h:SqL K H a xs):SqL K H' a xs:=by
 rcases h with (h | ⟨o,h⟩) | h
 . exact .inl (.inl (e _ _ h))
 . exact .inl (.inr ⟨o,e _ _ h⟩)
 . exact .inr h
section
variable {X:Cx}
end
section
variable {κ:Type} [DecidableEq κ]
theorem xF {kvs:List (κ×V)} {k:κ} {v:V} (h:qM kvs k=some v):k∈kvs.map (·.1):=by
 have q:(kvs.any λkv=>decide (kv.1=k))=true:=by
   rw[Qk,h]
   all_goals rfl
 obtain⟨p,hp,e⟩:=List.any_eq_true.mp q
 exact List.mem_map.mpr ⟨p,hp,of_decide_eq_true e⟩
end
end L2
set_option Elab.async false
set_option linter.all false
set_option maxRecDepth 100000
set_option maxHeartbeats 4000000
namespace L2
open PySem PySem.Spec PyProof.Rows
theorem UG:(NameKind.free==NameKind.free)=true:=rfl
def jR (env:Env):List (Str×NameKind)->List (Str×Addr)->List (Str×Addr)
 | [],cs=>cs
 | (n,k)::r,cs=>jR env r (if k==.free then (n,(env.cells.lookup n).getD 0)::cs else cs)
theorem J4 {scope:Scope} {env:Env} (h:∀x∈scope.names,x.2=.free->∃c,env.cells.lookup x.1=some c):closureFor scope env=pure (jR env scope.names []):=by
 simp only[closureFor]
 have key:∀(l:List (Str×NameKind)) (cs:List (Str×Addr)),(∀x∈l,x.2=.free->∃c,env.cells.lookup x.1=some c)->
     (forIn l cs λx (r:List (Str×Addr))=>if (x.snd==NameKind.free)=true then (do let a <-cellOf env x.fst;pure (ForInStep.yield ((x.fst,a)::r)):Sem (ForInStep (List (Str×Addr)))) else pure (ForInStep.yield r))=(pure (jR env l cs):Sem (List (Str×Addr))):=by
   intro l
   induction l with
   | nil=>intro cs _;rfl
   | cons x l ih=>
     intro cs hl
     obtain⟨n,k⟩:=x
     have ihl:=λcs'=>ih cs' λy hy=>hl y (List.mem_cons_of_mem _ hy)
     rw[List.forIn_cons]
     by_cases hk:k=.free
     . subst hk
       obtain⟨c,hc⟩:=hl (n,.free) List.mem_cons_self rfl
       have e1:cellOf env n=pure c:=by
         unfold cellOf
         have hc':env.cells.lookup n=some c:=hc
         rw[hc']
       have e2:jR env ((n,NameKind.free)::l) cs=jR env l ((n,c)::cs):=by
         have hc':env.cells.lookup n=some c:=hc
         show jR env l (if (NameKind.free==NameKind.free)=true then (n,(env.cells.lookup n).getD 0)::cs else cs)=_
         rw[if_pos UG,hc']
         rfl
       rw[e2,<-ihl]
       dsimp only
       rw[if_pos UG,e1]
       rfl
     . have hb:(k==NameKind.free)=false:=by simpa using hk
       have e2:jR env ((n,k)::l) cs=jR env l cs:=by
         show jR env l (if (k==NameKind.free)=true then (n,(env.cells.lookup n).getD 0)::cs else cs)=_
         rw[if_neg (by rw[hb];decide)]
       rw[e2,<-ihl]
       dsimp only
       rw[if_neg (by rw[hb];decide)]
       rfl
 rw[key scope.names [] h]
 rfl
theorem Z7 {env:Env} {x:Str} {c:Addr}:∀{l:List (Str×NameKind)} {cs:List (Str×Addr)},(jR env l cs).lookup x=some c->cs.lookup x=some c\/((x,NameKind.free)∈l/\c=(env.cells.lookup x).getD 0)
 | [],cs,h=>.inl h
 | (n,k)::r,cs,h=>by
   rcases Z7 (l:=r) h with h | ⟨h1,h2⟩
   . by_cases hk:k=.free
     . subst hk
       rw[if_pos UG,List.lookup_cons]at h
       by_cases hx:x=n
       . subst hx
         simp only[beq_self_eq_true]at h
         exact .inr ⟨List.mem_cons_self,(Option.some.inj h).symm⟩
       . have hb:(x==n)=false:=beq_eq_false_iff_ne.mpr hx
         simp only[hb]at h
         exact .inl h
     . have hb:(k==NameKind.free)=false:=by simpa using hk
       rw[if_neg (by rw[hb];decide)]at h
       exact .inl h
   . exact .inr ⟨List.mem_cons_of_mem _ h1,h2⟩
theorem Za {env:Env} {x:Str}:∀{l:List (Str×NameKind)} {cs:List (Str×Addr)},((x,NameKind.free)∈l\/∃c,cs.lookup x=some c)->∃c,(jR env l cs).lookup x=some c
 | [],cs,h=>by
   rcases h with h | h
   . cases h
   . exact h
 | (n,k)::r,cs,h=>by
   show ∃c,(jR env r (if (k==NameKind.free)=true then (n,(env.cells.lookup n).getD 0)::cs else cs)).lookup x=some c
   refine Za (l:=r) ?_
   rcases h with h | ⟨c,h⟩
   . rcases List.mem_cons.mp h with h | h
     . cases h
       refine .inr ⟨(env.cells.lookup x).getD 0,?_⟩
       rw[if_pos UG,List.lookup_cons]
       simp only[beq_self_eq_true]
     . exact .inl h
   . refine .inr ?_
     by_cases hk:(k==NameKind.free)=true
     . rw[if_pos hk,List.lookup_cons]
       cases hx:x==n with
       | true=>exact⟨_,rfl⟩
       | false=>exact⟨c,h⟩
     . rw[if_neg hk]
       exact⟨c,h⟩
theorem Zq {scope:Scope} {env:Env} {x:Str} {k:NameKind}:∀{names:List (Str×NameKind)},names.lookup x=some k->
   ∃k',(names.map λ(n,k)=>if (k==NameKind.free&&env.scope.kind==.function&&env.kindOf n==some .cell) then (n,NameKind.cell) else (n,k)).lookup x=some k'/\(k'=k\/(k=.free/\k'=.cell))
 | [],h=>by simp at h
 | (n,j)::r,h=>by
   rw[List.map_cons]
   by_cases hx:x=n
   . subst hx
     rw[List.lookup_cons]at h
     simp only[beq_self_eq_true]at h
     cases h
     dsimp only
     by_cases hc:(k==NameKind.free&&env.scope.kind==.function&&env.kindOf x==some .cell)=true
     . rw[if_pos hc,List.lookup_cons]
       simp only[beq_self_eq_true]
       refine⟨_,rfl,.inr ⟨?_,rfl⟩⟩
       simp only[Bool.and_eq_true,beq_iff_eq]at hc
       exact hc.1.1
     . rw[if_neg hc,List.lookup_cons]
       simp only[beq_self_eq_true]
       exact⟨_,rfl,.inl rfl⟩
   . have hb:(x==n)=false:=beq_eq_false_iff_ne.mpr hx
     rw[List.lookup_cons]at h
     simp only[hb]at h
     obtain⟨k',h1,h2⟩:=Zq (env:=env) (scope:=scope) h
     refine⟨k',?_,h2⟩
     dsimp only
     by_cases hc:(j==NameKind.free&&env.scope.kind==.function&&env.kindOf n==some .cell)=true
     . rw[if_pos hc,List.lookup_cons]
       simp only[hb]
       exact h1
     . rw[if_neg hc,List.lookup_cons]
       simp only[hb]
       exact h1
theorem mem_of_lookup {x:Str} {k:NameKind}:∀{l:List (Str×NameKind)},l.lookup x=some k->(x,k)∈l
 | [],h=>by simp at h
 | (n,j)::r,h=>by
   rw[List.lookup_cons]at h
   by_cases hx:x=n
   . subst hx
     simp only[beq_self_eq_true]at h
     cases h
     exact List.mem_cons_self
   . have hb:(x==n)=false:=beq_eq_false_iff_ne.mpr hx
     simp only[hb]at h
     exact List.mem_cons_of_mem _ (mem_of_lookup h)
theorem J3 {f:Str×NameKind->Str×NameKind} (hf:∀p,(f p).1=p.1) {x:Str} {k:NameKind}:∀{l:List (Str×NameKind)},(l.map f).lookup x=some k->∃j,l.lookup x=some j/\(f (x,j)).2=k
 | [],h=>by simp at h
 | (n,j)::r,h=>by
   rw[List.map_cons]at h
   have e:f (n,j)=(n,(f (n,j)).2):=by
     have:=hf (n,j)
     exact Prod.ext this rfl
   rw[e,List.lookup_cons]at h
   rw[List.lookup_cons]
   by_cases hx:x=n
   . subst hx
     simp only[beq_self_eq_true]at h ⊢
     exact⟨j,rfl,Option.some.inj h⟩
   . have hb:(x==n)=false:=beq_eq_false_iff_ne.mpr hx
     simp only[hb]at h ⊢
     exact J3 hf h
def Z6 (X:Cx) (N:List Str) (scope:Scope) (C:Addr) (s₂:Shared) (H₂:Hp) (fp:List Addr) (pins:List (Addr×Obj)):Cx where
 prog:=X.prog
 w:=X.w
 K:=X.K
 mg:=X.mg
 base:=X.base
 A:=X.A
 N:=N
 s₀:=s₂
 H₀:=H₂
 env:=compEnvC scope (jR X.env scope.names []) C X.env
 outer:=X.stack
 stack:=X.stack
 ex:=fp
 fn:=λ_=>false
 calm:=X.calm
 pn:=X.pn++pins
 xe:=λ_ _=>False
def Kj (ix:List (Option Nat)) (σ:St):St:=ix.map λo=>o.bind λj=>(σ[j]?).join
def ue (N' N:List Str) (sc esc:Scope) (ix:List (Option Nat)):Bool:=
 ix.length==N'.length&&(ix.zip N').all λp=>match p.1 with
   | none=>true
   | some j=>N[j]?==some p.2&&sc.names.lookup p.2==some .free&&(esc.names.lookup p.2==some .cell || esc.names.lookup p.2==some .free)
structure jV (X:Cx) (N':List Str) (ix:List (Option Nat)) (scope:Scope):Prop where
 kind:scope.kind=.function
 nocell:(scope.names.all λx=>x.2 != .cell)=true
 locs:(scope.names.all λx=>x.2 != .local || scope.names.lookup x.1==some .local)=true
 frees:(scope.names.all λx=>x.2 != .free || (X.env.scope.names.lookup x.1==some .cell || X.env.scope.names.lookup x.1==some .free))=true
 ixs:ue N' X.N scope X.env.scope ix=true
section
variable {X:Cx} {N':List Str} {ix:List (Option Nat)} {scope:Scope} {pins:List (Addr×Obj)} {σ:St} {H:Hp} {s:Shared}
theorem jV.cellH (S:jV X N' ix scope):∀y∈scope.names,y.2≠.cell:=λy hy e=>by
 have:=List.all_eq_true.mp S.nocell y hy
 rw[e]at this
 exact absurd this (by decide)
theorem jV.locH (S:jV X N' ix scope):∀y∈scope.names,y.2=.local->scope.names.lookup y.1=some .local:=λy hy e=>by
 have:=List.all_eq_true.mp S.locs y hy
 simp only[e,Bool.or_eq_true,bne_self_eq_false,Bool.false_eq_true,false_or,beq_iff_eq]at this
 exact this
theorem jV.freeH (S:jV X N' ix scope) (ok:X.Ok):∀x∈scope.names,x.2=.free->∃c,X.env.cells.lookup x.1=some c:=λx hx e=>by
 have:=List.all_eq_true.mp S.frees x hx
 simp only[e,Bool.or_eq_true,bne_self_eq_false,Bool.false_eq_true,false_or,beq_iff_eq]at this
 exact ok.has x.1 this
theorem jV.clook (S:jV X N' ix scope) (ok:X.Ok) {x:Str} {c:Addr} (h:(jR X.env scope.names []).lookup x=some c):X.env.cells.lookup x=some c/\(x,NameKind.free)∈scope.names:=by
 rcases Z7 h with h | ⟨h1,h2⟩
 . simp at h
 . obtain⟨c',hc'⟩:=S.freeH ok _ h1 rfl
   have hc2:X.env.cells.lookup x=some c':=hc'
   rw[hc2]at h2
   subst h2
   exact⟨hc2,h1⟩
theorem RX {C:Addr} {fp:List Addr} (S:jV X N' ix scope) (I:qy X pins σ H s) (hC:s.heap.objs.size<=C) (hf:∀b∈fp,Ze X pins H b) (hfo:∀b∈fp,b < s.heap.objs.size):(Z6 X N' scope C s H fp pins).Ok where
 mod:=I.ok.mod
 kind:=S.kind
 glob:=I.ok.glob
 blt:=I.ok.blt
 above:=hC
 inj:=λx y c h1 h2=>I.ok.inj x y c (S.clook I.ok h1).1 (S.clook I.ok h2).1
 has:=λx hx=>by
   have hx':(relabel scope X.env).names.lookup x=some .cell\/(relabel scope X.env).names.lookup x=some .free:=hx
   refine Za (.inl ?_)
   have go:∀k,(k=NameKind.cell\/k=.free)->(relabel scope X.env).names.lookup x=some k->(x,NameKind.free)∈scope.names:=λk hk h=>by
     obtain⟨j,h1,h2⟩:=J3 (f:=λ(n,k)=>if (k==NameKind.free&&X.env.scope.kind==.function&&X.env.kindOf n==some .cell) then (n,NameKind.cell) else (n,k)) (λp=>by dsimp only;split<;>rfl) h
     have hm:=mem_of_lookup h1
     by_cases hj:j=.free
     . subst hj;exact hm
     . exfalso
       have hb:(j==NameKind.free)=false:=by simpa using hj
       dsimp only at h2
       rw[hb,Bool.false_and,Bool.false_and,if_neg (by decide)]at h2
       have h2':j=k:=h2
       rcases hk with e | e
       . exact S.cellH _ hm (h2'.trans e)
       . exact hj (h2'.trans e)
   rcases hx' with h | h
   . exact go _ (.inl rfl) h
   . exact go _ (.inr rfl) h
 cab:=λx c h _=>by cases h
 hd:=I.ok.hd
 frames:=I.ok.frames
 stk:=.inl rfl
 exf:=λb hb=>⟨Nat.ne_of_lt (Nat.lt_of_lt_of_le (hfo b hb) hC),λx c h=>(hf b hb).2.2.2.2.1 x c (S.clook I.ok h).1⟩
 bs:=I.bs
 bsz:=Nat.le_trans I.ok.bsz I.sz
 noex:=λb o e hb=>by
   rcases(hf b hb).2.2.2.1 with h | h
   . exact I.ok.noex b o e h
   . exact absurd (Nat.lt_of_lt_of_le (Heap.lt_size e) (Nat.le_trans I.ok.bsz h)) (Nat.lt_irrefl _)
 exfs:=λb hb hm=>by
   rcases List.mem_cons.mp (I.stkSub b hm) with e | e
   . exact(hf b hb).2.1 e
   . exact(hf b hb).2.2.1 e
 funs:=I.stack
 frf:=I.stkFree
theorem vK {C D:Addr} {fp:List Addr} {h₁:Heap} {m:Str->Option Value} {t':Nat} {n₀:Nat} (S:jV X N' ix scope) (I:qy X pins σ H s) (hf:∀b∈fp,Ze X pins H b) (hfo:∀b∈fp,b < s.heap.objs.size)
   (hD:s.heap.objs.size<=D) (hC:s.heap.objs.size<=C) (hDC:D≠C) (kp:∀b o,s.heap.get? b=some o->h₁.get? b=some o) (hn:h₁.Ns C m) (hl:h₁.get? D=some {cls:=.type "list",data:=.seq #[] n₀}):
   qy (Z6 X N' scope C s H fp pins) [] (Kj ix σ) (upd H D (.lst [])) {s with heap:=h₁,toks:=t'} where
 ok:=RX S I hC hf hfo
 os:=rfl
 bare:=I.bare
 base:=Un.laid kp hD (I.hok.fresh hD)
 loc:=by
   refine⟨m,hn,λi x v e1 e2 e3=>?_⟩
   have hix:=S.ixs
   unfold ue at hix
   rw[Bool.and_eq_true]at hix
   obtain⟨hlen,hall⟩:=hix
   have hlen':ix.length=N'.length:=by simpa using hlen
   have e1':N'[i]?=some x:=e1
   unfold Kj at e2
   rw[List.getElem?_map]at e2
   cases ho:ix[i]? with
   | none=>rw[ho]at e2;cases e2
   | some o=>
     rw[ho]at e2
     cases o with
     | none=>cases e2
     | some j=>
       have e2':(σ[j]?).join=some v:=Option.some.inj e2
       have hz:(ix.zip N')[i]?=some (some j,x):=by
         rw[List.getElem?_zip_eq_some]
         exact⟨ho,e1'⟩
       have hm:=List.all_eq_true.mp hall _ (List.mem_of_getElem? hz)
       dsimp only at hm
       simp only[Bool.and_eq_true,beq_iff_eq,Bool.or_eq_true]at hm
       obtain⟨⟨hN,hfr⟩,hk⟩:=hm
       have e2'':σ[j]?=some (some v):=by
         cases q:σ[j]? with
         | none=>rw[q]at e2';cases e2'
         | some z=>
           rw[q]at e2'
           have:z=some v:=e2'
           rw[this]
       obtain⟨mX,hnX,hlX⟩:=I.loc
       have hvis:Gx X.env.scope x:=by
         rcases hk with h | h
         . exact .inr (.inl h)
         . exact .inr (.inr h)
       obtain⟨u,ru,lu⟩:=hlX j x v hN e2'' hvis
       refine⟨u,ru,?_⟩
       rcases lu with ⟨hk',_⟩ | ⟨_,c,hc,hcell⟩
       . exfalso
         have hk'':X.env.scope.names.lookup x=some .local:=hk'
         rcases hk with h | h<;>rw[h]at hk''<;>cases hk''
       . right
         obtain⟨k',r1,r2⟩:=Zq (scope:=scope) (env:=X.env) hfr
         refine⟨?_,?_⟩
         . rcases r2 with z | ⟨_,z⟩
           . right;rw[z]at r1;exact r1
           . left;rw[z]at r1;exact r1
         . obtain⟨c',hc'⟩:=Za (env:=X.env) (cs:=[]) (.inl (mem_of_lookup hfr))
           have:=(S.clook I.ok hc').1
           rw[hc]at this
           cases this
           obtain⟨o,ho',hd⟩:=hcell
           exact⟨c,hc',o,kp _ _ ho',hd⟩
 cell:=λx c h=>by
   obtain⟨v,o,ho,hd⟩:=I.cell x c (S.clook I.ok h).1
   exact⟨v,o,kp _ _ ho,hd⟩
 free:=by
   show (upd H D _) C=none
   rw[qi (Ne.symm hDC)]
   exact I.hok.fresh hC
 freeC:=λx c h=>by
   have h1:=(S.clook I.ok h).1
   obtain⟨v,o,ho,hd⟩:=I.cell x c h1
   rw[qi (Nat.ne_of_lt (Nat.lt_of_lt_of_le (Heap.lt_size ho) hD))]
   exact I.freeC x c h1
 pin:=λp hp=>by
   have hp':p∈X.pn++pins:=by
     have:p∈(X.pn++pins)++[]:=hp
     simpa using this
   obtain⟨e,n,ne,nf,d⟩:=I.pin p hp'
   have hlt:=Heap.lt_size e
   refine⟨kp _ _ e,?_,Nat.ne_of_lt (Nat.lt_of_lt_of_le hlt hC),λhm=>?_,d⟩
   . rw[qi (Nat.ne_of_lt (Nat.lt_of_lt_of_le hlt hD))];exact n
   . rcases List.mem_cons.mp (I.stkSub p.1 hm) with z | z
     . exact ne z
     . exact nf z
 hok:=I.hok.laid kp hD ⟨Nat.zero_le _,[],n₀,.nil,hl⟩
 len:=by
   have hix:=S.ixs
   unfold ue at hix
   rw[Bool.and_eq_true]at hix
   have:ix.length=N'.length:=by simpa using hix.1
   show (Kj ix σ).length=N'.length
   unfold Kj
   rw[List.length_map,this]
theorem yW {C:Addr} {fp:List Addr} {σ':St} {H':Hp} {s':Shared} {pl:List (Addr×Obj)} (I:qy X pins σ H s) (hf:∀b∈fp,Ze X pins H b) (J:qy (Z6 X N' scope C s H fp pins) pl σ' H' s'):qy X pins σ H' s':=
 I.call' (ch:=fp) J.os J.base J.hok J.bare λb hb=>⟨(hf b hb).2.2.2.1,(hf b hb).2.1,(hf b hb).2.2.2.2.1,(hf b hb).2.2.2.2.2⟩
theorem yV {C:Addr} {H':Hp} {s₀ s':Shared} {h':Heap} (I₀:qy X pins σ H s₀) (I:qy X pins σ H' s') (hC:s₀.heap.objs.size<=C) (hn:H' C=none) (sb:Heap.SameBut C s'.heap h'):qy X pins σ H' {s' with heap:=h'}:=by
 refine I.turned (it:=C) (t':=s'.toks) (λb o hb e=>(sb.2 b hb).trans e) hn (Nat.ne_of_gt (Nat.lt_of_lt_of_le I₀.lt hC)) (.inr (Nat.le_trans I₀.sz hC)) (λx c e z=>?_) λp hp z=>?_
 . obtain⟨v,q⟩:=I₀.cell x c e
   exact absurd (Nat.lt_of_lt_of_le q.lt (by rw[z];exact hC)) (Nat.lt_irrefl _)
 . exact absurd (Nat.lt_of_lt_of_le (Heap.lt_size (I₀.pin p hp).1) (by rw[z];exact hC)) (Nat.lt_irrefl _)
end
def Gy (X:Cx) (ifs:List Expr) (t:TT):Prop:=
 ∀(pins:List (Addr×Obj)) (s:Shared) (σ:St) (H:Hp) (Q:Bool->Hp->Prop),qy X pins σ H s->t σ H Q->
   wpAny (model X.prog X.w) X.A (forIn ifs true λc r=>if r=true then do let ok <-isTrue c X.env (eval c X.env);pure (ForInStep.yield ok) else pure (ForInStep.yield r)) (TP X pins σ Q) X.xe s
@[irreducible] def xA (X:Cx) (ifs:List Expr) (t:TT):Prop:=Gy X ifs t
theorem xA.of {X:Cx} {ifs:List Expr} {t:TT} (h:Gy X ifs t):xA X ifs t:=by unfold xA;exact h
theorem xA.to {X:Cx} {ifs:List Expr} {t:TT} (h:xA X ifs t):Gy X ifs t:=by unfold xA at h;exact h
def GH:TT:=λ_ H Q=>Q true H
theorem js {X:Cx}:xA X [] GH:=.of (by
 exact λ_ _ _ H _ I h=>wpAny_tests_nil ⟨H,I,h⟩)
theorem jF {X:Cx} {c:Expr} {t:TT} (h:JT X c t):xA X [c] t:=.of (by
 have h:=h.to
 exact λpins s σ H Q I hw=>wpAny_tests_one (h pins s σ H Q I hw))
section
variable {prog:Program} {w:World} {A:Around} {R:Result->Shared->Prop} {s:Shared}
theorem XX {elt target iter:Expr} {ifs:List Expr} {scope:Scope} {pos:Pos} {it acc:Value} {env:Env} (I:Nat->Shared->Prop)
   (turn:∀n s,I n s->wpAny (model prog w) A (pyNext it) (λr s₁=>match r with
     | none=>R (.ok .next) s₁
     | some v=>wpAny (model prog w) A (letOwnedTupleGo target it v) (λ_ s₁'=>wpAny (model prog w) A (assign target env v) (λ_ s₂=>
         wpAny (model prog w) A (forIn ifs true λc r=>if r=true then do let ok <-isTrue c env (eval c env);pure (ForInStep.yield ok) else pure (ForInStep.yield r)) (λok s₃=>
           if ok=true then wpAny (model prog w) A (eval elt env) (λx s₄=>
             wpAny (model prog w) A (call (.builtin "list.append") [acc,x]) (λ_ s₅=>∃m,m < n/\I m s₅) (λ_ _=>False) s₄) (λ_ _=>False) s₃
           else ∃m,m < n/\I m s₃) (λ_ _=>False) s₂) (λ_ _=>False) s₁') (λ_ _=>False) s₁) (λ_ _=>False) s)
   (n:Nat) (h:I n s):
   codeAny (model prog w) A (.compLoop (.ListComp elt [⟨target,iter,ifs,0⟩] scope pos) 0 it acc env) R s:=by
 refine codeAny_loop rfl I (λn s hI=>?_) n h
 show wpAny _ A ((compTurn (.ListComp elt [⟨target,iter,ifs,0⟩] scope pos) 0 it acc env).onRaise (λx=>do noteFrame x env;theTreesLotGoes x)) _ _ s
 refine wpAny_noted ?_
 rw[compTurn_list]
 refine wpAny_bind (wpAny_standAt (wpAny_bind (wpAny_mono (turn n s hI) (λr s₁ h₁=>?_) λ_ _ h'=>h'.elim)))
 cases r with
 | none=>exact wpAny_pure h₁
 | some v=>
   refine wpAny_bind (wpAny_mono h₁ (λ_ s₁' h₁'=>?_) λ_ _ h'=>h'.elim)
   refine wpAny_bind (wpAny_mono h₁' (λ_ s₂ h₂=>wpAny_bind (wpAny_mono h₂ (λok s₃ h₃=>?_) λ_ _ h'=>h'.elim)) λ_ _ h'=>h'.elim)
   cases ok with
   | false=>exact wpAny_pure ⟨rfl,h₃⟩
   | true=>
     exact wpAny_bind (wpAny_bind (wpAny_mono h₃ (λx s₄ h₄=>wpAny_bind (wpAny_mono h₄ (λ_ s₅ h₅=>wpAny_pure (wpAny_pure ⟨rfl,h₅⟩)) λ_ _ h'=>h'.elim)) λ_ _ h'=>h'.elim))
end
def Zh (J:It) (g:TG) (tt:TT) (te:TE) (D:Addr) (σ:St) (H:Hp) (Q:Hp->Prop):Prop:=
 ∃W:Nat->Nat->St->Hp->Prop,(∃m,W 0 m σ (upd H D (.lst [])))/\∀i m σ' H',W i m σ' H'->
   (J.stop i H'/\Q H')\/(J.go i H'/\∃N:St->Hp->Prop,(∀σ2 H2,N σ2 H2->∃m',m' < m/\W (i+1) m' σ2 H2)/\∀x H2,J.yld i H' x H2->g x σ' H2 λσ2 H3=>tt σ2 H3 λb H4=>
     if b=true then te σ2 H4 λv H5=>∃ys,H5 D=some (.lst ys)/\ys.length < sizeLine/\N σ2 (upd H5 D (.lst (ys++[v]))) else N σ2 H4)
def Nd (wi:TI) (ix:List (Option Nat)) (g:TG) (tt:TT) (te:TE):TE:=λσ H Q=>wi σ H λJ H1=>∀D,H1 D=none->Zh J g tt te D (Kj ix σ) H1 λH2=>Q (.ref D) H2
section
variable {X:Cx} {N':List Str} {ix:List (Option Nat)} {scope:Scope}
theorem Xc {elt iter target:Expr} {ifs:List Expr} {pos:Pos} {g:TG} {tt:TT} {te:TE} {pins:List (Addr×Obj)} {σ:St} {H:Hp} {s:Shared} {it:Addr} {fp:List Addr} {tn:Nat->Heap->Prop} {J:It} {E:Value->Shared->Prop}
   {RR:Value->Addr->Result->Shared->Prop} {Q:Addr->Hp->Prop}
   (hc:X.calm=true) (S:jV X N' ix scope) (I:qy X pins σ H s) (T:YH X.prog X.w X.K target J fp it tn) (st:tn 0 s.heap) (hf:∀b∈fp,Ze X pins H b)
   (hb:∀C s₂ H₂ fp pins,PG (Z6 X N' scope C s₂ H₂ fp pins) target g/\Gy (Z6 X N' scope C s₂ H₂ fp pins) ifs tt/\PE (Z6 X N' scope C s₂ H₂ fp pins) elt te)
   (h:∀D,H D=none->Zh J g tt te D (Kj ix σ) H (Q D))
   (fin:∀(D C:Addr) (H':Hp) (s':Shared) (m:Str->Option Value),s.heap.objs.size<=C->H' C=none->s'.heap.Ns C m->qy X pins σ H' s'->Q D H'->RR (.ref D) C (.ok .next) s'):
   wpAny (model X.prog X.w) X.A (newList []) (λacc s₃=>wpAny (model X.prog X.w) X.A (newFunctionEnv scope X.env.globals (jR X.env scope.names []) [] X.env.qual none .none (some X.env)) (λcenv s₄=>
     codeAny (model X.prog X.w) X.A (.compStart (.ListComp elt [⟨target,iter,ifs,0⟩] scope pos) 0 (.ref it) acc {cenv with scope:=relabel scope X.env}) (RR acc cenv.locals) s₄) E s₃) E s:=by
 have hfo:∀b∈fp,b < s.heap.objs.size:=λb hb=>by
   obtain⟨o,e,_⟩:=T.obj _ _ st b hb
   exact Heap.lt_size e
 refine wpAny_newObj_type (wpAny_newFunctionEnv S.cellH (by intro y hy;simp at hy) (λh₁ hns₁ hsb₁=>?_) S.kind)
 dsimp only at hns₁ hsb₁ ⊢
 generalize hH2:s.heap.push {cls:=.type "list",dict:=none,data:=.seq ([]:List Value).toArray}=H2 at hns₁ hsb₁ ⊢
 have hC:H2.objs.size=s.heap.objs.size+1:=by rw[<-hH2,Heap.size_push]
 have hDC:s.heap.objs.size≠H2.objs.size:=by rw[hC];exact Nat.ne_of_lt (Nat.lt_succ_self _)
 have hCle:s.heap.objs.size<=H2.objs.size:=by rw[hC];exact Nat.le_succ _
 have below:∀b,b < s.heap.objs.size->b≠H2.objs.size:=λb hb=>by rw[hC];exact Nat.ne_of_lt (Nat.lt_succ_of_lt hb)
 have old:∀b o,s.heap.get? b=some o->h₁.get? b=some o:=λb o e=>hsb₁.extBut b o (below b (Heap.lt_size e)) (Heap.get?_push_of_some _ (hH2▸Heap.get?_push_of_some _ e))
 have hacc:h₁.get? s.heap.objs.size=some {cls:=.type "list",data:=.seq #[] 0}:=hsb₁.extBut _ _ hDC (Heap.get?_push_of_some _ (hH2▸Heap.get?_push_size _ rfl))
 obtain⟨W,⟨m0,w0⟩,turn⟩:=h s.heap.objs.size (I.hok.fresh (Nat.le_refl _))
 have I1:qy (Z6 X N' scope H2.objs.size s H fp pins) [] (Kj ix σ) (upd H s.heap.objs.size (.lst [])) {s with heap:=h₁,toks:=s.toks+([]:List (Str×Value)).length}:=
   vK S I hf hfo (Nat.le_refl _) hCle hDC old hns₁ hacc
 have st₁:tn 0 h₁:=T.keep _ _ _ st λb hb o e=>old b o e
 have fpn:∀b∈fp,(upd H s.heap.objs.size (.lst [])) b=none:=λb hb=>by
   rw[qi (Nat.ne_of_lt (hfo b hb))]
   exact(hf b hb).1
 obtain⟨hg,htt,hte⟩:=hb H2.objs.size s H fp pins
 have okY:=I1.ok
 have stat:∀{H':Hp},(∀b∈fp,H' b=none)->∀b∈fp,Ze (Z6 X N' scope H2.objs.size s H fp pins) [] H' b:=λ{H'} hn b hb=>
   ⟨hn b hb,(okY.exf b hb).1,okY.exfs b hb,.inl hb,(okY.exf b hb).2,λp hp=>by
     have hp':p∈X.pn++pins:=by
       have:p∈(X.pn++pins)++[]:=hp
       simpa using this
     exact(hf b hb).2.2.2.2.2 p hp'⟩
 have loop:codeAny (model X.prog X.w) X.A (.compLoop (.ListComp elt [⟨target,iter,ifs,0⟩] scope pos) 0 (.ref it) (.ref s.heap.objs.size) (compEnvC scope (jR X.env scope.names []) H2.objs.size X.env))
     (RR (.ref s.heap.objs.size) H2.objs.size) {s with heap:=h₁,toks:=s.toks+([]:List (Str×Value)).length}:=by
   refine XX (λn s'=>∃i σ' H',qy (Z6 X N' scope H2.objs.size s H fp pins) [] σ' H' s'/\tn i s'.heap/\(∀b∈fp,H' b=none)/\W i n σ' H') ?_ m0 ⟨0,_,_,I1,st₁,fpn,w0⟩
   rintro n s3 ⟨i,σ3,H3,I3,st3,fr3,w3⟩
   rcases turn i n σ3 H3 w3 with ⟨stop,qn⟩ | ⟨go,NN,hNN,step⟩
   . refine jd (T.done (Z6 X N' scope H2.objs.size s H fp pins) rfl rfl rfl hc i [] s3 σ3 H3 _ I3 (stat fr3) st3 stop) λr s4 ⟨hr,I4⟩=>?_
     subst hr
     obtain⟨mm,hnm,_⟩:=I4.loc
     exact fin _ _ H3 s4 mm hCle I4.free hnm (yW I hf I4) qn
   . refine jd (T.item (Z6 X N' scope H2.objs.size s H fp pins) rfl rfl rfl hc i [] s3 σ3 H3 _ I3 (stat fr3) st3 go) λr s4 ⟨u,hr,h4⟩=>?_
     subst hr
     refine jd h4 λ_ s5 ⟨x,H5,I5,r5,y5,st5,fr5⟩=>?_
     have I5':=I5.pinned (stat fr5) (T.obj _ _ st5)
     refine jd (hg _ s5 σ3 H5 x u _ I5' r5 (step x H5 y5)) λ_ s6 ⟨σ6,H6,I6,q6⟩=>?_
     refine jd (htt _ s6 σ6 H6 _ I6 q6) λok s7 ⟨H7,I7,q7⟩=>?_
     have again:∀{σ8:St} {H8:Hp} {s8:Shared},qy (Z6 X N' scope H2.objs.size s H fp pins) ([]++z7 fp s5.heap) σ8 H8 s8->NN σ8 H8->
         ∃m,m < n/\∃i σ' H',qy (Z6 X N' scope H2.objs.size s H fp pins) [] σ' H' s8/\tn i s8.heap/\(∀b∈fp,H' b=none)/\W i m σ' H':=λ{σ8 H8 s8} I8 n8=>by
       obtain⟨m',hm,w8⟩:=hNN σ8 H8 n8
       refine⟨m',hm,i+1,σ8,H8,I8.unpinned,T.keep _ _ _ st5 λb hb o e=>(I8.pin (b,o) (List.mem_append_right _ (List.mem_append_right _ (Q5 hb e)))).1,λb hb=>?_,w8⟩
       obtain⟨o,e,d⟩:=T.obj _ _ st5 b hb
       exact(I8.pin (b,o) (List.mem_append_right _ (List.mem_append_right _ (Q5 hb e)))).2.1
     cases ok with
     | false=>
       rw[if_neg Bool.false_ne_true]at q7 ⊢
       exact again I7 q7
     | true=>
       rw[if_pos rfl]at q7 ⊢
       refine jd (hte _ s7 σ6 H7 _ I7 q7) λv s8 ⟨y,H8,I8,r8,q8⟩=>?_
       obtain⟨ys,hy,hz,q8⟩:=q8
       refine jd (JR (X:=Z6 X N' scope H2.objs.size s H fp pins) _ s8 σ6 H8 (.ref s.heap.objs.size) [y] (.ref s.heap.objs.size) [v] (λ_ H9=>NN σ6 H9) I8 rfl (.cons r8 .nil) ⟨_,ys,y,rfl,rfl,hy,hz,q8⟩) λ_ s9 ⟨_,H9,I9,_,q9⟩=>?_
       exact again I9 q9
 exact codeAny_compStart_list loop (T.self X.A 0 _ _ _ st₁ loop)
theorem Rt {elt iter target:Expr} {ifs:List Expr} {pos:Pos} {wi:TI} {g:TG} {tt:TT} {te:TE} (hc:X.calm=true) (S:jV X N' ix scope) (hi:PI X target iter wi)
   (hb:∀C s₂ H₂ fp pins,PG (Z6 X N' scope C s₂ H₂ fp pins) target g/\Gy (Z6 X N' scope C s₂ H₂ fp pins) ifs tt/\PE (Z6 X N' scope C s₂ H₂ fp pins) elt te)
   (hs:∀x,foldedSetIterable iter X.env x=pure x:=by intro _;rfl):PE X (.ListComp elt [⟨target,iter,ifs,0⟩] scope pos) (Nd wi ix g tt te):=by
 intro pins s σ H Q I h
 rw[eval_ListComp]
 refine wpAny_comprehension_free (use:=none) rfl hs (J4 (S.freeH I.ok)) S.kind S.locH ?_
 refine jd (hi pins s σ H _ I h) λxv s1 h1=>jd h1 λitv s2 h2=>?_
 obtain⟨it,fp,tn,J,H2,e,I2,T,st2,f2,q2⟩:=h2
 subst e
 refine Xc (RR:=λacc C=>compPost (model X.prog X.w) X.A X.xe none (EP X pins σ Q) acc C) (Q:=λD H'=>Q (.ref D) H') hc S I2 T st2 f2 hb q2 ?_
 intro D C H' s' m hC hn hm I' q
 exact⟨m,hm,λh' sb=>⟨.ref D,H',yV I2 I' hC hn sb,rfl,q⟩⟩
theorem jP {elt iter target:Expr} {ifs:List Expr} {pos:Pos} {wi:TI} {g:TG} {tt:TT} {te:TE} (hc:X.calm=true) (S:jV X N' ix scope) (hi:JI X target iter wi) (hb:∀C s₂ H₂ fp pins,JG (Z6 X N' scope C s₂ H₂ fp pins) target g/\xA (Z6 X N' scope C s₂ H₂ fp pins) ifs tt/\JE (Z6 X N' scope C s₂ H₂ fp pins) elt te) (hs:∀x,foldedSetIterable iter X.env x=pure x:=by intro _;rfl):JE X (.ListComp elt [⟨target,iter,ifs,0⟩] scope pos) (Nd wi ix g tt te):=.of (Rt hc S hi.to (λC s₂ H₂ fp pins=>⟨(hb C s₂ H₂ fp pins).1.to,(hb C s₂ H₂ fp pins).2.1.to,(hb C s₂ H₂ fp pins).2.2.to⟩) hs)
theorem k4 {i:Nat} {x:Str} {elt iter target:Expr} {ifs:List Expr} {pos spos px:Pos} {wi:TI} {g:TG} {tt:TT} {te:TE} (hN:X.N.Nodup) (hxi:X.N[i]?=some x) (hx:Gp X.env.scope x) (hc:X.calm=true) (S:jV X N' ix scope) (hi:PI X target iter wi)
   (hb:∀C s₂ H₂ fp pins,PG (Z6 X N' scope C s₂ H₂ fp pins) target g/\Gy (Z6 X N' scope C s₂ H₂ fp pins) ifs tt/\PE (Z6 X N' scope C s₂ H₂ fp pins) elt te)
   (hsw:swapsWith (.ListComp elt [⟨target,iter,ifs,0⟩] scope pos) (some (.Name x px)) spos.line X.env=pure true:=by rfl)
   (hs:∀x,foldedSetIterable iter X.env x=pure x:=by intro _;rfl) (hf:X.fn x=true\/X.env.scope.names.lookup x=some .local:=by first | exact .inl rfl | exact .inr rfl | assumption):
   PS X (.Assign [.Name x px] (.ListComp elt [⟨target,iter,ifs,0⟩] scope pos) spos) (xK (Nd wi ix g tt te) (Qx i)):=by
 intro pins s σ H D I h
 rw[exec_Assign_Name_used _ _ _ _ hsw]
 refine wpAny_bind (wpAny_standAt (wpAny_bind ?_))
 show wpAny _ X.A (do let _ <-comprehension (.ListComp elt [⟨target,iter,ifs,0⟩] scope pos) scope X.env _ (newList []) false (eval iter X.env) (some (assign (.Name x px) X.env))) _ _ s
 refine wpAny_bind (jd (wpAny_comprehension_free (use:=some (assign (.Name x px) X.env)) (Q:=λ_ s'=>SP X pins D .next s') rfl hs (J4 (S.freeH I.ok)) S.kind S.locH ?_) λ_ s' hq=>wpAny_pure (wpAny_pure hq))
 refine jd (hi pins s σ H _ I h) λxv s1 h1=>jd h1 λitv s2 h2=>?_
 obtain⟨it,fp,tn,J,H2,e,I2,T,st2,f2,q2⟩:=h2
 subst e
 refine Xc (RR:=λacc C=>compPost (model X.prog X.w) X.A X.xe (some (assign (.Name x px) X.env)) (λ_ s'=>SP X pins D .next s') acc C) (Q:=λD' H'=>Qx i (.ref D') σ H' D.nx) hc S I2 T st2 f2 hb q2 ?_
 intro D' C H' s' m hC hn hm I' q
 show wpAny _ X.A (assign (.Name x px) X.env (.ref D')) _ _ _
 refine wpAny_assign_Name (YO I' hN hxi hx (v:=.ref D') rfl (λs'' I'' hch=>?_) hf)
 obtain⟨a,sb,ha⟩:=hch
 have hCa:C≠a:=by
   rcases ha with z | z
   . rw[z];exact Nat.ne_of_gt (Nat.lt_of_lt_of_le I2.lt hC)
   . intro e
     obtain⟨v,qc⟩:=I2.cell x a z
     exact absurd (Nat.lt_of_lt_of_le qc.lt (by rw[<-e];exact hC)) (Nat.lt_irrefl _)
 refine⟨m,hm.sameBut sb hCa,λh' sb'=>?_⟩
 refine⟨_,H',?_,q⟩
 refine I''.turned (it:=C) (t':=s''.toks) (λb o hb e=>(sb'.2 b hb).trans e) hn (Nat.ne_of_gt (Nat.lt_of_lt_of_le I2.lt hC)) (.inr (Nat.le_trans I2.sz hC)) (λy c e z=>?_) λp hp z=>?_
 . obtain⟨v,qc⟩:=I2.cell y c e
   exact absurd (Nat.lt_of_lt_of_le qc.lt (by rw[z];exact hC)) (Nat.lt_irrefl _)
 . exact absurd (Nat.lt_of_lt_of_le (Heap.lt_size (I2.pin p hp).1) (by rw[z];exact hC)) (Nat.lt_irrefl _)
theorem Qo {i:Nat} {x:Str} {elt iter target:Expr} {ifs:List Expr} {pos spos px:Pos} {wi:TI} {g:TG} {tt:TT} {te:TE} (hN:X.N.Nodup) (hxi:X.N[i]?=some x) (hx:Gp X.env.scope x) (hc:X.calm=true) (S:jV X N' ix scope) (hi:JI X target iter wi) (hb:∀C s₂ H₂ fp pins,JG (Z6 X N' scope C s₂ H₂ fp pins) target g/\xA (Z6 X N' scope C s₂ H₂ fp pins) ifs tt/\JE (Z6 X N' scope C s₂ H₂ fp pins) elt te) (hsw:swapsWith (.ListComp elt [⟨target,iter,ifs,0⟩] scope pos) (some (.Name x px)) spos.line X.env=pure true:=by rfl) (hs:∀x,foldedSetIterable iter X.env x=pure x:=by intro _;rfl) (hf:X.fn x=true\/X.env.scope.names.lookup x=some .local:=by first | exact .inl rfl | exact .inr rfl | assumption):JS X (.Assign [.Name x px] (.ListComp elt [⟨target,iter,ifs,0⟩] scope pos) spos) (xK (Nd wi ix g tt te) (Qx i)):=.of (k4 hN hxi hx hc S hi.to (λC s₂ H₂ fp pins=>⟨(hb C s₂ H₂ fp pins).1.to,(hb C s₂ H₂ fp pins).2.1.to,(hb C s₂ H₂ fp pins).2.2.to⟩) hsw hs hf)
end
end L2
set_option Elab.async false
set_option linter.all false
set_option maxRecDepth 100000
set_option maxHeartbeats 4000000
namespace L2
open PySem PySem.Spec PyProof.Rows
def Me (x:Str):It:=⟨λi _=>i < x.cps.size,λi H v H'=>H'=H/\∃c,x.cps[i]?=some c/\v=.str ⟨#[c]⟩,λi _=>i=x.cps.size⟩
theorem Wh {P:Program} {w:World} {K:PySem.W.Frag} {tg:Expr} (it:Addr) (x:Str) (t:Tok) (ty:String)
   (hn:["enumerate","zip","dict_itemiterator","dict_reverseitemiterator","odict_iterator","itertools.zip_longest","itertools.pairwise"].contains ty=false)
   (hW:∀A:Around,A.handled=none->Walks P w A it [it] [it] x.cps.size (SignAt x) (λi h=>h.IsStrIter it ty x t i))
   (hself:∀(A:Around) (i:Nat) (s:Shared) (Q:Value->Shared->Prop) (E:Value->Shared->Prop),s.heap.IsStrIter it ty x t i->Q (.ref it) s->wpAny (model P w) A (pyIter (.ref it)) Q E s):
   YH P w K tg (Me x) [it] it (λi h=>h.IsStrIter it ty x t i) where
 mem:=by simp
 obj:=λi h st b hb=>by
   have e:b=it:=by simpa using hb
   subst e
   obtain⟨o,e,c,d⟩:=st
   exact⟨o,e,λv z=>by rw[d]at z;cases z⟩
 keep:=λi h h' st k=>let ⟨o,e,r⟩:=st;⟨o,k it (by simp) o e,r⟩
 item:=by
   intro X hP hw hK hc i pins s σ H E I hf st hg
   subst hP hw hK
   obtain⟨f0,f1,f2,f3,f4,f5⟩:=hf it (by simp)
   refine(hW X.A (I.ok.hd hc)).item i s _ _ hg st λv h' tk hv st' kk=>?_
   obtain⟨c,u,hcu,rfl⟩:=hv
   have I1:qy X pins σ H {s with heap:=h',toks:=tk}:=I.turned (λb o hb e=>kk b o (by simpa using hb) e) f0 f1 f3 f4 f5
   obtain⟨o,e,c1,d1⟩:=id st'
   exact⟨_,rfl,Y3 (s:={s with heap:=h',toks:=tk}) e c1 d1 hn ⟨.str ⟨#[c]⟩,H,I1,⟨u,rfl⟩,⟨rfl,c,hcu,rfl⟩,st',λb hb=>(hf b hb).1⟩⟩
 done:=by
   intro X hP hw hK hc i pins s σ H E I hf st hg
   subst hP hw hK
   obtain⟨f0,f1,f2,f3,f4,f5⟩:=hf it (by simp)
   have hi:i=x.cps.size:=hg
   subst hi
   exact(hW X.A (I.ok.hd hc)).done s _ _ st λh' tk kk=>⟨rfl,I.turned (λb o hb e=>kk b o (by simpa using hb) e) f0 f1 f3 f4 f5⟩
 self:=hself
def N4 (tl:TE):TI:=λσ H R=>tl σ H λx H1=>∃y,x=.str y/\R (Me y) H1
theorem KZ {X:Cx} {tg l:Expr} {tl:TE} (hl:JE X l tl):JI X tg l (N4 tl):=.of (by
 have hl:=hl.to
 intro pins s σ H R I h
 refine jd (hl pins s σ H _ I h) λv s1 ⟨x,H1,I1,r1,q1⟩=>?_
 obtain⟨y,e,q⟩:=q1
 subst e
 obtain⟨t,rfl⟩:=r1
 have fp:∀b∈[s1.heap.objs.size],Ze X pins H1 b:=λb hb=>by
   have e:b=s1.heap.objs.size:=by simpa using hb
   subst e
   exact I1.fpOk (Nat.le_refl _) (I1.hok.fresh (Nat.le_refl _))
 cases ha:y.cps.all (· < 128)
 . refine wpAny_pyIter_wide ha ?_
   exact⟨s1.heap.objs.size,[s1.heap.objs.size],_,_,H1,rfl,I1.kept (t':=s1.toks) λb o e=>Heap.get?_push_of_some _ e,
     Wh _ y t "str_iterator" (by decide) (λA hA=>Walks.strWide hA _ y t) (λA i s Q E st q=>wpAny_pyIter_striter_wide st q),⟨_,Heap.get?_push_size _ rfl,rfl,rfl⟩,fp,q⟩
 . refine wpAny_pyIter_ascii ha ?_
   exact⟨s1.heap.objs.size,[s1.heap.objs.size],_,_,H1,rfl,I1.kept (t':=s1.toks) λb o e=>Heap.get?_push_of_some _ e,
     Wh _ y t "str_ascii_iterator" (by decide) (λA hA=>Walks.strAscii hA _ y t) (λA i s Q E st q=>wpAny_pyIter_striter_ascii st q),⟨_,Heap.get?_push_size _ rfl,rfl,rfl⟩,fp,q⟩)
section
variable {K:PySem.W.Frag} {g:TG} {tt:TT} {te:TE} {D a:Addr} {σ:St} {H:Hp} {Q:Hp->Prop}
def Z8 (tt:TT) (te:TE) (D:Addr) (N:St->Hp->Prop):St->Hp->Prop:=λσ2 H3=>tt σ2 H3 λb H4=>
 if b=true then te σ2 H4 λv H5=>∃ys,H5 D=some (.lst ys)/\ys.length < sizeLine/\N σ2 (upd H5 D (.lst (ys++[v]))) else N σ2 H4
theorem ZU {J:It} {n:Nat} (Pv:Nat->St->Hp->Prop) (h0:Pv 0 σ (upd H D (.lst [])))
   (go:∀i σ' H',i < n->Pv i σ' H'->J.go i H'/\∀x H2,J.yld i H' x H2->g x σ' H2 (Z8 tt te D (Pv (i+1)))) (stop:∀σ' H',Pv n σ' H'->J.stop n H'/\Q H'):Zh J g tt te D σ H Q:=by
 refine⟨λi m σ' H'=>m=n - i/\i<=n/\Pv i σ' H',⟨n,by simp,Nat.zero_le _,h0⟩,?_⟩
 rintro i m σ' H' ⟨rfl,hi,p⟩
 by_cases hlt:i < n
 . obtain⟨h1,h2⟩:=go i σ' H' hlt p
   exact .inr ⟨h1,Pv (i+1),λσ2 H2 p2=>⟨n - (i+1),by omega,rfl,hlt,p2⟩,h2⟩
 . have e:i=n:=by omega
   subst e
   exact .inl (stop σ' H' p)
theorem QF {lo:Int} {n:Nat} (Pv:Nat->St->Hp->Prop) (h0:Pv 0 σ (upd H D (.lst [])))
   (hs:∀i σ' H',i < n->Pv i σ' H'->g (.int (lo+i)) σ' H' (Z8 tt te D (Pv (i+1)))) (hd:∀σ' H',Pv n σ' H'->Q H'):Zh (uD lo n) g tt te D σ H Q:=
 ZU (n:=n) Pv h0 (λi σ' H' hi p=>⟨hi,λx H2 y=>by
   obtain⟨e,y⟩:=y
   subst e y
   exact hs i σ' H2 hi p⟩) λσ' H' p=>⟨Nat.le_refl _,hd σ' H' p⟩
theorem jS {xs:List V} (Pv:Nat->St->Hp->Prop) (h0:Pv 0 σ (upd H D (.lst []))) (hl:∀i σ' H',i<=xs.length->Pv i σ' H'->SqL K H' a xs)
   (hs:∀i x σ' H',xs[i]?=some x->Pv i σ' H'->g x σ' H' (Z8 tt te D (Pv (i+1)))) (hd:∀σ' H',Pv xs.length σ' H'->Q H'):Zh (Gr K a) g tt te D σ H Q:=
 ZU (n:=xs.length) Pv h0 (λi σ' H' hi p=>⟨⟨xs,xs[i],hl i σ' H' (Nat.le_of_lt hi) p,by simp [hi]⟩,λx H2 y=>by
   obtain⟨e,y⟩:=y
   subst e
   exact hs i x σ' _ (y xs (hl i σ' _ (Nat.le_of_lt hi) p)) p⟩) λσ' H' p=>⟨⟨xs,hl _ σ' H' (Nat.le_refl _) p,Nat.le_refl _⟩,hd σ' H' p⟩
theorem UN {xs:List V} (Pv:Nat->St->Hp->Prop) (h0:Pv 0 σ (upd H D (.lst []))) (hl:∀i σ' H',i<=xs.length->Pv i σ' H'->zE K H' a xs)
   (hs:∀i x σ' H',xs[i]?=some x->Pv i σ' H'->g x σ' H' (Z8 tt te D (Pv (i+1)))) (hd:∀σ' H',Pv xs.length σ' H'->Q H'):Zh (Kc K a) g tt te D σ H Q:=
 ZU (n:=xs.length) Pv h0 (λi σ' H' hi p=>⟨⟨xs,xs[i],hl i σ' H' (Nat.le_of_lt hi) p,by simp [hi]⟩,λx H2 y=>by
   obtain⟨e,y⟩:=y
   subst e
   exact hs i x σ' _ (y xs (hl i σ' _ (Nat.le_of_lt hi) p)) p⟩) λσ' H' p=>⟨⟨xs,hl _ σ' H' (Nat.le_refl _) p,Nat.le_refl _⟩,hd σ' H' p⟩
theorem uv {x:Str} (Pv:Nat->St->Hp->Prop) (h0:Pv 0 σ (upd H D (.lst [])))
   (hs:∀i c σ' H',x.cps[i]?=some c->Pv i σ' H'->g (.str ⟨#[c]⟩) σ' H' (Z8 tt te D (Pv (i+1)))) (hd:∀σ' H',Pv x.cps.size σ' H'->Q H'):Zh (Me x) g tt te D σ H Q:=
 ZU (n:=x.cps.size) Pv h0 (λi σ' H' hi p=>⟨hi,λv H2 y=>by
   obtain⟨e,c,hc,rfl⟩:=y
   subst e
   exact hs i c σ' _ hc p⟩) λσ' H' p=>⟨rfl,hd σ' H' p⟩
end
section
variable {X:Cx}
theorem Yx:∀(bs:List Bool),(List.range bs.length).all (λi=>bs.getD i false)=bs.all id:=by
 intro bs
 induction bs with
 | nil=>rfl
 | cons b bs ih=>
   rw[List.length_cons,List.range_succ_eq_map,List.all_cons,List.all_map,List.all_cons]
   have:((λi=>(b::bs).getD i false) ∘ Nat.succ)=λi=>bs.getD i false:=by
     funext i
     simp [Function.comp]
   rw[this,ih]
   simp
theorem ZT (hc:X.calm=true):j5 X (.builtin "all") (λxs H Q=>∃(p:Addr) (bs:List Bool),xs=[.ref p]/\SqL X.K H p (bs.map V.bl)/\Q (.bl (bs.all id)) H):=by
 intro pins s σ H xs us Q I r h
 obtain⟨p,bs,rfl,hq,q⟩:=h
 obtain⟨u,rfl,rx⟩:=Qv r
 cases rx
 obtain⟨its,rv,pl,hz⟩:=I.list hq
 have hlt:p < s.heap.objs.size:=by
   obtain⟨o,n,e,_⟩:=pl
   exact Heap.lt_size e
 have hn:its.toArray.size=bs.length:=by
   have:=rv.length
   rw[List.length_map]at this
   simp only[List.size_toArray]
   omega
 have hh:X.A.in1.handled=none:=I.ok.hd hc
 refine call_all_walk (wpAny_pyIter_list pl.isList ?_)
 refine⟨s.heap.objs.size,[s.heap.objs.size,p],[s.heap.objs.size],its.toArray.size,λi v=>its.toArray[i]?=some v,_,λi=>bs.getD i false,rfl,Walks.list hh s.heap.objs.size p (Nat.ne_of_lt hlt) its.toArray,
   ⟨⟨_,Heap.get?_push_size _ rfl,rfl,rfl⟩,pl.isList.at λo e=>Heap.get?_push_of_some _ e⟩,?_,λh' tk hk=>?_⟩
 . intro i v s' Q' E' hP hQ
   have hi:its[i]?=some v:=by simpa using hP
   have hb:∃b,bs[i]?=some b/\v=Value.bool b:=by
     cases e:bs[i]? with
     | none=>
       exfalso
       have h1:(bs.map V.bl)[i]?=none:=by rw[List.getElem?_map,e];rfl
       rw[qF.none_of rv h1]at hi
       cases hi
     | some b=>
       have h1:(bs.map V.bl)[i]?=some (V.bl b):=by rw[List.getElem?_map,e];rfl
       obtain⟨u,hu,ru⟩:=rv.get h1
       rw[hi]at hu
       cases hu
       exact⟨b,rfl,ru⟩
   obtain⟨b,e,rfl⟩:=hb
   refine wpAny_truthy_bool ?_
   have e2:bs.getD i false=b:=by rw[List.getD_eq_getElem?_getD,e];rfl
   have hQ':Q' (bs.getD i false) s':=hQ
   rw[e2]at hQ'
   exact hQ'
 . rw[hn,Yx]
   refine⟨.bl (bs.all id),H,?_,rfl,q⟩
   exact I.kept (h':=h') (t':=tk) λb o e=>hk b o (by
     intro z
     have z':b=s.heap.objs.size:=by simpa using z
     exact absurd (Heap.lt_size e) (by rw[z'];exact Nat.lt_irrefl _)) (Heap.get?_push_of_some _ e)
theorem Ve {ys:List Str}:∀{us:List Value},qF (ys.map V.str) us->StrsAre us ys:=by
 induction ys with
 | nil=>
   intro us r
   rw[List.map_nil]at r
   cases r
   exact .nil
 | cons y ys ih=>
   intro us r
   rw[List.map_cons]at r
   cases r with
   | cons a b=>
     obtain⟨t,rfl⟩:=a
     exact .cons _ _ (ih b)
def Ro (K:PySem.W.Frag):V->List V->Hp->VK->Prop:=λx xs H Q=>∃(sep:Str) (p:Addr) (ys:List Str),x=.str sep/\xs=[.ref p]/\SqL K H p (ys.map V.str)/\(ys.map (·.length)).sum+ys.length*sep.length<=16777216/\Q (.str (Txt.join sep ys)) H
theorem wP:Gz X "str.join" (Ro X.K):=by
 intro pins s σ H x xs v us Q I rx rv h
 obtain⟨sep,p,ys,rfl,rfl,hq,hz,q⟩:=h
 obtain⟨t,rfl⟩:=rx
 obtain⟨u,rfl,ru⟩:=Qv rv
 cases ru
 obtain⟨its,r',pl,_⟩:=I.list hq
 exact join_list pl.isList (by simpa using Ve r') hz λt' k=>⟨.str _,H,I.tok k,⟨t',rfl⟩,q⟩
def RZ:V->Value
 | .ty n=>.type n
 | .ref a=>.ref a
 | _=>.none
def RP:V->Bool
 | .ty _=>true
 | .ref _=>true
 | _=>false
def Rq (K:PySem.W.Frag):List V->Hp->VK->Prop:=λxs H Q=>∃x c t b,xs=[x,c]/\RP c=true/\ZV K H x t/\PySem.W.kitOne K t (RZ c)=some b/\Q (.bl b) H
theorem jK:j5 X (.builtin "isinstance") (Rq X.K):=by
 intro pins s σ H xs us Q I r h
 obtain⟨x,c,t,b,rfl,hc,ty,e,q⟩:=h
 obtain⟨u,w',rfl,ru,rw'⟩:=km r
 have ew:w'=RZ c:=by
   cases c with
   | ty n=>exact rw'
   | ref a=>exact rw'
   | _=>cases hc
 subst ew
 exact vH I ru ty e λtk=>⟨.bl b,H,I.tok tk,rfl,q⟩
end
end L2
namespace L2
open PySem PySem.Spec PyProof.Rows
end L2
set_option Elab.async false
set_option linter.all false
set_option maxRecDepth 100000
set_option maxHeartbeats 4000000
namespace L2
open PySem PySem.Spec PyProof.Rows
section
variable {prog:Program} {w:World} {A:Around} {E:Value->Shared->Prop} {h:Heap} {g:Array GenState} {d:Drawn} {t:Nat} {os:OsState}
variable {nm q:Str} {C N fI:Addr} {bs bm bmB bmN:List Value} {hdct:Bool} {sn:List Str} {sub:List Value} {ab:Bool} {col:Option Bool} {dd:Option Addr} {k0 k1 k2 k3 k5:Option Value} {B Bn newId nid initId inN:String} {rest:List Value} {oI:Obj}
end
end L2
namespace L2
open PySem PySem.W PyProof.Rows Builtin Builtin.ObjectAttr
structure ECls (K:Frag) (C:Addr) (bm:List Value):Prop where
 ga:findIn K (.ref C) "__getattribute__"=some (some (.builtin "BaseException.__getattribute__"))
 gt:findIn K (.ref C) "__getattr__"=some none
 sa:findIn K (.ref C) "__setattr__"=some (some (.builtin "object.__setattr__"))
 hd:hasDictIn K C=true
 mr:∃cd,clsIn K C=some cd/\cd.mro=.ref C::bm
 mb:mroIn K C (.type "BaseException")=some true
 mo:mroIn K C (.type "object")=some true
 cl:findIn K (.ref C) "__class__"=some (some (.builtin "object.__class__"))
section
variable {prog:Program} {w:World} {A:Around} {E:Value->Shared->Prop} {s:Shared} {K:Frag} {x C:Addr} {ox:Obj} {od:Option Obj} {bm:List Value} {name:Str} {v:Value}
end
end L2
namespace L2
open PySem PySem.W PyProof.Rows Builtin Builtin.ObjectAttr
section
variable {K:Frag} {x C:Addr} {ox odd:Obj} {bm:List Value}
end
end L2
set_option Elab.async false
set_option linter.all false
set_option maxRecDepth 100000
set_option maxHeartbeats 4000000
namespace L2
open PySem PySem.Spec PyProof.Rows
def RJ:List Value:=[.type "ValueError",.type "Exception",.type "BaseException",.type "object"]
structure EMk (K:PySem.W.Frag) (C f:Addr) (bm:List Value):Prop where
 obj:∃nm q N bs hdct sn sub ab col dd k0 k1 k2 k3 k5,K.lookup C=some (excClassObj nm q C N bs bm hdct sn sub ab col dd k0 k1 k2 k3 k5 "ValueError.__new__")
 tail:∀h:Heap,K.In h->OwnTail h RJ bm
 init:PySem.W.findIn K (.ref C) "__init__"=some (some (.ref f))
 fn:PySem.W.isFn K (.ref f)=true
 kp:PySem.W.keepIn K (.ref C)=true
section
variable {P:Program} {w:World} {H:Hp} {h h':Heap} {e C dx:Addr}
end
section
variable {X:Cx} {pins:List (Addr×Obj)} {σ:St} {H:Hp} {s:Shared} {e C dx:Addr} {f:Str} {bm:List Value} {y v:V} {u:Value} {A:Around} {E:Value->Shared->Prop}
end
end L2
namespace L2
open PySem PySem.Spec PyProof.Rows
section
variable {X:Cx} {CX:W7} {k:Nat} {C fI:Addr} {fd:FuncData} {ps:List Str} {sp:Sp} {E:XK} {x f:Str} {o e value:Expr} {es:List Expr} {p pos pos':Pos} {ta tv:TE} {t:TA} {bm:List Value}
end
end L2
set_option Elab.async false
set_option linter.all false
set_option maxRecDepth 100000
set_option maxHeartbeats 4000000
namespace L2
open PySem PySem.Spec PyProof.Rows
def neL (xs ys:List V):Bool:=if xs.length=ys.length then !((List.range xs.length).all λj=>kj (xs.getD j .non) (ys.getD j .non)) else true
mutual
inductive DV (K:PySem.W.Frag) (H:Hp):V->PyData->Prop
 | non:DV K H .non .none
 | bl (b:Bool):DV K H (.bl b) (.bool b)
 | int (i:Int):DV K H (.int i) (.int i)
 | str (x:Str):DV K H (.str x) (.str x)
 | lst {a:Addr} {xs:List V} {ds:List PyData}:SqL K H a xs->DVs K H xs ds->DV K H (.ref a) (.list ds)
 | tup {a:Addr} {xs:List V} {ds:List PyData}:zE K H a xs->DVs K H xs ds->DV K H (.ref a) (.tuple ds)
inductive DVs (K:PySem.W.Frag) (H:Hp):List V->List PyData->Prop
 | nil:DVs K H [] []
 | cons {x:V} {xs:List V} {d:PyData} {ds:List PyData}:DV K H x d->DVs K H xs ds->DVs K H (x::xs) (d::ds)
end
section
variable {X:Cx} {pins:List (Addr×Obj)} {σ:St} {H:Hp} {s:Shared}
mutual
theorem DV.reads (I:qy X pins σ H s):∀{x:V} {d:PyData},DV X.K H x d->∀{u:Value},qI x u->∃as,Reads s.heap u d as
 | _,_,.non,u,r=>by cases (show u=Value.none from r);exact⟨_,.none⟩
 | _,_,.bl b,u,r=>by cases (show u=Value.bool b from r);exact⟨_,.bool b⟩
 | _,_,.int i,u,r=>by obtain⟨t,q⟩:=(show ∃t,u=Value.int i t from r);subst q;exact⟨_,.int i t⟩
 | _,_,.str x,u,r=>by obtain⟨t,q⟩:=(show ∃t,u=Value.str x t from r);subst q;exact⟨_,.str x t⟩
 | _,_,.lst (a:=a) hq hs,u,r=>by
   cases (show u=Value.ref a from r)
   obtain⟨its,rv,⟨o,n,e,hc,hd,hda⟩,hz⟩:=I.list hq
   obtain⟨as,ra⟩:=DVs.reads I hs rv
   exact⟨_,.list e hc hda (by simpa using ra)⟩
 | _,_,.tup (a:=a) hq hs,u,r=>by
   cases (show u=Value.ref a from r)
   obtain⟨its,rv,⟨o,e,hc,n,hda⟩,hz⟩:=I.tuple hq
   obtain⟨as,ra⟩:=DVs.reads I hs rv
   exact⟨_,.tuple e hc hda (by simpa using ra)⟩
theorem DVs.reads (I:qy X pins σ H s):∀{xs:List V} {ds:List PyData},DVs X.K H xs ds->∀{us:List Value},qF xs us->∃as,ReadsAll s.heap us ds as
 | _,_,.nil,_,.nil=>⟨_,.nil⟩
 | _,_,.cons h hs,_,.cons r rs=>by
   obtain⟨as,a⟩:=DV.reads I h r
   obtain⟨bs,b⟩:=DVs.reads I hs rs
   exact⟨_,.cons a b⟩
end
end
end L2
namespace L2
open PySem PySem.Spec PyProof.Rows
end L2
set_option Elab.async false
set_option linter.all false
set_option maxRecDepth 100000
set_option maxHeartbeats 4000000
namespace L2
open PySem PySem.Spec PyProof.Rows
section
variable {X:Cx}
def NI (K:PySem.W.Frag) (k:Bool):R2:=λx y H Q=>∃d,DV K H x d/\DV K H y d/\PySem.SeqAt.shaped d=true/\Q (.bl k) H
theorem Ys {d:PyData} (h:PySem.SeqAt.shaped d=true):PyData.eqv d d=true:=PySem.SeqAt.eqv_refl d (PySem.SeqAt.canLay_of_shaped h)
theorem yd (hu:X.A.units+64 < cLine):Zc X (compareOp .NotEq) (NI X.K false):=by
 intro pins s σ H x y v u Q I rx ry h
 obtain⟨d,h1,h2,hs,q⟩:=h
 obtain⟨as,ra⟩:=h1.reads I rx
 obtain⟨bs,rb⟩:=h2.reads I ry
 refine ne_dataH ra rb hs hs hu ?_
 rw[Ys hs]
 exact⟨.bl false,H,I,rfl,q⟩
def Nb (i j:Int):Prop:=0 < j/\j.natAbs < 2^200
theorem yf:Zc X (binaryOp .FloorDiv) (rI Nb λi j=>.int (i / j)):=Kx λi j _ _ _ _ _ hc q=>by
 have h1:(0:Int) < j:=hc.1
 have h3:j.natAbs.log2 < 200:=(Nat.log2_lt (by omega)).mpr hc.2
 exact floordiv_int (by omega) (by rw[Int.fdiv_eq_ediv_of_nonneg i (by omega)];exact q) (.inl (PyProof.noPylong_of_log2 (Nat.lt_trans h3 (by decide))))
theorem vx:Gz X "int.bit_length" (λx xs H Q=>∃i,x=.int i/\xs=[]/\Q (.int (Builtin.Int.intBits i)) H):=by
 intro pins s σ H x xs v us Q I rx rv h
 obtain⟨i,rfl,rfl,q⟩:=h
 obtain⟨t,rfl⟩:=rx
 cases rv
 exact call_int_bit_length ⟨.int _,H,I.tok _,⟨_,rfl⟩,q⟩
end
section
variable {X:Cx} {tg:Expr}
end
section
variable {X:Cx} {st:Stmt} {rest:List Stmt} {t u:TS}
def Nq (t u:TS):TS:=λD σ H=>∃W:St->Hp->Prop,t {D with nx:=W} σ H/\∀σ' H',W σ' H'->u D σ' H'
theorem wX (h1:JS X st t) (h2:X9 X rest u):X9 X (st::rest) (Nq t u):=.of (by
 have h1:=h1.to
 have h2:=h2.to
 intro pins s σ H D I ⟨W,h,k⟩
 refine wpAny_execs_cons (jd (h1 pins s σ H {D with nx:=W} I h) λf s1 q=>?_)
 cases f with
 | next=>
   obtain⟨σ',H',I',q⟩:=q
   exact h2 pins s1 σ' H' D I' (k σ' H' q)
 | ret v=>exact q
 | brk=>exact q
 | cont=>exact q)
end
end L2
set_option Elab.async false
set_option linter.all false
set_option maxRecDepth 100000
set_option maxHeartbeats 4000000
namespace PySem
section
variable {prog:Program} {w:World} {A:Around} {E:Value->Shared->Prop} {s:Shared}
def z5 (x n c:Int):Obj:={cls:=.type "range_iterator",data:=.fields #[rawInt x,rawInt n,rawInt c]}
theorem Ul (n:Nat):Builtin.Range.rangeSize 0 n 1=n:=by
 unfold Builtin.Range.rangeSize
 rw[if_pos (by decide)]
 split<;>omega
theorem Yv {r:Addr} {a b c:Int} {t u v:Tok} {Q:Value->Shared->Prop} (hr:IsRange s.heap r a b c t u v)
   (hs:(Builtin.Range.rangeFitsLong a&&Builtin.Range.rangeFitsLong b&&Builtin.Range.rangeFitsLong c&&Builtin.Range.rangeFitsLong (-c)&&Builtin.Range.rangeFitsLong (a - c)&&Builtin.Range.rangeFitsLong (Builtin.Range.rangeSize a b c))=true)
   (h:Q (.ref s.heap.objs.size) {s with heap:=s.heap.push (z5 (a+(Builtin.Range.rangeSize a b c - 1)*c) (Builtin.Range.rangeSize a b c) (-c))}):wpAny (model prog w) A (call (.builtin "range.__reversed__") [.ref r]) Q E s:=by
 have ty:s.TypeIs (.ref r) "range":=⟨_,hr,rfl⟩
 refine wpAny_call_entry F.slot_range_reversed ty F.entry_range_reversed ?_ (F.args_range_reversed_1 _)
 unfold Builtin.«range.__reversed__»
 refine wpAny_bind (wpAny_of_eq (a:=Value.ref r) rfl ?_)
 refine wpAny_bind ?_
 unfold Builtin.Range.rangeFields
 refine wpAny_bind (wpAny_field hr rfl (x:=.int a t) rfl ?_)
 refine wpAny_bind (m:=asInt? (.int a t)) (wpAny_pure ?_)
 refine wpAny_bind (wpAny_field hr rfl (x:=.int b u) rfl ?_)
 refine wpAny_bind (m:=asInt? (.int b u)) (wpAny_pure ?_)
 refine wpAny_bind (wpAny_field hr rfl (x:=.int c v) rfl ?_)
 refine wpAny_bind (m:=asInt? (.int c v)) (wpAny_pure ?_)
 refine wpAny_pure ?_
 dsimp only
 rw[hs]
 simp only[Bool.not_true,Bool.false_eq_true,if_false,if_true]
 first
 | refine wpAny_bind (wpAny_newObj_type (wpAny_pure ⟨_,rfl,h⟩))
 | refine wpAny_bind (wpAny_pure (wpAny_bind (wpAny_newObj_type (wpAny_pure ⟨_,rfl,h⟩))))
theorem J2 {r:Addr} {n:Nat} {t u v:Tok} {Q:Value->Shared->Prop} (hr:IsRange s.heap r 0 n 1 t u v) (hn:n < 1048576)
   (h:Q (.ref s.heap.objs.size) {s with heap:=s.heap.push (z5 ((n:Int) - 1) n (-1))}):wpAny (model prog w) A (call (.builtin "range.__reversed__") [.ref r]) Q E s:=by
 have f:∀x:Int,-2000000<=x->x<=2000000->Builtin.Range.rangeFitsLong x=true:=λx p q=>by
   unfold Builtin.Range.rangeFitsLong
   simp
   omega
 have e:=Ul n
 have hs:(Builtin.Range.rangeFitsLong 0&&Builtin.Range.rangeFitsLong (n:Int)&&Builtin.Range.rangeFitsLong 1&&Builtin.Range.rangeFitsLong (-1)&&Builtin.Range.rangeFitsLong (0 - 1)&&Builtin.Range.rangeFitsLong (Builtin.Range.rangeSize 0 n 1))=true:=by
   rw[e,f 0 (by omega) (by omega),f n (by omega) (by omega),f 1 (by omega) (by omega),f (-1) (by omega) (by omega),f (0 - 1) (by omega) (by omega)]
   rfl
 refine Yv hr hs ?_
 have e2:(0:Int)+(Builtin.Range.rangeSize 0 n 1 - 1)*1=(n:Int) - 1:=by rw[e];omega
 rw[e2,e]
 exact h
end
end PySem
namespace PySem
section
variable {prog:Program} {w:World} {A:Around} {E:Value->Shared->Prop} {s:Shared}
theorem J9 {r:Addr} {n:Nat} {t u v:Tok} {Q₁:Value->Shared->Prop} (hr:IsRange s.heap r 0 n 1 t u v) (hn:n < 1048576)
   (h:Q₁ (.ref s.heap.objs.size) {s with heap:=s.heap.push (z5 ((n:Int) - 1) n (-1))}):
   codeAny (model prog w) A (.call (.builtin "reversed.__new__") ⟨[.type "reversed",.ref r],[]⟩) (wants Q₁ E) s:=by
 have ty:s.TypeIs (.ref r) "range":=⟨_,hr,rfl⟩
 have nn:¬((Value.builtin "range.__reversed__"==Value.none)=true):=Bool.false_ne_true
 refine codeAny_of_tree (show wpAny _ A.in1 (checkBuiltinCall "reversed.__new__" ⟨[.type "reversed",.ref r],[]⟩ >>= λ_=>again (.builtin "reversed.__new__" ⟨[.type "reversed",.ref r],[]⟩)) _ _ s from
   wpAny_bind (wpAny_of_eq (F.newCall_reversed_1 (.ref r)) (wpAny_pure ⟨plainId_quiet F.plain_reversed_new _,codeAny_builtin F.entry_reversed_new ?_⟩)))
 rw[Around.under_plainId F.plain_reversed_new _];unfold Builtin.«reversed.__new__»
 refine wpAny_bind (wpAny_of_eq (newClass_reversed (.ref r)) ?_);dsimp only
 refine wpAny_bind (wpAny_of_eq (a:=()) (by kernel_rfl) (wpAny_bind (wpAny_of_eq (a:=()) (by kernel_rfl) ?_)));try dsimp only
 refine wpAny_bind (wpAny_specialOf ty F.slot_range_reversed.lookup ?_);dsimp only
 refine wpAny_bind (wpAny_of_eq (F.slot_range_reversed.bind _) ?_);dsimp only
 rw[if_neg nn]
 refine wpAny_bind (wpAny_rule (wpAny_bind (m:=runValue (.call (.builtin "range.__reversed__") ⟨[.ref r],[]⟩)) (show wpAny _ _ (call (.builtin "range.__reversed__") [.ref r]) _ _ _ from J2 hr hn ?_)))
 first | exact wpAny_pure h | exact wpAny_bind (wpAny_pure (wpAny_pure h))
theorem za:isSubtype (.type "range_iterator") (.type "reversed")=pure false:=by rw[isSubtype_type];kernel_rfl
theorem J1 {r:Addr} {n:Nat} {t u v:Tok} {Q:Value->Shared->Prop} (hr:IsRange s.heap r 0 n 1 t u v) (hn:n < 1048576)
   (h:Q (.ref s.heap.objs.size) {s with heap:=s.heap.push (z5 ((n:Int) - 1) n (-1))}):wpAny (model prog w) A (call (.type "reversed") [.ref r]) Q E s:=by
 refine callType_other (U:="range_iterator") (Q₁:=λobj s₁=>obj=.ref s.heap.objs.size/\s₁={s with heap:=s.heap.push (z5 ((n:Int) - 1) n (-1))}) (by decide+kernel) F.create_reversed ⟨_,_,F.mro_reversed⟩ F.made_reversed za (F.typeCall_reversed_1 _) (J9 hr hn ⟨rfl,rfl⟩) ?_
 rintro obj s₁ ⟨rfl,rfl⟩
 exact⟨⟨_,Heap.get?_push_size _ rfl,rfl⟩,h⟩
theorem XY {I:Addr} {x left c:Int} {Q:Value->Shared->Prop} (hit:IsRangeIter s.heap I x left c) (h:Q (.int left s.toks) {s with toks:=s.toks+1}):
   wpAny (model prog w) A (call (.builtin "range_iterator.__length_hint__") [.ref I]) Q E s:=by
 have hT:s.TypeIs (.ref I) "range_iterator":=⟨_,hit,rfl⟩
 refine wpAny_call_entry F.slot_range_iterator_length_hint hT F.entry_range_iterator_length_hint ?_ (F.args_range_iterator_length_hint_1 _)
 unfold Builtin.«range_iterator.__length_hint__»
 refine wpAny_bind (wpAny_of_eq (a:=Value.ref I) rfl ?_)
 refine wpAny_bind (wpAny_field hit rfl (x:=rawInt left) rfl ?_)
 show wpAny _ _ (do ret (<-mkInt left)) _ _ _
 exact wpAny_ret_mkInt h
structure VN (P:Program) (w:World) (T:String) (I:Addr) (fp:List Addr) (n:Nat) (V:Nat->Value->Prop) (St:Nat->Heap->Prop):Prop where
 ty:∀z:Shared,St 0 z.heap->z.TypeIs (.ref I) T
 nl:(Value.type T==Value.type "list")=false
 nt:(Value.type T==Value.type "tuple")=false
 walk:∀B:Around,B.handled=none->Walks P w B I fp [I] n V St
 hint:∀(B:Around) (F:Value->Shared->Prop) (z:Shared) (R:Bool->Shared->Prop),St 0 z.heap->(∀k,R false {z with toks:=k})->wpAny (model P w) B (Builtin.List.listLengthHint (.ref I)) R F z
theorem VN.list {P:Program} {T:String} {I:Addr} {fp:List Addr} {n:Nat} {V:Nat->Value->Prop} {St:Nat->Heap->Prop} (J:VN P w T I fp n V St) {B:Around} {F':Value->Shared->Prop} {z:Shared} {R:Value->Shared->Prop}
   (hB:B.handled=none) (st:St 0 z.heap) (mem:I∈fp) (old:∀b∈fp,b < z.heap.objs.size) (hn:n<=1048576)
   (k:∀g tk xs c,(∀b o,b≠I->z.heap.get? b=some o->g.get? b=some o)->g.get? z.heap.objs.size=some (⟨.type "list",none,.seq xs c,#[]⟩:Obj)->ItemsOf V xs n->R (.ref z.heap.objs.size) {z with heap:=g,toks:=tk}):
   wpAny (model P w) B (call (.type "list") [.ref I]) R F' z:=by
 have nI:∀b∈fp,z.heap.objs.size≠b:=λb hb=>Nat.ne_of_gt (old b hb)
 have sI:Builtin.List.listSameRef (.ref z.heap.objs.size) (.ref I)=false:=by unfold Builtin.List.listSameRef;simp [nI I mem]
 refine callType_codes (Q₁:=λob z1=>z1={z with heap:=z.heap.push {cls:=.type "list",data:=.seq #[]}}/\ob=.ref z.heap.objs.size) F.called_list (F.typeCall_list_1 _) F.entry_list_init (code_list_new _ ⟨rfl,rfl⟩) ?_
 rintro ob z1 ⟨rfl,rfl⟩
 have a0:=Heap.get?_push_size z.heap (o:=({cls:=.type "list",data:=.seq #[]}:Obj)) rfl
 refine⟨⟨_,a0,rfl⟩,F.args_list_init_2 _ _,?_⟩
 show wpAny _ _ (Builtin.List.listItems (.ref _) >>= λys=>Builtin.List.listUpdate (.ref _) (λ_=>#[]) >>= λ_=>letGo ys.toList.reverse >>= λ_=>Builtin.List.listExtendWith (.ref _) (.ref I) .none) _ _ _
 refine wpAny_bind (show wpAny _ _ (Builtin.List.listItems (.ref _)) _ _ _ from ?_)
 unfold Builtin.List.listItems
 refine wpAny_bind (wpAny_seqItems a0 rfl (wpAny_pure (wpAny_bind ?_)))
 refine wpAny_updateSeq a0 rfl (wpAny_bind (wpAny_letGo ?_))
 have a1:=Heap.get?_update_self (Obj.mapSeq (λ_=>(#[]:Array Value))) a0 rfl
 have keep1:∀b o,z.heap.get? b=some o->((z.heap.push {cls:=.type "list",data:=.seq #[]}).update z.heap.objs.size (Obj.mapSeq (λ_=>(#[]:Array Value)))).get? b=some o:=λb o e=>
   (Heap.get?_update_other _ _ (Nat.ne_of_gt (Heap.lt_size e))).trans (Heap.get?_push_of_some _ e)
 generalize hg1:(z.heap.push {cls:=.type "list",data:=.seq #[]}).update z.heap.objs.size (Obj.mapSeq (λ_=>(#[]:Array Value)))=g1 at a1 keep1
 have st1:St 0 g1:=(J.walk B hB).frame 0 _ _ st λb _ o e=>keep1 b o e
 unfold Builtin.List.listExtendWith
 refine wpAny_bind (wpAny_typeOf (J.ty {z with heap:=g1} st1) ?_)
 simp only[sI,J.nl,J.nt,Bool.or_false,Bool.false_eq_true,if_false]
 refine wpAny_bind ((J.walk B.in1.in1 hB).self 0 {z with heap:=g1} _ _ st1 ?_)
 refine wpAny_bind (wpAny_holding (J.hint B.in1.in1 _ {z with heap:=g1} _ st1 λtk=>?_))
 have run:∀(g:Heap) (c tk:Nat),St 0 g->(∀b o,z.heap.get? b=some o->g.get? b=some o)->g.get? z.heap.objs.size=some {cls:=.type "list",data:=.seq #[] c}->
     codeAny (model P w) B.in1 (.builtin "list.extend.loop" ⟨[.ref z.heap.objs.size,.ref I,.none],[]⟩) (wants (λr z2=>r=.none/\R (.ref z.heap.objs.size) z2) F') {z with heap:=g,toks:=tk}:=λg c tk sg kg ag=>
   codeAny_extend_loopS (J.walk B.in1.in1 hB).toS (by rw[sizeLine_eq];omega) _ (λq=>nI _ q rfl) .none n 0 _ #[] c rfl (Nat.zero_le _) sg ag (ItemsOf.nil _) λz3 xs c3 mv a3 it=>by
     rw[Moved.eq_with mv]
     refine⟨rfl,k z3.heap z3.toks xs c3 (λb o hb e=>mv.heap b o (λq=>?_) (kg b o e)) a3 it⟩
     rcases List.mem_cons.mp q with q | q
     . exact absurd q (Nat.ne_of_lt (Heap.lt_size e))
     . exact hb (List.mem_singleton.mp q)
 refine wpAny_ite_split (λ_=>?_) (λ_=>wpAny_pure ⟨plainId_quiet F.plain_extend_loop _,run g1 _ tk st1 keep1 a1⟩)
 refine wpAny_bind (wpAny_rule (wpAny_bind (show wpAny _ _ (updateSeq z.heap.objs.size (·.push .none) >>= λ_=>updateSeq z.heap.objs.size (·.pop)) _ _ _ from wpAny_bind (wpAny_updateSeq a1 rfl ?_))))
 have a2:=Heap.get?_update_self (Obj.mapSeq (·.push Value.none)) a1 rfl
 refine wpAny_updateSeq (hz:=by seq_fits) a2 rfl ?_
 have keep3:∀b o,b≠z.heap.objs.size->g1.get? b=some o->((g1.update z.heap.objs.size (Obj.mapSeq (·.push Value.none))).update z.heap.objs.size (Obj.mapSeq (·.pop))).get? b=some o:=λb o hb e=>
   (Heap.get?_update_other _ _ (Ne.symm hb)).trans ((Heap.get?_update_other _ _ (Ne.symm hb)).trans e)
 exact wpAny_pure ⟨plainId_quiet F.plain_extend_loop _,run _ _ tk ((J.walk B hB).frame 0 _ _ st1 λb hb o e=>keep3 b o (λq=>nI b hb q.symm) e) (λb o e=>keep3 b o (Nat.ne_of_lt (Heap.lt_size e)) (keep1 b o e)) (Heap.get?_update_self (Obj.mapSeq (·.pop)) a2 rfl)⟩
theorem U7 {P:Program} {I:Addr} {x c:Int} {n:Nat} (hn:n<=1048576):VN P w "range_iterator" I [I] n (λi v=>∃t,v=.int (x+i*c) t) (λi h=>IsRangeIter h I (x+(i:Nat)*c) ((n:Int) - (i:Nat)) c) where
 ty:=λ_ st=>⟨_,st,rfl⟩
 nl:=by decide
 nt:=by decide
 walk:=λ_ hB=>Walks.range hB I x c n
 hint:=λB G z R st k=>by
   have st':IsRangeIter z.heap I x n c:=by
     have e1:x+((0:Nat):Int)*c=x:=by simp
     have e2:(n:Int) - ((0:Nat):Int)=n:=by simp
     rw[<-e1,<-e2]
     exact st
   have ty:z.TypeIs (.ref I) "range_iterator":=⟨_,st',rfl⟩
   have few:Builtin.List.listTooLong ((n:Int).toNat)=false:=by unfold Builtin.List.listTooLong;rw[Int.toNat_natCast];exact decide_eq_false (by rw[sizeLine_eq];omega)
   unfold Builtin.List.listLengthHint
   refine wpAny_bind (wpAny_specialOf ty F.nolen_ra ?_)
   refine(show wpAny _ B (specialOf (.ref I) (Str.ofString "__length_hint__") >>= _) _ _ _ from wpAny_bind (wpAny_specialOf ty F.hint_ra ?_))
   (generalize hq:("range_iterator.__length_hint__":String)=q0;(fail_if_success (clear hq q0));wp_delta;rw[show splitId q0=some ("range_iterator","__length_hint__") from by subst hq;decide+kernel];subst hq)
   refine wpAny_bind (wpAny_isInstance (b:=true) ty (by rw[isSubtype_type];kernel_rfl) ?_)
   refine(show wpAny _ B (call (.builtin "range_iterator.__length_hint__") [.ref I] >>= _) _ _ _ from wpAny_bind (XY st' (wpAny_bind (m:=asInt? (.int (n:Int) _)) (wpAny_pure ?_))))
   dsimp only
   rw[if_neg (by rw[few];decide)]
   exact wpAny_pure (k _)
end
end PySem
namespace L2
open PySem PySem.Spec PyProof.Rows
def ZC (n:Nat):List Nat:=(List.range n).reverse
theorem UX {n:Nat} {acc:Array Value} (h:ItemsOf (λi v=>∃t,v=.int ((n:Int) - 1+i*(-1)) t) acc n):qF ((ZC n).map λi=>V.int (i:Nat)) acc.toList:=by
 obtain⟨hz,hv⟩:=h
 have key:∀(xs:List V) (us:List Value),xs.length=us.length->(∀(i:Nat) (x:V) (u:Value),xs[i]?=some x->us[i]?=some u->qI x u)->qF xs us:=by
   intro xs
   induction xs with
   | nil=>intro us hl _;cases us with | nil=>exact .nil | cons _ _=>cases hl
   | cons x xs ih=>
     intro us hl hp
     cases us with
     | nil=>cases hl
     | cons u us=>exact .cons (hp 0 x u rfl rfl) (ih us (by simpa using hl) λi y w h1 h2=>hp (i+1) y w (by simpa using h1) (by simpa using h2))
 refine key _ _ (by simp [ZC,hz]) λi x u h1 h2=>?_
 have h2':acc[i]?=some u:=by simpa using h2
 obtain⟨t,rfl⟩:=hv i u h2'
 have hi:i < n:=by
   have:=(Array.getElem?_eq_some_iff.mp h2').1
   omega
 rw[List.getElem?_map,ZC,List.getElem?_reverse (by simpa using hi),List.length_range,List.getElem?_range (by omega)]at h1
 simp at h1
 subst h1
 refine⟨t,?_⟩
 congr 1
 omega
section
variable {X:Cx} {e:Expr} {te:TE} {p1 p2 p3 pos1 pos2 pos3:Pos}
theorem kz {M:Model} {A:Around} {E:Value->Shared->Prop} {s:Shared} {env:Env} {e:Expr} {pos:Pos} {R:List Value->Shared->Prop} (hs:starEach [e] env=[(false,eval e env)]) (h:wpAny M A (eval e env) (λv s1=>R [v] s1) E s):
   wpAny M A (spliced (backTo pos (starEach [e] env))) R E s:=by
 rw[hs]
 show wpAny _ _ (spliced ((false,eval e env)::backTo pos [])) _ _ s
 exact Calls.spliced_cons (jd h λu s1 h1=>Calls.spliced_nil h1)
def Nt (te:TE):TE:=λσ H Q=>te σ H λx H1=>∃n:Nat,x=.int n/\n<=1000/\∀l,H1 l=none->Q (.ref l) (upd H1 l (.lst ((ZC n).map λi=>V.int (i:Nat))))
theorem K1 (hc:X.calm=true) (g1:Gl X "list") (m1:X.mg "list"=none) (g2:Gl X "reversed") (m2:X.mg "reversed"=none) (g3:Gl X "range") (m3:X.mg "range"=none) (ha:JE X e te) (hs:starEach [e] X.env=[(false,eval e X.env)]:=by rfl) (hs2:starEach [.Call (.Name "range" p3) [e] [] pos3] X.env=[(false,eval (.Call (.Name "range" p3) [e] [] pos3) X.env)]:=by rfl) (hs3:starEach [.Call (.Name "reversed" p2) [.Call (.Name "range" p3) [e] [] pos3] [] pos2] X.env=[(false,eval (.Call (.Name "reversed" p2) [.Call (.Name "range" p3) [e] [] pos3] [] pos2) X.env)]:=by rfl):JE X (.Call (.Name "list" p1) [.Call (.Name "reversed" p2) [.Call (.Name "range" p3) [e] [] pos3] [] pos2] [] pos1) (Nt te):=.of (by
 have ha:=ha.to
 intro pins s σ H Q I h
 refine Call_ (QR I g1 m1 boot_list (PyProof.Rows.callWith_type1 (kz hs3 ?_) (by rw[hs3];rfl) rfl))
 refine Call_ (QR I g2 m2 boot_reversed (PyProof.Rows.callWith_type1 (kz hs2 ?_) (by rw[hs2];rfl) rfl))
 refine Call_ (QR I g3 m3 boot_range (PyProof.Rows.callWith_type1 (kz hs (jd (ha pins s σ H _ I h) λu s1 ⟨x,H1,I1,r1,q1⟩=>?_)) (by rw[hs];rfl) rfl))
 obtain⟨n,rfl,hn,q⟩:=q1
 obtain⟨t,rfl⟩:=r1
 refine call_range_1 ?_
 refine J1 (IsRange.new ..) (by omega) ?_
 refine(U7 (x:=(n:Int) - 1) (c:=-1) (n:=n) (by omega)).list (I1.ok.hd hc) (by
   have e1:(n:Int) - 1+((0:Nat):Int)*(-1)=(n:Int) - 1:=by simp
   have e2:(n:Int) - ((0:Nat):Int)=n:=by simp
   rw[e1,e2]
   exact Heap.get?_push_size _ rfl) (by simp) (λb hb=>by rw[List.mem_singleton.mp hb,Heap.size_push (_:Heap) (z5 _ _ _)];exact Nat.lt_succ_self _) (by omega) λh' tk acc' c' kp e hi=>?_
 have kk:∀b o,s1.heap.get? b=some o->h'.get? b=some o:=λb o eb=>by
   refine kp b o (Nat.ne_of_lt ?_) (Heap.get?_push_of_some _ (Heap.get?_push_of_some _ eb))
   rw[Heap.size_push]
   exact Nat.lt_succ_of_lt (Heap.lt_size eb)
 have s1z:s1.heap.objs.size<=((s1.heap.push ({cls:=.type "range",data:=.fields #[.int 0 s1.toks,.int n t,.int 1 (s1.toks+1)]}:Obj)).push (z5 ((n:Int) - 1) n (-1))).objs.size:=by
   rw[Heap.size_push,Heap.size_push]
   omega
 exact⟨.ref _,_,I1.laid (t':=tk) (o:=.lst ((ZC n).map λi=>V.int (i:Nat))) kk s1z ⟨by simp only[List.length_map,ZC,List.length_reverse,List.length_range];exact Nat.le_of_lt (qk hn),acc'.toList,c',UX hi,by simpa using e⟩,rfl,q _ (I1.hok.fresh s1z)⟩)
end
end L2
set_option Elab.async false
set_option linter.all false
set_option maxRecDepth 100000
set_option maxHeartbeats 4000000
namespace PySem
namespace F
end F
end PySem
namespace L2
open PySem PySem.Spec PyProof.Rows
theorem YV:∀(xs:List V) (us:List Value),xs.length=us.length->(∀(i:Nat) (x:V) (u:Value),xs[i]?=some x->us[i]?=some u->qI x u)->qF xs us:=by
 intro xs
 induction xs with
 | nil=>intro us hl _;cases us with | nil=>exact .nil | cons _ _=>cases hl
 | cons x xs ih=>
   intro us hl hp
   cases us with
   | nil=>cases hl
   | cons u us=>exact .cons (hp 0 x u rfl rfl) (ih us (by simpa using hl) λi y w h1 h2=>hp (i+1) y w (by simpa using h1) (by simpa using h2))
section
variable {X:Cx} {e:Expr} {te:TE} {p1 p2 pos1 pos2:Pos}
end
end L2
set_option Elab.async false
set_option linter.all false
set_option maxRecDepth 100000
set_option maxHeartbeats 4000000
namespace L2
open PySem PySem.Spec PyProof.Rows
section
variable {X:Cx} {pins:List (Addr×Obj)} {σ:St} {H:Hp} {s:Shared} {h':Heap}
theorem qy.turnLaid {L:List Addr} {T:Addr} {o:HO} {t':Nat} (I:qy X pins σ H s) (k:∀b u,b∉L->s.heap.get? b=some u->h'.get? b=some u) (hf:∀b∈L,Ze X pins H b) (hp:s.heap.objs.size<=T)
   (new:qX X.prog X.w (upd H T o) h' T o):qy X pins σ (upd H T o) {s with heap:=h',toks:=t'}:=by
 have hn:H T=none:=I.hok.fresh hp
 have up:∀b u,H b=some u->upd H T o b=some u:=λb u e=>by rw[qi (qw e hn)];exact e
 have nL:∀b u,H b=some u->b∉L:=λb u e z=>by rw[(hf b z).1]at e;cases e
 refine I.step (g':=s.gens) (d':=s.drawn) (ch:=L) (λb hb=>?_) (λb o _ _ hc e _=>k b o hc e) (λb o _ _ hc e _=>⟨o.slots,k b o hc e⟩) (λb ob hc e n=>?_)
   (λb o hc e=>⟨o,k b o hc e⟩) (λb xs e=>up b _ e) (λb o u e=>up b _ e) (λb ps e=>⟨#[],by rw[up b _ e];simp⟩) (λm hm=>?_) (λb u e=>?_) I.bare
 . obtain⟨f0,f1,f2,f3,f4,f5⟩:=hf b hb
   exact⟨f3,f1,f4,f5⟩
 . have:b≠T:=Nat.ne_of_lt (Nat.lt_of_lt_of_le (Heap.lt_size e) hp)
   rw[qi this]
   exact n
 . obtain⟨o,es,ep,ho,r⟩:=hm
   exact⟨o,es,ep,k _ o (λz=>(hf _ z).2.1 rfl) ho,r⟩
 . by_cases hb:b=T
   . subst hb
     rw[qd]at e
     cases e
     exact new
   . rw[qi hb]at e
     refine(I.hok b u e).stay (λc v hc q=>k c v ?_ q) (λc q=>up c _ q) λc xs q=>up c _ q
     rcases hc with z | z
     . rw[z];exact nL b u e
     . exact nL c _ z
theorem qy.turnedL {L:List Addr} {t':Nat} (I:qy X pins σ H s) (k:∀b u,b∉L->s.heap.get? b=some u->h'.get? b=some u) (hf:∀b∈L,Ze X pins H b):qy X pins σ H {s with heap:=h',toks:=t'}:=by
 have nL:∀b u,H b=some u->b∉L:=λb u e z=>by rw[(hf b z).1]at e;cases e
 refine I.step (g':=s.gens) (d':=s.drawn) (ch:=L) (λb hb=>?_) (λb o _ _ hc e _=>k b o hc e) (λb o _ _ hc e _=>⟨o.slots,k b o hc e⟩) (λ_ _ _ _ n=>n)
   (λb o hc e=>⟨o,k b o hc e⟩) (λ_ _ e=>e) (λ_ _ _ e=>e) (λb ps e=>⟨#[],by rw[e];simp⟩) (λm hm=>?_) (λb u e=>?_) I.bare
 . obtain⟨f0,f1,f2,f3,f4,f5⟩:=hf b hb
   exact⟨f3,f1,f4,f5⟩
 . obtain⟨o,es,ep,ho,r⟩:=hm
   exact⟨o,es,ep,k _ o (λz=>(hf _ z).2.1 rfl) ho,r⟩
 . refine(I.hok b u e).stay (λc v hc q=>k c v ?_ q) (λ_ q=>q) λ_ _ q=>q
   rcases hc with z | z
   . rw[z];exact nL b u e
   . exact nL c _ z
end
section
variable {X:Cx} {elts:List Expr} {x1:Nat} {tpos:Pos}
end
end L2
set_option Elab.async false
set_option linter.all false
set_option maxRecDepth 100000
set_option maxHeartbeats 4000000
namespace L2
open PySem PySem.Spec PyProof.Rows
section
variable {X:Cx}
theorem YI:∀{cs:List Addr} {us:List Value},qF (cs.map V.ref) us->us=cs.map Value.ref
 | [],_,.nil=>rfl
 | c::cs,u::us,.cons r t=>by
   obtain rfl:u=Value.ref c:=r
   rw[List.map_cons,YI t]
end
section
variable {X:Cx} {o e:Expr} {es:List Expr} {ta:TE} {t:TA} {m:Str} {C C' f f':Addr} {fd fd':FuncData} {ps ps':List Str} {k k':Nat} {sp sp':Sp} {apos pos:Pos}
def Kg (C C':Addr) (m:Str) (sp sp':Sp) (ta:TE) (t:TA):TE:=λσ H Q=>ta σ H λx H1=>∃a dx fs,x=.ref a/\fs.lookup m=none/\
 ((H1 a=some (.ins C dx fs)/\t σ H1 λvs H2=>sp (x::vs) H2 Q E0)\/(H1 a=some (.ins C' dx fs)/\t σ H1 λvs H2=>sp' (x::vs) H2 Q E0))
theorem vF {pl:Sem Bool} (he:JE X o ta) (c:YB X.K C) (hm:W5 X.K C m f) (F:qv X.prog X.w X.K X.mg X.base qV k f fd ps sp) (hr:jg k X.A) (hb:j8 X.K fd ps []) (c':YB X.K C') (hm':W5 X.K C' m f') (F':qv X.prog X.w X.K X.mg X.base qV k' f' fd' ps' sp') (hr':jg k' X.A) (hb':j8 X.K fd' ps' []) (ht:eval (.Call (.Attribute o m apos) [] [] pos) X.env=(eval o X.env >>= λov=>standAt apos.atName >>= λ_=>holding [ov] (getMethod ov m pl) >>= λr=>callWith pos r.1 r.2 (backTo pos (starEach [] X.env)) (backToKw pos (keywordEach [] X.env))):=by rfl):JE X (.Call (.Attribute o m apos) [] [] pos) (Kg C C' m sp sp' ta QX):=.of (by
 have he:=he.to
 intro pins s σ H Q I h
 refine PySem.W.methodCall_KW (pl:=pl) (jd (he pins s σ H _ I h) λu s1 ⟨x,H1,I1,rx,a,dx,fs,ex,l,q⟩=>?_) ht
 subst ex
 obtain rfl:u=Value.ref a:=rx
 rcases q with ⟨ea,q⟩ | ⟨ea,q⟩
 . exact Jc I1 ea c hm l (PySem.W.callWith_K0 (first:=[.ref a]) I1.kIn hm.kp (zZ (us:=[.ref a]) (vs:=[.ref a]) F hr hb .nil Zs I1 (.cons rfl .nil) q))
 . exact Jc I1 ea c' hm' l (PySem.W.callWith_K0 (first:=[.ref a]) I1.kIn hm'.kp (zZ (us:=[.ref a]) (vs:=[.ref a]) F' hr' hb' .nil Zs I1 (.cons rfl .nil) q)))
end
section
variable {X:Cx} {e:Expr} {es:List Expr} {te:TE} {t:TA}
theorem ud {t':TE} (h:JE X e te) (k:∀σ H Q,t' σ H Q->te σ H Q):JE X e t':=.of (by
 have h:=h.to
 exact λpins s σ H Q I q=>h pins s σ H Q I (k σ H Q q))
def tWk (te:TE):TE:=λσ H Q=>∃G:VK,te σ H G/\∀x H1,G x H1->Q x H1
theorem RM (h:JE X e te):JE X e (tWk te):=.of (by
 have h:=h.to
 intro pins s σ H Q I ⟨G,g,k⟩
 exact jd (h pins s σ H G I g) λv s1 ⟨x,H1,I1,r1,q1⟩=>⟨x,H1,I1,r1,k x H1 q1⟩)
end
end L2
set_option Elab.async false
set_option linter.all false
set_option maxRecDepth 100000
set_option maxHeartbeats 4000000
namespace L2
open PySem PySem.Spec PySem.W PyProof.Rows
theorem u5:∀(f n r:Nat),r<=1->minRun' f n r<=n+r
 | 0,n,r,_=>Nat.le_refl _
 | f+1,n,r,hr=>by
   rw[minRun'_succ]
   split
   . exact Nat.le_refl _
   . have h1:max r (n % 2)<=1:=Nat.max_le.mpr ⟨hr,by omega⟩
     have:=u5 f (n / 2) (max r (n % 2)) h1
     omega
section
variable {P:Program} {w:World} {B:Around} {F:Value->Shared->Prop} {κ:SortKind} {it:Array Keyed} {z:Shared}
theorem Ww {n:Nat} {R:Nat->Shared->Prop} (hc:∀i,1<=i->i < n->∀C:Bool->Shared->Prop,C false z->kas_cmp P w B κ it i (i - 1) C z) (hR:R n z):
   ∀(f a:Nat),1<=a->a+f=n->(kas_asc (List.toArray (List.range n)) f a).kasWp (kas_cmp P w B κ it) R z
 | 0,a,_,e=>by
   have e':a=n:=by omega
   subst e'
   exact hR
 | f+1,a,h1,e=>by
   have g:∀i,i < n->(List.toArray (List.range n)).getD i 0=i:=λi hi=>by simp [Array.getD,hi]
   show kas_cmp P w B κ it ((List.toArray (List.range n)).getD a 0) ((List.toArray (List.range n)).getD (a - 1) 0) _ z
   rw[g a (by omega),g (a - 1) (by omega)]
   refine hc a h1 (by omega) _ ?_
   show KasT.kasWp _ (if false=true then _ else _) R z
   rw[if_neg Bool.false_ne_true]
   exact Ww hc hR f (a+1) (by omega) (by omega)
theorem ve {n:Nat} {Q:Unit->SortSt->Shared->Prop} (h2:2<=n) (hc:∀i,1<=i->i < n->∀C:Bool->Shared->Prop,C false z->kas_cmp P w B κ it i (i - 1) C z)
   (hQ:∀st,arrOf st=(List.toArray (List.range n)).map (kas_item it)->failedOf st=none->Q () st z):kasC (model P w) B F sortRuns' Q (kas_st κ it (List.toArray (List.range n))) z:=by
 obtain⟨r,rfl⟩:∃r,n=r+2:=⟨n - 2,by omega⟩
 have sz:(List.toArray (List.range (r+2))).size=r+2:=by simp
 have sa:(arrOf (kas_st κ it (List.toArray (List.range (r+2))))).size=r+2:=(Array.size_map ..).trans sz
 have le:=u5 (r+2) (r+2) 0 (by decide)
 rw[sortRuns'_eq]
 refine kasC_bind (kasC_get ?_)
 dsimp only
 rw[sa]
 generalize minRun' (r+2) (r+2) 0=M at le
 refine kasC_bind (kasC_range (show kasC _ _ _ (forIn (0::1::List.range' 2 r) _ _) _ _ _ from kasC_cons ?_))
 dsimp only
 rw[if_neg (by omega)]
 simp only[Nat.sub_zero,Nat.zero_add]
 refine kasC_bind (kas_count_ (G:=λq z'=>q=(r+2,List.toArray (List.range (r+2)))/\z'=z) (by omega) (by rw[sz];exact Nat.le_refl _) (λm p' z' _ _ _ hg=>?_) ?_)
 . obtain⟨e,rfl⟩:=hg
   cases e
   dsimp only
   rw[if_neg (by omega)]
   refine kasC_bind (kasC_get ?_)
   rw[show (pendingOf (kas_st κ it (List.toArray (List.range (r+2))))).back?=none from rfl]
   dsimp only
   refine kasC_bind (kasC_modify (kasC_pure (show kasC _ _ _ (forIn (1::List.range' 2 r) _ _) _ _ _ from kasC_cons ?_)))
   dsimp only
   rw[if_pos (Nat.le_refl _)]
   refine kasC_pure ?_
   dsimp only
   refine kasC_bind (kasC_range (show kasC _ _ _ (forIn (0::1::List.range' 2 r) _ _) _ _ _ from kasC_cons (kasC_bind (kasC_get ?_))))
   rw[if_pos (show (pendingOf (setPending (kas_st κ it (List.toArray (List.range (r+2)))) ((pendingOf (kas_st κ it (List.toArray (List.range (r+2))))).push (0,r+2,0)))).size<=1 from Nat.le_refl 1)]
   refine kasC_pure ?_
   dsimp only
   exact kasC_pure (hQ _ rfl rfl)
 . unfold kas_count
   rw[KasT.kasWp_bind]
   refine Ww hc ?_ _ 1 (Nat.le_refl 1) (by omega)
   rw[if_pos (beq_self_eq_true _)]
   exact⟨rfl,rfl⟩
end
def Jg (h:Heap) (v:Value) (k:Int×Int):Prop:=∃p o n t u,v=.ref p/\h.get? p=some o/\o.cls=.type "tuple"/\o.data=.seq #[.int k.1 t,.int k.2 u] n
def Yf (a b:Int×Int):Prop:=a.1 < b.1\/(a.1=b.1/\a.2 < b.2)
section
variable {P:Program} {w:World} {B:Around} {F:Value->Shared->Prop} {z:Shared}
theorem Wy {v u:Value} {a b:Int×Int} (hv:Jg z.heap v b) (hu:Jg z.heap u a) (hlt:Yf a b) {C:Bool->Shared->Prop} (hC:C false z):wpAny (model P w) B (keyLt' (tuples' true) v u) C (λ_ _=>False) z:=by
 obtain⟨p,o,n,t1,t2,rfl,h1,_,d1⟩:=hv
 obtain⟨p',o',n',t1',t2',rfl,h1',_,d1'⟩:=hu
 refine kat_lt h1 d1 h1' d1' ?_
 show KatLex P w B true _ C [(.int b.1 t1,.int a.1 t1'),(.int b.2 t2,.int a.2 t2')] 0 z
 refine kat_cons (SeqAt.EqAt.int_int b.1 t1 a.1 t1' P w _ _ ?_)
 rcases hlt with h | ⟨h,h'⟩
 . have e:(b.1==a.1)=false:=by
     rw[beq_eq_false_iff_ne]
     omega
   rw[e]
   refine kat_no (show wpAny _ _ (oneLt' true _ _) _ _ _ from oneLt_int ?_)
   rw[decide_eq_false (by omega)]
   exact hC
 . have e:(b.1==a.1)=true:=by rw[h];exact beq_self_eq_true _
   rw[e]
   refine kat_yes (kat_cons (SeqAt.EqAt.int_int b.2 t2 a.2 t2' P w _ _ ?_))
   have e2:(b.2==a.2)=false:=by
     rw[beq_eq_false_iff_ne]
     omega
   rw[e2]
   refine kat_no (show wpAny _ _ (oneLt' false _ _) _ _ _ from kat_one _ _ (lt_int ?_))
   show C (decide (b.2 < a.2)) z
   rw[decide_eq_false (by omega)]
   exact hC
theorem Jg.keep {h h':Heap} {v:Value} {k:Int×Int} (x:Jg h v k) (kp:∀b o,h.get? b=some o->o.cls=.type "tuple"->h'.get? b=some o):Jg h' v k:=by
 obtain⟨p,o,n,t,u,e,h1,c,d⟩:=x
 exact⟨p,o,n,t,u,e,kp p o h1 c,c,d⟩
theorem YU (vs:List Value):(pairsOf vs).map (·.2)=vs.toArray:=by
 apply Array.ext'
 rw[Array.toList_map,pairsOf_toList,List.map_snd_zip (Nat.le_refl _)]
theorem VS {h:Heap}:∀(vs:List Value) (ks:List (Int×Int)),vs.length=ks.length->(∀(i:Nat) (v:Value) (k:Int×Int),vs[i]?=some v->ks[i]?=some k->Jg h v k)->∃fs,KatTups h vs fs/\fs.length=vs.length/\∀v∈fs,∃i t,v=Value.int i t
 | [],_,_,_=>⟨[],.nil,rfl,λv hv=>(nomatch hv)⟩
 | v::vs,[],hl,_=>by cases hl
 | v::vs,k::ks,hl,hv=>by
   obtain⟨fs,tf,lf,hf⟩:=VS vs ks (Nat.succ.inj hl) λi u q e1 e2=>hv (i+1) u q (by simpa using e1) (by simpa using e2)
   obtain⟨p,o,n,t,u,rfl,h1,c,d⟩:=hv 0 v k rfl rfl
   refine⟨.int k.1 t::fs,.cons h1 c d rfl tf,by simp [lf],λx hx=>?_⟩
   rcases List.mem_cons.mp hx with e | hx
   . exact⟨_,_,e⟩
   . exact hf x hx
theorem U6 {a:Addr} {vs:List Value} {ks:List (Int×Int)} {n:Nat} {R:PySem.Fin->Shared->Prop} (ho:z.heap.get? a=some (seqObj "list" vs.toArray n)) (hl:vs.length=ks.length) (hv:∀(i:Nat) (v:Value) (k:Int×Int),vs[i]?=some v->ks[i]?=some k->Jg z.heap v k)
   (hr:∀(i:Nat) (k k':Int×Int),ks[i]?=some k->ks[i+1]?=some k'->Yf k k') (hz:vs.length<=100000)
   (k:R (.done (.ret .none)) {z with heap:=sortedHeap z.heap a vs vs.toArray}):wpAny (model P w) B (Builtin.«list.sort» ⟨[.ref a],[]⟩) R F z:=by
 have na:∀b o,z.heap.get? b=some o->o.cls=.type "tuple"->b≠a:=λb o e c q=>by
   rw[q,ho]at e
   cases e
   exact absurd c (show ¬Value.type "list"=Value.type "tuple" by decide)
 rw[list_sort_plain]
 refine wpAny_bind (listItems_at ho rfl (wpAny_bind (listUpdate_at ho rfl ?_)))
 obtain⟨c1,o1⟩:∃c,(z.heap.update a (Obj.mapSeq λ_=>#[])).get? a=some (seqObj "list" #[] c):=⟨_,get?_update_seq ho (λ_=>#[])⟩
 refine wpAny_bind (seqEpoch_at o1 rfl (wpAny_bind (wpAny_newTuple (wpAny_bind (wpAny_newList (wpAny_holding ?_))))))
 have lt:=Heap.lt_size ho
 have o2:(((z.heap.update a (Obj.mapSeq λ_=>#[])).push (seqObj "tuple" vs.toArray 0)).push (seqObj "list" #[] 0)).get? a=some (seqObj "list" #[] c1):=Heap.get?_push_of_some _ (Heap.get?_push_of_some _ o1)
 have kp:∀b o,z.heap.get? b=some o->o.cls=.type "tuple"->(((z.heap.update a (Obj.mapSeq λ_=>#[])).push (seqObj "tuple" vs.toArray 0)).push (seqObj "list" #[] 0)).get? b=some o:=λb o e c=>
   Heap.get?_push_of_some _ (Heap.get?_push_of_some _ ((Heap.get?_update_other _ _ (Ne.symm (na b o e c))).trans e))
 show wpAny (model P w) B _ R F {z with heap:=((z.heap.update a (Obj.mapSeq λ_=>#[])).push (seqObj "tuple" vs.toArray 0)).push (seqObj "list" #[] 0)}
 dsimp only
 have sv:vs.toArray.size=vs.length:=by simp
 have ends:∀st:SortSt,(arrOf st).map (·.2)=vs.toArray->failedOf st=none->wpAny (model P w) B (do
     let touched:=(<-seqEpoch a) != c1
     Builtin.List.listUpdate (.ref a) λ_=>(arrOf st).map (·.2)
     if let some e:=failedOf st then rule "list.sort.comparison-raised";throw e
     if touched then rule "list.sort.modified";raiseError "ValueError" "list modified during sort"
     ret .none) R F {z with heap:=((z.heap.update a (Obj.mapSeq λ_=>#[])).push (seqObj "tuple" vs.toArray 0)).push (seqObj "list" #[] 0)}:=λst e f=>by
   refine wpAny_bind (seqEpoch_at o2 rfl ?_)
   rw[e,f]
   refine wpAny_bind (listUpdate_at o2 rfl ?_ (hsz2:=by rw[sv,sizeLine_eq];omega))
   simp only[bne_self_eq_false,Bool.false_eq_true,if_false]
   exact wpAny_pure k
 by_cases h2:vs.toArray.size < 2
 . rw[if_pos h2,if_pos h2]
   refine wpAny_bind (wpAny_pure ?_)
   rw[StateT.run_pure]
   refine wpAny_bind (wpAny_pure ?_)
   exact ends (SortSt.mk' general' (vs.toArray.zip vs.toArray) #[] 7 none) (YU vs) rfl
 . rw[if_neg h2,if_neg h2]
   have l2:2<=vs.length:=by omega
   have hv':∀(i:Nat) (v:Value) (q:Int×Int),vs[i]?=some v->ks[i]?=some q->Jg (((z.heap.update a (Obj.mapSeq λ_=>#[])).push (seqObj "tuple" vs.toArray 0)).push (seqObj "list" #[] 0)) v q:=λi v q e1 e2=>(hv i v q e1 e2).keep kp
   obtain⟨fs,tf,lf,hf⟩:=VS vs ks hl hv'
   refine wpAny_bind (kat_kind (T:=.type "int") tf (by omega) (λv q=>?_) rfl ?_)
   . obtain⟨i,t,rfl⟩:=hf v q
     exact Looks.of_pure rfl
   . have e:vs.toArray.zip vs.toArray=(List.toArray (List.range vs.length)).map (kas_item (pairsOf vs)):=by
       have:=kas_range (pairsOf vs)
       rw[pairsOf_size]at this
       exact this.symm
     rw[e]
     have run:kasC (model P w) B F sortRuns' (λ_ st z'=>z'={z with heap:=((z.heap.update a (Obj.mapSeq λ_=>#[])).push (seqObj "tuple" vs.toArray 0)).push (seqObj "list" #[] 0)}/\(arrOf st).map (·.2)=vs.toArray/\failedOf st=none)
         (kas_st (tuples' true) (pairsOf vs) (List.toArray (List.range vs.length))) {z with heap:=((z.heap.update a (Obj.mapSeq λ_=>#[])).push (seqObj "tuple" vs.toArray 0)).push (seqObj "list" #[] 0)}:=by
       refine ve l2 (λi i1 i2 C hC=>?_) λst e1 e2=>⟨rfl,by rw[e1,<-e];exact YU vs,e2⟩
       unfold kas_cmp
       rw[kas_item_eq,kas_item_eq]
       have g:∀j,j < vs.length->vs[j]?=some (vs.getD j Value.none):=λj hj=>by simp [hj]
       have gk:∀j,j < vs.length->∃q,ks[j]?=some q:=λj hj=>⟨_,List.getElem?_eq_getElem (by omega)⟩
       obtain⟨q1,eq1⟩:=gk i i2
       obtain⟨q0,eq0⟩:=gk (i - 1) (by omega)
       have eq1':ks[i - 1+1]?=some q1:=by rw[show i - 1+1=i by omega];exact eq1
       exact Wy (hv' i _ q1 (g i i2) eq1) (hv' (i - 1) _ q0 (g (i - 1) (by omega)) eq0) (hr (i - 1) q0 q1 eq0 eq1') hC
     refine wpAny_bind (wpAny_mono run (λr z' h3=>?_) λ_ _ x=>x)
     obtain⟨⟨⟩,st⟩:=r
     obtain⟨rfl,e1,e2⟩:=h3
     exact ends st e1 e2
end
end L2
set_option Elab.async false
set_option linter.all false
set_option maxRecDepth 100000
set_option maxHeartbeats 4000000
namespace PySem
def RawD (h:Heap) (d:Addr) (es:Array DictEntry) (ep:Nat):Prop:=∃o,h.get? d=some o/\o.ExactDict/\o.data=.dict es ep
theorem RawD.keep {h h':Heap} {d:Addr} {es:Array DictEntry} {ep:Nat} (x:RawD h d es ep) (k:∀o,h.get? d=some o->h'.get? d=some o):RawD h' d es ep:=let ⟨o,e,r⟩:=x;⟨o,k o e,r⟩
section
variable {P:Program} {w:World} {B:Around} {F':Value->Shared->Prop} {z:Shared} {d I:Addr} {es:Array DictEntry} {ep i:Nat}
theorem RawD.ty (x:RawD z.heap d es ep):z.TypeIs (.ref d) "dict":=let ⟨o,e,c,_⟩:=x;⟨o,e,c.1⟩
theorem raw_iter {R:Value->Shared->Prop} (hd:(d==sysModules)=false) (x:RawD z.heap d es ep)
   (k:R (.ref z.heap.objs.size) {z with heap:=z.heap.push {cls:=.type "dict_keyiterator",data:=.fields #[.ref d,.int 0 0,.int es.size 0,.int ep 0]}}):wpAny (model P w) B (pyIter (.ref d)) R F' z:=by
 have ty:=x.ty
 obtain⟨o,ho,_,dat⟩:=x
 refine wpAny_pyIter_slot ty F.slot_dict_iter (wpAny_call_entry F.slot_dict_iter ty F.entry_dict_iter ?_ (F.args_dict_iter_1 _))
 unfold Builtin.«dict.__iter__»
 refine wpAny_bind (show wpAny _ _ (Builtin.Dict.dictSlotNone _ _) _ _ _ from ?_)
 unfold Builtin.Dict.dictSlotNone
 refine wpAny_bind (wpAny_notOrdered_dict ty (show wpAny _ _ (pure (Value.ref d)) _ _ z from wpAny_pure ?_))
 refine(show wpAny _ _ (Builtin.Dict.showsAll d >>= _) _ _ z from ?_)
 unfold Builtin.Dict.showsAll
 rw[if_neg (by rw[hd];exact Bool.false_ne_true)]
 refine wpAny_bind (wpAny_pure (wpAny_bind (wpAny_dictEntries ho dat (wpAny_bind (wpAny_dictEpoch ho dat ?_)))))
 exact wpAny_bind (wpAny_newObj_type (wpAny_pure ⟨_,rfl,"dict_keyiterator",_,⟨_,Heap.get?_push_size _ rfl,rfl⟩,F.slot_dict_keyiterator_next.lookup,by simpa [rawInt] using k⟩))
theorem kS {R:Option Value->Shared->Prop} (hit:z.heap.IsKeyIter I d i es.size ep) (x:RawD z.heap d es ep) (hi:i < es.size)
   (k:∀h',h'.IsKeyIter I d (i+1) es.size ep->Heap.SameBut I z.heap h'->R (some es[i].key) {z with heap:=h'}):wpAny (model P w) B (pyNext (.ref I)) R F' z:=by
 obtain⟨o,ho,hc,hd⟩:=id hit
 obtain⟨od,hod,_,dat⟩:=x
 have ty:=hit.typeIs
 unfold pyNext
 refine wpAny_bind (wpAny_attempt (wpAny_callSpecial?_slot (name:=Str.ofString "__next__") ty F.slot_dict_keyiterator_next (wpAny_call_entry F.slot_dict_keyiterator_next ty F.entry_dict_keyiterator_next ?_ (F.args_dict_keyiterator_next_1 _))))
 refine wpAny_bind (wpAny_pure (wpAny_bind (wpAny_bind (wpAny_bind ?_))))
 first | refine wpAny_typeNameOfWhole_keyiter ty (wpAny_pure (wpAny_bind (wpAny_fieldsOf ho hd ?_))) | refine wpAny_typeNameOf_keyiter ty (wpAny_pure (wpAny_bind (wpAny_fieldsOf ho hd ?_)))
 have own:Builtin.Dict_items.ownsTuple "dict_keyiterator"=false:=by decide
 simp only[own,Bool.false_eq_true,if_false]
 show wpAny _ _ (if (Value.ref d==Value.none)=true then _ else _) _ _ z
 rw[if_neg (show ¬((Value.ref d==Value.none)=true) from Bool.false_ne_true)]
 refine wpAny_bind (wpAny_pure (wpAny_bind (wpAny_dictEntries hod dat ?_)))
 rw[if_neg (by simp)]
 refine wpAny_bind (wpAny_pure (wpAny_bind (wpAny_dictEpoch hod dat ?_)))
 rw[if_neg (by simp)]
 refine wpAny_pure ?_
 simp only[show ¬((i:Int) < 0) from by omega,if_false,Int.toNat_natCast,Array.getElem?_eq_getElem hi]
 refine wpAny_bind (wpAny_bind ?_)
 first | refine wpAny_typeNameOfWhole_keyiter ty (wpAny_pure (wpAny_bind (wpAny_isOneOf_keyiter ty ?_))) | refine wpAny_typeNameOf_keyiter ty (wpAny_pure (wpAny_bind (wpAny_isOneOf_keyiter ty ?_)))
 refine(show wpAny _ _ (setField (.ref I) 1 (rawInt ((i:Int)+1)) >>= _) _ _ z from wpAny_bind (wpAny_setField ho hd (by simp) ?_))
 have hit':(z.heap.update I (Obj.mapFields (·.setIfInBounds 1 (rawInt ((i:Int)+1))))).IsKeyIter I d (i+1) es.size ep:=
   ⟨_,Heap.get?_update_self _ ho (Obj.isFreed_of_fields (Obj.data_mapFields hd _)),(Obj.cls_mapFields ..).trans hc,by rw[Obj.data_mapFields hd];simp [rawInt]⟩
 refine wpAny_bind (wpAny_holding (wpAny_bind (wpAny_isOneOf_keyiter (s:={z with heap:=z.heap.update I (Obj.mapFields (·.setIfInBounds 1 (rawInt ((i:Int)+1))))}) hit'.typeIs ?_)))
 refine(show wpAny _ _ (pure es[i].key) _ _ _ from wpAny_pure (wpAny_pure ⟨_,rfl,wpAny_pure (k _ hit' (Heap.SameBut.update ..))⟩))
theorem wn {R:Option Value->Shared->Prop} (hB:B.handled=none) (hit:z.heap.IsKeyIter I d i es.size ep) (x:RawD z.heap d es ep) (hi:es.size<=i)
   (k:∀h',Heap.ExtBut I z.heap h'->R none {z with heap:=h'}):wpAny (model P w) B (pyNext (.ref I)) R F' z:=by
 obtain⟨o,ho,hc,hd⟩:=id hit
 obtain⟨od,hod,_,dat⟩:=x
 have ty:=hit.typeIs
 unfold pyNext
 refine wpAny_bind (wpAny_attempt (wpAny_callSpecial?_slot (name:=Str.ofString "__next__") ty F.slot_dict_keyiterator_next (wpAny_call_entry F.slot_dict_keyiterator_next ty F.entry_dict_keyiterator_next ?_ (F.args_dict_keyiterator_next_1 _))))
 refine wpAny_bind (wpAny_pure (wpAny_bind (wpAny_bind (wpAny_bind ?_))))
 first | refine wpAny_typeNameOfWhole_keyiter ty (wpAny_pure (wpAny_bind (wpAny_fieldsOf ho hd ?_))) | refine wpAny_typeNameOf_keyiter ty (wpAny_pure (wpAny_bind (wpAny_fieldsOf ho hd ?_)))
 have own:Builtin.Dict_items.ownsTuple "dict_keyiterator"=false:=by decide
 simp only[own,Bool.false_eq_true,if_false]
 show wpAny _ _ (if (Value.ref d==Value.none)=true then _ else _) _ _ z
 rw[if_neg (show ¬((Value.ref d==Value.none)=true) from Bool.false_ne_true)]
 refine wpAny_bind (wpAny_pure (wpAny_bind (wpAny_dictEntries hod dat ?_)))
 rw[if_neg (by simp)]
 refine wpAny_bind (wpAny_pure (wpAny_bind (wpAny_dictEpoch hod dat ?_)))
 rw[if_neg (by simp)]
 refine wpAny_pure ?_
 simp only[show ¬((i:Int) < 0) from by omega,if_false,Int.toNat_natCast,Array.getElem?_eq_none hi]
 refine wpAny_bind (wpAny_bind ?_)
 first | refine wpAny_typeNameOfWhole_keyiter ty (wpAny_pure ?_) | refine wpAny_typeNameOf_keyiter ty (wpAny_pure ?_)
 refine(show wpAny _ _ (setField (.ref I) 0 .none >>= _) _ _ z from wpAny_bind (wpAny_setField ho hd (by simp) ?_))
 refine(show wpAny _ _ (newExc (.type "StopIteration") [] >>= _) _ _ _ from wpAny_bind ?_)
 simp only[newExc,newTuple]
 refine wpAny_bind (wpAny_newObj_type (wpAny_bind (m:=firstArgMember _ _) (wpAny_of_eq (a:=Value.none) (by first | rfl | (simp only[firstArgMember];rfl)) (wpAny_newObj_type ?_ (by size_fits)))) (by size_fits))
 simp only[raiseNew]
 refine wpAny_bind (wpAny_handled ?_)
 rw[show B.in1.handled=none from hB]
 refine wpAny_bind (wpAny_pure (wpAny_throw ?_))
 refine wpAny_bind (wpAny_isInstance (T:="StopIteration") (b:=true) ⟨_,Heap.get?_push_size _ rfl,rfl⟩ isSubtype_stop ?_)
 exact wpAny_pure (k _ ((((Heap.SameBut.update ..).extBut).push _).push _))
end
end PySem
namespace PySem
open PySem.W
section
variable {P:Program} {w:World} {d:Addr} {es:Array DictEntry} {ep:Nat}
theorem vf {B:Around} (hB:B.handled=none) (I:Addr) (hne:d≠I):Walks P w B I [I,d] [I] es.size (λi v=>∃h:i < es.size,v=es[i].key) (λi h=>h.IsKeyIter I d i es.size ep/\RawD h d es ep) where
 sub:=λb hb=>by simp at hb;simp [hb]
 frame:=λ_ _ _ st k=>⟨st.1.at λo e=>k I (by simp) o e,st.2.keep λo e=>k d (by simp) o e⟩
 item:=λi z R G hi st q=>kS st.1 st.2 hi λh' it' sb=>q _ h' z.toks ⟨hi,rfl⟩ ⟨it',st.2.keep λo e=>sb.extBut d o hne e⟩ λb o hb e=>sb.extBut b o (λx=>hb (by simp [x])) e
 done:=λz R G st q=>wn hB st.1 st.2 (Nat.le_refl _) λh' eb=>q h' z.toks λb o hb e=>eb b o (λx=>hb (by simp [x])) e
 self:=λ_ _ _ _ st q=>wpAny_pyIter_keyiter st.1 q
theorem wl (hd:(d==sysModules)=false):KdlSrc P w "dict" d d es.size (λi v=>∃h:i < es.size,v=es[i].key) (λh=>RawD h d es ep) where
 type:=λz x=>x.ty
 there:=λh x=>let ⟨o,e,_⟩:=x;⟨Heap.lt_size e,Heap.lt_size e⟩
 keep:=λh h' x k=>x.keep λo e=>k d (.inl rfl) o e
 notList:=by decide
 notTuple:=by decide
 hint:=λ_ _ _ _ x q=>kdl_hint_dict x.ty q
 iter:=λA z hh x=>⟨_,_,λE Q q=>raw_iter hd x q,vf hh _ (let ⟨o,e,_⟩:=x;Nat.ne_of_lt (Heap.lt_size e)),⟨⟨_,Heap.get?_push_size _ rfl,rfl,rfl⟩,x.keep λo e=>Heap.get?_push_of_some _ e⟩⟩
end
end PySem
namespace L2
open PySem PySem.Spec PySem.W PyProof.Rows
theorem Qa {α β:Type} {G:α->β->Prop}:∀{l:List α} {m:List β},Paired G l m->∀{i:Nat} {a:α},l[i]?=some a->∃b,m[i]?=some b/\G a b
 | _,_,.nil,i,a,e=>by simp at e
 | _,_,.cons r t,0,a,e=>by cases e;exact⟨_,rfl,r⟩
 | _,_,.cons r t,i+1,a,e=>by
   obtain⟨b,eb,g⟩:=Qa t (by simpa using e)
   exact⟨b,by simpa using eb,g⟩
section
variable {X:Cx}
def ZY (k:Int×Int):List qA:=[Sum.inl k.1,Sum.inl k.2]
def Ks:List V->Hp->VK->Prop:=λxs H Q=>∃(a:Addr) (kvs:List (List qA×V)) (ks:List (Int×Int)),xs=[.ref a]/\H a=some (.dT kvs)/\kvs.map (·.1)=ks.map ZY/\(∀(i:Nat) (k k':Int×Int),ks[i]?=some k->ks[i+1]?=some k'->Yf k k')/\kvs.length<=1000/\
 ∀(l:Addr) (ps:List Addr),H l=none->ps.length=ks.length->(∀(i:Nat) (p:Addr) (k:Int×Int),ps[i]?=some p->ks[i]?=some k->H p=some (.tup [.int k.1,.int k.2]))->Q (.ref l) (upd H l (.lst (ps.map V.ref)))
theorem We:∀(ps:List Addr),qF (ps.map V.ref) (ps.map Value.ref)
 | []=>.nil
 | p::ps=>.cons rfl (We ps)
theorem VJ (hc:X.calm=true):j5 X (.builtin "sorted") Ks:=by
 intro pins s σ H xs us Q I r h
 obtain⟨a,kvs,ks,rfl,ea,eks,hr,hz,q⟩:=h
 obtain⟨u,rfl,ru⟩:=Qv r
 cases ru
 obtain⟨_,hsys,ys,pr,o,es,ep,eo,ex,dat,ents,_⟩:=(show qX X.prog X.w H s.heap a (.dT kvs) from I.hok a _ ea)
 have ly:kvs.length=ys.length:=Paired.length pr
 have lk:kvs.length=ks.length:=by simpa using congrArg List.length eks
 have se:es.size=ys.length:=by rw[<-Array.length_toList,ents,List.length_map]
 have key:∀i (hi:i < es.size),es[i].key=.ref ((ys.map (·.2.1)).getD i 0):=λi hi=>by
   have e1:es.toList[i]?=some es[i]:=by simp [hi]
   have hy:i < ys.length:=by omega
   rw[ents,List.getElem?_map,List.getElem?_eq_getElem hy]at e1
   have e2:=(Option.some.inj e1).symm
   rw[e2]
   show Value.ref ys[i].2.1=_
   simp [hy]
 have tup:∀(i:Nat) (p:Addr) (k:Int×Int),(ys.map (·.2.1))[i]?=some p->ks[i]?=some k->H p=some (.tup [.int k.1,.int k.2]):=λi p k e1 e2=>by
   rw[List.getElem?_map]at e1
   cases ey:ys[i]? with
   | none=>rw[ey]at e1;cases e1
   | some y=>
     rw[ey]at e1
     have ep':y.2.1=p:=Option.some.inj e1
     have hi:i < kvs.length:=by
       have:=(List.getElem?_eq_some_iff.mp ey).1
       omega
     obtain⟨y',ey',g1,g2,_⟩:=Qa pr (List.getElem?_eq_getElem hi)
     rw[ey]at ey'
     cases ey'
     have ek:kvs[i].1=ZY k:=by
       have h1:(kvs.map (·.1))[i]?=some kvs[i].1:=by rw[List.getElem?_map,List.getElem?_eq_getElem hi];rfl
       rw[eks,List.getElem?_map,e2]at h1
       exact(Option.some.inj h1).symm
     rw[ek,ep']at g2
     exact g2
 have hh:X.A.in1.handled=none:=I.ok.hd hc
 refine Calls.call_function_entry kind_sorted plain_sorted entry_sorted (args_sorted1 _) ?_
 unfold Builtin.«sorted»
 refine wpAny_bind (m:=checkCount "sorted" 1 1 _) (wpAny_pure ?_)
 refine wpAny_bind (kdu_collect (wl (es:=es) (ep:=ep) hsys) hh ⟨o,eo,ex,dat⟩ (by rw[se,sizeLine_eq];omega) λh1 tk acc k1 it=>?_)
 have eacc:acc.toList=(ys.map (·.2.1)).map Value.ref:=by
   refine List.ext_getElem? λi=>?_
   by_cases hi:i < es.size
   . have ha:i < acc.size:=by rw[it.1];exact hi
     have e1:acc[i]?=some acc[i]:=Array.getElem?_eq_getElem ha
     obtain⟨h',e2⟩:=it.2 i _ e1
     rw[Array.getElem?_toList,e1,e2,key i hi,List.getElem?_map]
     have hy:i < (ys.map (·.2.1)).length:=by rw[List.length_map];omega
     rw[List.getElem?_eq_getElem hy]
     simp [List.getD_eq_getElem?_getD,List.getElem?_eq_getElem hy]
   . rw[List.getElem?_eq_none (by rw[Array.length_toList,it.1];omega),List.getElem?_eq_none (by rw[List.length_map,List.length_map];omega)]
 rw[eacc]
 generalize hps:ys.map (·.2.1)=ps at eacc tup key
 have lp:ps.length=ks.length:=by rw[<-hps,List.length_map];omega
 refine wpAny_bind (wpAny_newList ?_)
 have I1:qy X pins σ H {s with heap:=h1,toks:=tk}:=I.kept (t':=tk) k1
 show wpAny _ _ _ _ _ {s with heap:=h1.push (seqObj "list" (ps.map Value.ref).toArray 0),toks:=tk}
 have oL:(h1.push (seqObj "list" (ps.map Value.ref).toArray 0)).get? h1.objs.size=some (seqObj "list" (ps.map Value.ref).toArray 0):=Heap.get?_push_size _ rfl
 have pa:∀(i:Nat) (v:Value) (k:Int×Int),(ps.map Value.ref)[i]?=some v->ks[i]?=some k->Jg (h1.push (seqObj "list" (ps.map Value.ref).toArray 0)) v k:=λi v k e1 e2=>by
   rw[List.getElem?_map]at e1
   cases ep1:ps[i]? with
   | none=>rw[ep1]at e1;cases e1
   | some p=>
     rw[ep1]at e1
     obtain rfl:=(Option.some.inj e1).symm
     obtain⟨its,rv,⟨ob,eb,cb,nb,db⟩,_⟩:=I1.tuple (.of (tup i p k ep1 e2):zE X.K H p _)
     cases rv with
     | cons r1 rv=>
       cases rv with
       | cons r2 rv=>
         cases rv
         obtain⟨t1,rfl⟩:=r1
         obtain⟨t2,rfl⟩:=r2
         exact⟨p,ob,nb,t1,t2,rfl,Heap.get?_push_of_some _ eb,cb,db⟩
 refine wpAny_bind (wpAny_holding (wpAny_call_entry slot_list_sort ⟨_,oL,rfl⟩ entry_list_sort (U6 oL (by rw[List.length_map];exact lp) pa hr (by rw[List.length_map];omega) ⟨_,rfl,?_⟩) (args_list_sort _)))
 refine wpAny_pure ⟨_,rfl,?_⟩
 have lne:∀b o,h1.get? b=some o->b≠h1.objs.size:=λb o e=>Nat.ne_of_lt (Heap.lt_size e)
 have kf:∀b o,h1.get? b=some o->(sortedHeap (h1.push (seqObj "list" (ps.map Value.ref).toArray 0)) h1.objs.size (ps.map Value.ref) (ps.map Value.ref).toArray).get? b=some o:=λb o e=>by
   unfold sortedHeap
   rw[Heap.get?_update_other _ _ (Ne.symm (lne b o e))]
   exact Heap.get?_push_of_some _ (Heap.get?_push_of_some _ ((Heap.get?_update_other _ _ (Ne.symm (lne b o e))).trans (Heap.get?_push_of_some _ e)))
 obtain⟨c2,o2⟩:∃c,((h1.push (seqObj "list" (ps.map Value.ref).toArray 0)).update h1.objs.size (Obj.mapSeq λ_=>#[])).get? h1.objs.size=some (seqObj "list" #[] c):=⟨_,get?_update_seq oL (λ_=>#[])⟩
 obtain⟨c3,o3⟩:∃c,(sortedHeap (h1.push (seqObj "list" (ps.map Value.ref).toArray 0)) h1.objs.size (ps.map Value.ref) (ps.map Value.ref).toArray).get? h1.objs.size=some (seqObj "list" (ps.map Value.ref).toArray c):=
   ⟨_,get?_update_seq (Heap.get?_push_of_some _ (Heap.get?_push_of_some _ o2)) (λ_=>(ps.map Value.ref).toArray)⟩
 refine⟨.ref h1.objs.size,_,I1.laid (t':=tk) (o:=.lst (ps.map V.ref)) kf (Nat.le_refl _) ⟨by rw[List.length_map,lp,<-lk];exact Nat.le_of_lt (qk hz),_,c3,We ps,o3⟩,rfl,?_⟩
 exact q _ ps (I1.hok.fresh (Nat.le_refl _)) lp tup
end
end L2
set_option Elab.async false
set_option linter.all false
set_option maxRecDepth 100000
set_option maxHeartbeats 4000000
namespace L2
open PySem PySem.Spec PySem.W PyProof.Rows
section
variable {X:Cx}
def NF:V->Option Int->Option Int->Hp->VK->Prop:=λx lo hi H Q=>∃(z:Str) (j:Int),x=.str z/\lo=none/\hi=some j/\z.length<=1000/\Q (.str (Txt.slice z none (some j))) H
theorem kG:N8 X NF:=by
 intro pins s σ H x v vl vu lo hi sl Q I rx hs pl pu h
 obtain⟨z,j,rfl,rfl,rfl,hz,q⟩:=h
 obtain⟨t,rfl⟩:=rx
 refine⟨"str",_,PySem.F.slot_str_getitem.lookup,typeIs_str _ _ _,?_⟩
 cases pl
 cases pu
 exact wpAny_getItem_str_slice (l:=none) (u:=some (j,_)) (st:=none) hs rfl (post_val_or_str ⟨Nat.le_trans (Txt.slice_le z none (some j)) (Nat.le_of_lt (qk hz)),λt' k=>⟨.str _,H,I.tok k,⟨t',rfl⟩,q⟩⟩)
theorem zJ (z:Str) (j:Nat):(Txt.slice z none (some (j:Int))).cps.toList=z.cps.toList.take j:=by
 have hl:z.cps.toList.length=z.length:=Array.length_toList
 have idx:Builtin.Str.strSliceIndices none (some (j:Int)) 1 z.length=(List.range (min j z.length)).map (0+·):=by
   have e:Builtin.Str.strSliceIndices none (some (j:Int)) 1 z.length=sliceRange ((0:Nat):Int) ((min j z.length:Nat):Int) 1:=by
     unfold Builtin.Str.strSliceIndices
     simp only[show (1:Int) > 0 by decide,if_true,show ¬((j:Int) < 0) by omega,if_false]
     congr 1
     omega
   rw[e,sliceRange_one]
   rfl
 unfold Txt.slice
 rw[idx]
 split
 . rename_i h
   have hm:min j z.length=z.length:=by simpa using h
   rw[List.take_of_length_le]
   omega
 . rw[pick_run]
   show (z.cps.toList.drop 0).take (min j z.length)=_
   rw[List.drop_zero]
   by_cases hj:j<=z.length
   . rw[Nat.min_eq_left hj]
   . rw[Nat.min_eq_right (by omega),List.take_of_length_le (by omega),List.take_of_length_le (by omega)]
def uM (n:Nat):List V:=(List.range n).map λi=>V.int (i:Nat)
def tLr (te:TE):TE:=λσ H Q=>te σ H λx H1=>∃n:Nat,x=.int n/\n<=1000/\∀l,H1 l=none->Q (.ref l) (upd H1 l (.lst (uM n)))
theorem xE {n:Nat} {acc:Array Value} (h:ItemsOf (λi v=>∃t,v=.int (0+i*1) t) acc n):qF (uM n) acc.toList:=by
 obtain⟨hz,hv⟩:=h
 refine YV _ _ (by simp [uM,hz]) λi x u h1 h2=>?_
 have h2':acc[i]?=some u:=by simpa using h2
 obtain⟨t,rfl⟩:=hv i u h2'
 have hi:i < n:=by
   have:=(Array.getElem?_eq_some_iff.mp h2').1
   omega
 unfold uM at h1
 rw[List.getElem?_map,List.getElem?_range hi]at h1
 obtain rfl:=(Option.some.inj h1).symm
 refine⟨t,?_⟩
 congr 1
 omega
variable {e:Expr} {te:TE} {p1 p3 pos1 pos3:Pos}
theorem RN (hc:X.calm=true) (g1:Gl X "list") (m1:X.mg "list"=none) (g3:Gl X "range") (m3:X.mg "range"=none) (ha:JE X e te) (hs:starEach [e] X.env=[(false,eval e X.env)]:=by rfl) (hs2:starEach [.Call (.Name "range" p3) [e] [] pos3] X.env=[(false,eval (.Call (.Name "range" p3) [e] [] pos3) X.env)]:=by rfl):JE X (.Call (.Name "list" p1) [.Call (.Name "range" p3) [e] [] pos3] [] pos1) (tLr te):=.of (by
 have ha:=ha.to
 intro pins s σ H Q I h
 refine Call_ (QR I g1 m1 boot_list (PyProof.Rows.callWith_type1 (kz hs2 ?_) (by rw[hs2];rfl) rfl))
 refine Call_ (QR I g3 m3 boot_range (PyProof.Rows.callWith_type1 (kz hs (jd (ha pins s σ H _ I h) λu s1 ⟨x,H1,I1,r1,q1⟩=>?_)) (by rw[hs];rfl) rfl))
 obtain⟨n,rfl,hn,q⟩:=q1
 obtain⟨t,rfl⟩:=r1
 refine call_range_1 ?_
 refine call_list_range (n:=n) (I1.ok.hd hc) (IsRange.new ..) (small_one (by omega) (by omega) (by omega) (by omega)) (Ul n) (by omega) λh' tk acc' c' kp e hi=>?_
 have s1z:s1.heap.objs.size<=(s1.heap.push ({cls:=.type "range",data:=.fields #[.int 0 s1.toks,.int n t,.int 1 (s1.toks+1)]}:Obj)).objs.size:=by
   rw[Heap.size_push]
   omega
 exact⟨.ref _,_,I1.laid (t':=tk) (o:=.lst (uM n)) (λb o eb=>kp b o (Heap.get?_push_of_some _ eb)) s1z ⟨by simp only[uM,List.length_map,List.length_range];exact Nat.le_of_lt (qk hn),acc'.toList,c',xE hi,by simpa using e⟩,rfl,q _ (I1.hok.fresh s1z)⟩)
theorem vW (hc:X.calm=true):j5 X (.type "set") (λxs H Q=>∃(p:Addr) (ns:List Int),xs=[.ref p]/\SqL X.K H p (ns.map V.int)/\ns.length<=1000/\∀l S,H l=none->Q (.ref l) (upd H l (.set S (firstMet (λi=>ns.getD i 0) ns.length).length))):=by
 intro pins s σ H xs us Q I r h
 obtain⟨p,ns,rfl,hq,hz,q⟩:=h
 obtain⟨u,rfl,ru⟩:=Qv r
 cases ru
 obtain⟨its,rv,pl,_⟩:=I.list hq
 have hl:=rv.length
 rw[List.length_map]at hl
 have hsz:its.toArray.size=ns.length:=by rw[List.size_toArray,<-hl]
 refine call_set_list (ns:=ns) (I.ok.hd hc) pl.isList (by simpa using Vx rv) (by rw[hsz];show ns.length+1 < 4096;omega) λh' tk so kp=>?_
 rw[hsz]at so
 exact⟨.ref s.heap.objs.size,_,I.laid (t':=tk) (o:=.set _ _) (λb o e=>kp b o (Heap.lt_size e) e) (Nat.le_refl _) so,rfl,q _ _ (I.hok.fresh (Nat.le_refl _))⟩
theorem W2:j5 X (.builtin "len") (λxs H Q=>∃a S n,xs=[V.ref a]/\H a=some (.set S n)/\Q (.int (n:Nat)) H):=by
 intro pins s σ H xs us Q I r h
 obtain⟨a,S,n,rfl,ea,q⟩:=h
 obtain⟨u,rfl,ru⟩:=Qv r
 cases ru
 obtain⟨o,es,ep,t,e1,e2,e3,_,_,b,f,rfl⟩:=(show qX X.prog X.w H s.heap a (.set S n) from I.hok a _ ea)
 refine call_len_set e1 e2 e3 f (by have:es.size < 4096:=b;omega) ⟨.int _,H,I.tok _,⟨_,rfl⟩,q⟩
end
end L2
set_option Elab.async false
set_option linter.all false
set_option maxRecDepth 100000
set_option maxHeartbeats 4000000
namespace L2
open PySem PySem.Spec PyProof.Rows
def R9 (K:PySem.W.Frag) (a:Addr):It:=⟨λi H=>∃xs x,SqL K H a xs/\xs[i]?=some x,
 λi H v H'=>∃p,H p=none/\v=.ref p/\∀xs x,SqL K H a xs->xs[i]?=some x->H'=upd H p (.tup [.int (i:Nat),x]),
 λi H=>∃xs,SqL K H a xs/\xs.length<=i⟩
theorem U0 {P:Program} {w:World} {K:PySem.W.Frag} {elts:List Expr} {x1:Nat} {tpos:Pos} (a e it:Addr) (hne:e≠it):
   YH P w K (.Tuple elts x1 tpos) (R9 K a) [e,it] e (λi h=>(∃old,IsEnum h e it i old)/\h.IsListIter it a i) where
 mem:=by simp
 obj:=λi h st c hc=>by
   obtain⟨⟨old,he⟩,⟨o1,e1,c1,d1⟩⟩:=st
   simp only[List.mem_cons,List.mem_nil_iff,or_false]at hc
   rcases hc with rfl | rfl
   . exact⟨_,he,λv z=>by cases z⟩
   . exact⟨o1,e1,λv z=>by rw[d1]at z;cases z⟩
 keep:=λi h h' st k=>by
   obtain⟨⟨old,he⟩,h1⟩:=st
   exact⟨⟨old,k e (by simp) _ he⟩,h1.at λo e=>k it (by simp) o e⟩
 item:=by
   intro X hP hw hK hc i pins s σ H E I hf st hg
   subst hP hw hK
   obtain⟨⟨old,he⟩,h1⟩:=st
   obtain⟨xs,x,qa,hx⟩:=hg
   obtain⟨its,rv,p,_⟩:=I.list qa
   obtain⟨u,hu,ru⟩:=rv.get hx
   refine wpAny_pyNext_enum_item he h1 p.isList (x:=u) (by simpa using hu) hne λh' z1 z2 z3 z4 kk=>⟨_,rfl,?_⟩
   refine wpAny_letOwnedTupleGo_enum z1 λh'' z1' sb=>?_
   have nT:∀c o,s.heap.get? c=some o->s.heap.objs.size≠c:=λc o e=>Nat.ne_of_gt (Heap.lt_size e)
   have kT:∀c o,c≠e->h'.get? c=some o->h''.get? c=some o:=λc o hc e=>(sb.2 c hc).trans e
   have I1:qy X pins σ (upd H s.heap.objs.size (.tup [.int (i:Nat),x])) {s with heap:=h'',toks:=s.toks+1}:=I.turnLaid (L:=[e,it]) (t':=s.toks+1)
     (λc o hc e=>kT c o (λz=>hc (by simp [z])) (kk c o (λz=>hc (by simp [z])) (λz=>hc (by simp [z])) e)) hf (Nat.le_refl _)
     ⟨by show 2<=sizeLine;decide,[.int i s.toks,u],.cons ⟨_,rfl⟩ (.cons ru .nil),⟨_,kT _ _ (nT _ _ he) z3,rfl,_,rfl⟩⟩
   refine⟨.ref s.heap.objs.size,_,I1,rfl,⟨s.heap.objs.size,I.hok.fresh (Nat.le_refl _),rfl,λxs' x' qa' hx'=>?_⟩,⟨⟨_,z1'⟩,z2.at λo e=>kT _ o (Ne.symm hne) e⟩,λc hc=>?_⟩
   . rw[I.list_inj qa' qa,hx]at hx'
     cases hx'
     rfl
   . have h0:=(hf c hc).1
     by_cases ec:c=s.heap.objs.size
     . subst ec
       obtain⟨o1,e1,_⟩:=h1
       simp only[List.mem_cons,List.mem_nil_iff,or_false]at hc
       rcases hc with e | e
       . exact absurd e (nT _ _ he)
       . exact absurd e (nT _ _ e1)
     . rw[qi ec];exact h0
 done:=by
   intro X hP hw hK hc i pins s σ H E I hf st hg
   subst hP hw hK
   obtain⟨⟨old,he⟩,h1⟩:=st
   obtain⟨xs,qa,hl⟩:=hg
   obtain⟨its,rv,p,_⟩:=I.list qa
   have l1:=rv.length
   exact wpAny_pyNext_enum_end (I.ok.hd hc) he h1 p.isList (by simp;omega) λh' kk=>⟨rfl,I.turnedL (L:=[e,it]) (t':=s.toks) (λc o hc e=>kk c o (λz=>hc (by simp [z])) e) hf⟩
 self:=λ_ _ _ _ _ st h=>let ⟨⟨_,he⟩,_⟩:=st;wpAny_pyIter_enum he h
section
variable {X:Cx} {elts:List Expr} {x1:Nat} {tpos:Pos}
def RU (K:PySem.W.Frag) (ta:TA):TI:=λσ H R=>ta σ H λvs H1=>∃a,vs=[.ref a]/\(∃xs,SqL K H1 a xs)/\R (R9 K a) H1
theorem UA {a:Expr} {ta:TA} {p pos:Pos} (hg:Gl X "enumerate") (hm:X.mg "enumerate"=none) (ha:JA X [a] ta) (hs:starEach [a] X.env=[(false,eval a X.env)]:=by rfl):JI X (.Tuple elts x1 tpos) (.Call (.Name "enumerate" p) [a] [] pos) (RU X.K ta):=.of (by
 have ha:=ha.to
 intro pins s σ H R I h
 refine Call_ (QR I hg hm boot_enumerate (PyProof.Rows.callWith_type1 (jd (ha pos pins s σ H _ I h) λus s1 ⟨vs,H1,I1,r1,q1⟩=>?_) (by rw[hs];rfl) rfl))
 obtain⟨l,e,⟨xs,qa⟩,q⟩:=q1
 subst e
 cases r1 with
 | cons r rr=>
   cases rr
   cases r
   obtain⟨its,rv,p,_⟩:=I1.list qa
   refine call_enumerate_list p.isList λh' z1 z2 z3 kk=>?_
   refine wpAny_pyIter_enum z1 ?_
   have I2:qy X pins σ H1 {s1 with heap:=h'}:=I1.kept (t':=s1.toks) kk
   have fr:∀c,s1.heap.objs.size<=c->Ze X pins H1 c:=λc hc=>I1.fpOk hc (I1.hok.fresh hc)
   refine⟨s1.heap.objs.size+1,[s1.heap.objs.size+1,s1.heap.objs.size],_,_,H1,rfl,I2,U0 l (s1.heap.objs.size+1) s1.heap.objs.size (Nat.succ_ne_self _),⟨⟨_,z1⟩,z2⟩,λc hc=>?_,q⟩
   simp only[List.mem_cons,List.mem_nil_iff,or_false]at hc
   rcases hc with e | e<;>rw[e]<;>first | exact fr _ (Nat.le_add_right _ _) | exact fr _ (Nat.le_refl _))
end
theorem WT {K:PySem.W.Frag} {a:Addr} {xs:List V} {g:TG} {tb:TS} {D:Ji} {σ:St} {H:Hp} (Pv:Nat->St->Hp->Prop) (h0:Pv 0 σ H) (hl:∀i σ H,i<=xs.length->Pv i σ H->SqL K H a xs)
   (hs:∀i x σ H p,xs[i]?=some x->H p=none->Pv i σ H->g (.ref p) σ (upd H p (.tup [.int (i:Nat),x])) λσ2 H2=>tb {D with nx:=Pv (i+1),ct:=Pv (i+1),bk:=D.nx} σ2 H2) (hd:∀σ H,Pv xs.length σ H->D.nx σ H):
   ∃W:Nat->Nat->St->Hp->Prop,(∃m,W 0 m σ H)/\∀i m σ H,W i m σ H->
    ((R9 K a).stop i H/\D.nx σ H)\/((R9 K a).go i H/\∃N:St->Hp->Prop,(∀σ' H',N σ' H'->∃m',m' < m/\W (i+1) m' σ' H')/\∀x H',(R9 K a).yld i H x H'->g x σ H' λσ2 H2=>tb {D with nx:=N,ct:=N,bk:=D.nx} σ2 H2):=by
 refine⟨λi m σ H=>m=xs.length - i/\i<=xs.length/\Pv i σ H,⟨xs.length,by simp,Nat.zero_le _,h0⟩,?_⟩
 rintro i m σ H ⟨rfl,hi,p⟩
 have qa:=hl i σ H hi p
 by_cases hlt:i < xs.length
 . have ex:xs[i]?=some xs[i]:=List.getElem?_eq_getElem hlt
   refine .inr ⟨⟨xs,_,qa,ex⟩,Pv (i+1),λσ' H' p'=>⟨xs.length - (i+1),by omega,rfl,hlt,p'⟩,λx H' yl=>?_⟩
   obtain⟨pp,hp,rfl,e⟩:=yl
   rw[e xs _ qa ex]
   exact hs i _ σ H pp ex hp p
 . have e:i=xs.length:=by omega
   subst e
   exact .inl ⟨⟨xs,qa,Nat.le_refl _⟩,hd σ H p⟩
theorem Jx (ns:List Nat):∀i,i<=ns.length->preSum (λj=>((ns.getD j 0:Nat):Int)) i=(((ns.take i).sum:Nat):Int)
 | 0,_=>by simp [preSum]
 | i+1,h=>by
   have hi:i < ns.length:=h
   show preSum _ i+_=_
   rw[Jx ns i (Nat.le_of_lt hi),List.take_add_one,List.getElem?_eq_getElem hi,List.sum_append]
   simp [List.getD_eq_getElem?_getD,List.getElem?_eq_getElem hi]
theorem ZX (ns:List Nat) (i:Nat):(ns.take i).sum<=ns.sum:=by
 have h:(ns.take i++ns.drop i).sum=ns.sum:=by rw[List.take_append_drop]
 rw[List.sum_append]at h
 omega
theorem WP (ns:List Nat) (i:Nat):ns.getD i 0<=ns.sum:=by
 have h:=ZX ns (i+1)
 rw[List.take_add_one,List.sum_append]at h
 rw[List.getD_eq_getElem?_getD]
 cases e:ns[i]? with
 | none=>exact Nat.zero_le _
 | some x=>
   rw[e]at h
   simp at h ⊢
   omega
section
variable {X:Cx}
theorem Xa (hc:X.calm=true):j5 X (.builtin "sum") (λxs H Q=>∃(p:Addr) (ns:List Nat),xs=[.ref p]/\SqL X.K H p (ns.map λn=>V.int ((n:Nat):Int))/\ns.sum < 2^62/\Q (.int (ns.sum:Nat)) H):=by
 intro pins s σ H xs us Q I r h
 obtain⟨p,ns,rfl,hq,hs,q⟩:=h
 obtain⟨u,rfl,rx⟩:=Qv r
 cases rx
 obtain⟨its,rv,pl,hz⟩:=I.list hq
 have hlt:p < s.heap.objs.size:=by
   obtain⟨o,n,e,_⟩:=pl
   exact Heap.lt_size e
 have hn:its.toArray.size=ns.length:=by
   have:=rv.length
   rw[List.length_map]at this
   simp only[List.size_toArray]
   omega
 have hh:X.A.in1.handled=none:=I.ok.hd hc
 refine call_sum_walk (wpAny_pyIter_list pl.isList ?_)
 refine⟨s.heap.objs.size,[s.heap.objs.size,p],[s.heap.objs.size],its.toArray.size,λi v=>its.toArray[i]?=some v,_,λj=>((ns.getD j 0:Nat):Int),rfl,Walks.list hh s.heap.objs.size p (Nat.ne_of_lt hlt) its.toArray,
   ⟨⟨_,Heap.get?_push_size _ rfl,rfl,rfl⟩,pl.isList.at λo e=>Heap.get?_push_of_some _ e⟩,?_,?_,?_,λh' tk t' hk=>?_⟩
 . intro b hb
   show b < (s.heap.push _).objs.size
   rw[Heap.size_push]
   simp only[List.mem_cons,List.mem_nil_iff,or_false]at hb
   rcases hb with e | e
   . rw[e];exact Nat.lt_succ_self _
   . rw[e];exact Nat.lt_succ_of_lt hlt
 . intro i v hP
   have hi:its[i]?=some v:=by simpa using hP
   cases e:ns[i]? with
   | none=>
     exfalso
     have h1:(ns.map λn=>V.int ((n:Nat):Int))[i]?=none:=by rw[List.getElem?_map,e];rfl
     rw[qF.none_of rv h1]at hi
     cases hi
   | some b=>
     have h1:(ns.map λn=>V.int ((n:Nat):Int))[i]?=some (V.int b):=by rw[List.getElem?_map,e];rfl
     obtain⟨u,hu,ru⟩:=rv.get h1
     rw[hi]at hu
     cases hu
     obtain⟨t,rfl⟩:=ru
     refine⟨t,?_⟩
     show Value.int b t=.int ((ns.getD i 0:Nat):Int) t
     rw[List.getD_eq_getElem?_getD,e]
     rfl
 . intro j hj
   rw[hn]at hj
   have h1:=WP ns j
   have h2:=ZX ns (j+1)
   have h3:=Jx ns (j+1) hj
   refine⟨⟨?_,?_⟩,⟨?_,?_⟩⟩
   . show -(2^63)<=((ns.getD j 0:Nat):Int)
     omega
   . show ((ns.getD j 0:Nat):Int) < 2^63
     omega
   . rw[h3];omega
   . rw[h3];omega
 . rw[hn,Jx ns _ (Nat.le_refl _),List.take_of_length_le (Nat.le_refl _)]
   refine⟨.int (ns.sum:Nat),H,?_,⟨_,rfl⟩,q⟩
   exact I.kept (h':=h') (t':=tk) λb o e=>hk b o (by
     intro z
     have z':b=s.heap.objs.size:=by simpa using z
     exact absurd (Heap.lt_size e) (by rw[z'];exact Nat.lt_irrefl _)) (Heap.get?_push_of_some _ e)
end
end L2
set_option Elab.async false
set_option linter.all false
set_option maxRecDepth 100000
set_option maxHeartbeats 4000000
namespace L2
open PySem PySem.Spec PyProof.Rows
structure Fly (fs:List Addr) (ex:List Addr) (h h':Heap):Prop where
 keep:∀b o,b∉fs->b∉ex->h.get? b=some o->h'.get? b=some o
 slot:∀b o,b∈fs->b∉ex->h.get? b=some o->∃sl,h'.get? b=some {o with slots:=sl}
section
variable {M:Model} {A:Around} {E:Value->Shared->Prop} {s:Shared} {base:Heap} {env:Env} {outer:List Env} {L e:Addr} {cl head:Value} {d:Option Addr} {vs:Array Value} {had:Bool} {Q:Unit->Shared->Prop}
end
structure Track (ex:List Addr) (n:Nat) (H H':Hp):Prop where
 ext:∀b∈ex,∃φ,H b=some (.ext φ)
 same:∀b o,b∉ex->H b=some o->H' b=some o
 no:∀b,b < n->H b=none->H' b=none
section
variable {P:Program} {w:World} {fs ex:List Addr} {H H':Hp} {h h':Heap}
end
end L2
namespace L2
open PySem PySem.Spec PyProof.Rows
section
variable {X:Cx} {pins:List (Addr×Obj)} {σ:St} {H H':Hp} {s:Shared} {h':Heap} {ex:List Addr}
end
section
variable {P:Program} {w:World} {K:PySem.W.Frag} {mg:Str->Option Value} {base:Heap} {N:List Str} {qual:Str} {scope:Scope} {f:Addr} {cd:Value} {A:Around} {outer:List Env} {s₀:Shared} {H₀:Hp} {E:XK}
end
end L2
set_option Elab.async false
set_option linter.all false
set_option maxRecDepth 100000
set_option maxHeartbeats 4000000
namespace L2
open PySem PySem.Spec PyProof.Rows
section
variable {M:Model} {A:Around} {E:Value->Shared->Prop} {s:Shared} {env:Env} {C:Addr}
end
section
variable {X:Cx} {E:XK} {e:Expr} {te:TE} {pos:Pos}
end
end L2
set_option Elab.async false
set_option linter.all false
set_option maxRecDepth 100000
set_option maxHeartbeats 4000000
namespace L2
open PySem PySem.Spec PyProof.Rows
section
variable {M:Model} {A:Around} {E:Value->Shared->Prop}
end
end L2
set_option Elab.async false
set_option linter.all false
set_option maxRecDepth 100000
set_option maxHeartbeats 4000000
namespace L2
open PySem PySem.Spec PyProof.Rows
section
variable {X:Cx} {CX:W7} {k:Nat} {f C:Addr} {fd:FuncData} {ps:List Str} {sp:Sp} {dvs:List V} {ds:List Value} {E:St->XK} {x m:Str} {p pos apos:Pos} {e o:Expr} {es:List Expr} {ta:TE} {t:TA}
end
end L2
set_option Elab.async false
set_option linter.all false
set_option maxRecDepth 100000
set_option maxHeartbeats 4000000
namespace L2
open PySem PySem.Spec PyProof.Rows
section
variable {X:Cx} {pins:List (Addr×Obj)} {σ:St} {H:Hp} {s:Shared} {a b:Addr} {kvs more:List (qA×V)} {A:Around} {E:Value->Shared->Prop}
end
section
variable {X:Cx} {o e:Expr} {apos cpos:Pos} {td ty:TE}
end
theorem N0 {us:List Value} (h:us.length=0):us=[]:=List.eq_nil_of_length_eq_zero h
theorem wR {us:List Value} {n:Nat} (h:us.length=n+1):∃a r,us=a::r/\r.length=n:=by
 cases us with
 | nil=>cases h
 | cons a r=>exact⟨a,r,rfl,Nat.succ.inj h⟩
theorem Qn {us:List Value} (h:us.length=1):∃a,us=[a]:=by
 obtain⟨a,r,rfl,h'⟩:=wR h
 exact⟨a,by rw[N0 h']⟩
theorem ZN {us:List Value} (h:us.length=2):∃a b,us=[a,b]:=by
 obtain⟨a,r,rfl,h'⟩:=wR h
 obtain⟨b,rfl⟩:=Qn h'
 exact⟨a,b,rfl⟩
theorem wS {us:List Value} (h:us.length=3):∃a b c,us=[a,b,c]:=by
 obtain⟨a,r,rfl,h'⟩:=wR h
 obtain⟨b,c,rfl⟩:=ZN h'
 exact⟨a,b,c,rfl⟩
theorem KO {us:List Value} (h:us.length=4):∃a b c d,us=[a,b,c,d]:=by
 obtain⟨a,r,rfl,h'⟩:=wR h
 obtain⟨b,c,d,rfl⟩:=wS h'
 exact⟨a,b,c,d,rfl⟩
end L2
set_option Elab.async false
set_option linter.all false
set_option maxRecDepth 100000
set_option maxHeartbeats 4000000
namespace L2
open PySem PySem.Spec PyProof.Rows
section
variable {X:Cx} {pins:List (Addr×Obj)} {σ:St} {H:Hp} {s:Shared} {E:Value->Shared->Prop} {a:Value}
end
section
variable {X:Cx} {f:Str} {e:Expr} {pos:Pos} {ta:TE} {bm:List Value}
end
end L2
set_option Elab.async false
set_option linter.all false
set_option maxRecDepth 100000
set_option maxHeartbeats 4000000
namespace PySem
open PySem.Spec
namespace F
theorem plain_dupd_loop:plainId "dict.update.loop"=true:=by decide+kernel
theorem entry_dupd_loop:entryFor table "dict.update.loop"=some Builtin.«dict.update.loop»:=entryFor_of_fast (by kernel_rfl)
end F
theorem Heap.DictOf.keepsAt {prog:Program} {w:World} {κ:Type} [DecidableEq κ] {knd:KeyKind prog w κ} {h h':Heap} {a:Addr} {kvs:List (κ×Value)} (hm:h.DictOf knd a kvs) (k:∀o,h.get? a=some o->h'.get? a=some o):h'.DictOf knd a kvs:=
 let ⟨o,es,ep,ho,r⟩:=hm;⟨o,es,ep,k o ho,r⟩
section
variable {prog:Program} {w:World} {A:Around} {R:Result->Shared->Prop} {I:Addr} {fp wr:List Addr} {n:Nat} {P:Nat->Value->Prop} {St:Nat->Heap->Prop} {κ:Type} [DecidableEq κ] {knd:KeyKind prog w κ}
def Gm (knd:KeyKind prog w κ) (h:Heap) (wr:List Addr) (d:Addr) (v:Value) (kv:κ×Value):Prop:=∃p o c k,v=.ref p/\h.get? p=some o/\o.cls=.type "tuple"/\o.data=.seq #[k,kv.2] c/\knd.is kv.1 k=true/\p∉wr/\p≠d
theorem ZE (W:Walks prog w A.in1 I fp wr n P St) (kv:Nat->κ×Value) (d:Addr) (hdf:d∉fp) (hn:n<=1000):
   ∀(k i:Nat) (s:Shared) (t:Tok) (kvs:List (κ×Value)),n - i=k->i<=n->St i s.heap->s.heap.DictOf knd d kvs->kvs.length<=i->(∀j v,P j v->Gm knd s.heap wr d v (kv j))->
   (∀h' tk,h'.DictOf knd d (merged kvs (((List.range n).drop i).map kv))->(∀b o,b∉wr->b≠d->s.heap.get? b=some o->h'.get? b=some o)->R (.ok (.ret .none)) {s with heap:=h',toks:=tk})->
   codeAny (model prog w) A (.builtin "dict.update.loop" ⟨[.ref d,.ref I,.int i t,.none],[]⟩) R s:=by
 have hdw:d∉wr:=λh=>hdf (W.sub _ h)
 intro k
 induction k with
 | zero=>
   intro i s t kvs hk hi hst hd hl hp hR
   have hin:i=n:=by omega
   subst hin
   refine codeAny_builtin F.entry_dupd_loop ?_
   rw[Around.under_plainId F.plain_dupd_loop _]
   show wpAny _ A.in1 (pyNext (.ref I) >>= _) _ _ s
   refine wpAny_bind (W.done s _ _ hst λh' tk hk'=>?_)
   show wpAny _ A.in1 (Builtin.Dict.addKeywords d [] >>= _) _ _ _
   refine wpAny_bind (wpAny_pure (wpAny_pure (hR h' tk ?_ λb o hb _ e=>hk' b o hb e)))
   rw[List.drop_of_length_le (by simp)]
   exact hd.keepsAt λo e=>hk' d o hdw e
 | succ k ih=>
   intro i s t kvs hk hi hst hd hl hp hR
   have hlt:i < n:=by omega
   refine codeAny_builtin F.entry_dupd_loop ?_
   rw[Around.under_plainId F.plain_dupd_loop _]
   show wpAny _ A.in1 (pyNext (.ref I) >>= _) _ _ s
   refine wpAny_bind (W.item i s _ _ hlt hst λv h' tk hP hst' hk'=>?_)
   obtain⟨p,o,c,key,rfl,ho,hc,hdat,hkey,hpw,hpd⟩:=hp i v hP
   have ho':=hk' p o hpw ho
   have hd':h'.DictOf knd d kvs:=hd.keepsAt λo e=>hk' d o hdw e
   have ty:(⟨h',s.gens,s.drawn,tk,s.os⟩:Shared).TypeIs (.ref p) "tuple":=⟨o,ho',hc⟩
   refine wpAny_bind (wpAny_holding (wpAny_bind (wpAny_tryCatch ?_)))
   unfold Builtin.Dict.pairItems
   refine wpAny_bind (wpAny_typeOf ty ?_)
   rw[if_pos (by decide)]
   refine wpAny_bind (wpAny_seqItems ho' hdat (wpAny_pure ?_))
   refine(show wpAny _ _ (holding [key,(kv i).2] (dictSet d key (kv i).2)) _ _ _ from wpAny_holding (wpAny_dictSet_pairs hkey hd' (λh'' dd hs=>?_) (by rw[sizeLine_eq];omega)))
   refine wpAny_pure ⟨plainId_quiet F.plain_dupd_loop _,?_⟩
   have keep:∀b o,b∉wr->b≠d->s.heap.get? b=some o->h''.get? b=some o:=λb o hb hbd e=>(hs.2 b hbd).trans (hk' b o hb e)
   have len:(stored kvs (kv i).1 (kv i).2).length<=i+1:=by
     have:=stored_length_le kvs (kv i).1 (kv i).2
     omega
   refine ih (i+1) _ _ (stored kvs (kv i).1 (kv i).2) (by omega) hlt (W.frame _ _ _ hst' λb hb o e=>(hs.2 b (λz=>hdf (z▸hb))).trans e) dd len (λj v hj=>?_) λh3 tk3 d3 k3=>?_
   . obtain⟨p,o,c,k,e1,e2,r⟩:=hp j v hj
     exact⟨p,o,c,k,e1,keep p o r.2.2.2.1 r.2.2.2.2 e2,r⟩
   . refine hR h3 tk3 ?_ λb o hb hbd e=>k3 b o hb hbd (keep b o hb hbd e)
     have e:(List.range n).drop i=i::(List.range n).drop (i+1):=by
       rw[List.drop_eq_getElem_cons (by simpa using hlt)]
       simp
     rw[e]
     exact d3
end
section
variable {prog:Program} {w:World} {A:Around} {E:Value->Shared->Prop} {s:Shared} {κ:Type} [DecidableEq κ] {knd:KeyKind prog w κ}
theorem XM:typeLookup (.type "list") "keys"=pure none:=by rw[typeLookup_type,builtinLookup_eq_fast];kernel_rfl
theorem XO {a:Addr} {o:Obj} {xs:Array Value} {k:Nat} {Q:Option Value->Shared->Prop} (hx:s.heap.get? a=some o) (hc:o.cls=.type "list") (hdat:o.data=.seq xs k) (hd:o.dict=none) (hA:A.handled=none)
   (h:∀h' tk,(∀b o,s.heap.get? b=some o->h'.get? b=some o)->Q none {s with heap:=h',toks:=tk}):wpAny (model prog w) A (getAttr? (.ref a) "keys") Q E s:=by
 obtain⟨c,dct,dat,sl⟩:=o
 simp only at hc hdat hd
 subst hc hdat hd
 obtain⟨hp,g,d,tk,os⟩:=s
 have hT:∀tk',(⟨hp,g,d,tk',os⟩:Shared).TypeIs (.ref a) "list":=λ_=>⟨_,hx,rfl⟩
 have f1:=sub_AttributeError
 have f3:=F.slot_list_getattribute.lookup
 have f4:=F.slot_list_getattribute.bind (.ref a)
 have f5:=am_list_getattr_none
 unfold getAttr? getAttrBy? getAttrBy
 repeat (any_goals (first | assumption | exact hT _ | ((with_reducible show wpAny _ _ (call (Value.builtin "list.__getattribute__") _ _) _ _ _);refine call_meets F.slot_list_getattribute (hT _) am_entry_list_getattribute (F.args_list_getattribute_2 _ _) (meets_getattribute_miss_list a xs k sl "keys" _ XM (by decide+kernel)) ⟨hx,hA,λh' tk' e hx'=>?_⟩) | wp_step))
 obtain⟨t',u',he⟩:=hx'.there
 show wpAny _ _ (getattributeRaised _ _ _ _ _ _ _) _ _ _
 unfold getattributeRaised
 repeat (any_goals (first | assumption | wp_step))
 exact h _ _ hx'.of.keeps
theorem zf {src:Addr} {items:Array Value} {kv:Nat->κ×Value} {Q:Value->Shared->Prop} (pl:PlainL s.heap src items) (hp:∀j v,items[j]?=some v->∃p o c key,v=.ref p/\s.heap.get? p=some o/\o.cls=.type "tuple"/\o.data=.seq #[key,(kv j).2] c/\knd.is (kv j).1 key=true)
   (hn:items.size<=1000) (hA:A.handled=none)
   (h:∀h' tk,h'.DictOf knd s.heap.objs.size (merged [] ((List.range items.size).map kv))->(∀b o,s.heap.get? b=some o->h'.get? b=some o)->Q (.ref s.heap.objs.size) {s with heap:=h',toks:=tk}):
   wpAny (model prog w) A (call (.type "dict") [.ref src]) Q E s:=by
 refine callType_codes (Q₁:=λobj s₁=>obj=.ref s.heap.objs.size/\s₁={s with heap:=s.heap.push {cls:=.type "dict",data:=.dict #[]}}) F.kt_called_dict (F.kt_typeCall_dict_1 _) F.entry_dict_init (kt_code_dict_new _ ⟨rfl,rfl⟩) ?_
 rintro obj s₁ ⟨rfl,rfl⟩
 have hnew:(s.heap.push {cls:=.type "dict",data:=.dict #[]}).DictOf knd s.heap.objs.size []:=Heap.DictOf.new s.heap
 have hp0:∀b o,s.heap.get? b=some o->(s.heap.push {cls:=.type "dict",data:=.dict #[]}).get? b=some o:=λb o e=>Heap.get?_push_of_some _ e
 obtain⟨ol,nl,ho,hc,hd,hdat⟩:=id pl
 have ty:(⟨s.heap.push {cls:=.type "dict",data:=.dict #[]},s.gens,s.drawn,s.toks,s.os⟩:Shared).TypeIs (.ref src) "list":=⟨ol,hp0 _ _ ho,hc⟩
 refine⟨hnew.typeIs,F.args_dict_init_2 _ _,?_⟩
 unfold Builtin.«dict.__init__»
 refine wpAny_bind ?_
 unfold Builtin.Dict.selfAndRest
 refine wpAny_bind (wpAny_notOrdered_dict hnew.typeIs ?_)
 show wpAny _ _ (pure (s.heap.objs.size,[Value.ref src])) _ _ _
 refine wpAny_pure ?_
 show wpAny _ _ (Builtin.Dict.updateFrom "dict.__init__" s.heap.objs.size (.ref src) [] .none) _ _ _
 unfold Builtin.Dict.updateFrom
 refine wpAny_bind (wpAny_typeOf ty ?_)
 rw[if_pos (by decide)]
 refine wpAny_bind (XO (hp0 _ _ ho) hc hdat hd hA λh1 tk1 k1=>?_)
 rw[if_pos (show (none:Option Value).isNone=true from rfl)]
 refine wpAny_bind (wpAny_rule ?_)
 have pl1:PlainL h1 src items:=⟨ol,nl,k1 _ _ (hp0 _ _ ho),hc,hd,hdat⟩
 have hlt:src < h1.objs.size:=Heap.lt_size (k1 _ _ (hp0 _ _ ho))
 have hnew1:h1.DictOf knd s.heap.objs.size []:=hnew.keepsAt λo e=>k1 _ o e
 have hld:s.heap.objs.size < h1.objs.size:=by
   obtain⟨o,_,_,e,_⟩:=hnew1
   exact Heap.lt_size e
 refine wpAny_bind (wpAny_pyIter_list pl1.isList ?_)
 refine wpAny_pure ⟨plainId_quiet F.plain_dupd_loop _,?_⟩
 have W:=Walks.list (prog:=prog) (w:=w) (A:=A.in1.in1) hA h1.objs.size src (Nat.ne_of_lt hlt) items
 have nsrc:s.heap.objs.size≠src:=Ne.symm (Nat.ne_of_lt (Heap.lt_size ho))
 refine ZE (A:=A.in1) W kv s.heap.objs.size (by simp only[List.mem_cons,List.mem_nil_iff,or_false,not_or];exact⟨Nat.ne_of_lt hld,nsrc⟩) hn items.size 0 _ _ [] (by omega) (Nat.zero_le _)
   ⟨⟨_,Heap.get?_push_size _ rfl,rfl,rfl⟩,pl1.isList.at λo e=>Heap.get?_push_of_some _ e⟩ (hnew1.push _) (Nat.zero_le _) (λj v hj=>?_) λh2 tk2 d2 k2=>⟨rfl,h h2 tk2 d2 λb o e=>?_⟩
 . obtain⟨p,o,c,key,e1,e2,e3,e4,e5⟩:=hp j v hj
   have e2':=k1 _ _ (hp0 _ _ e2)
   refine⟨p,o,c,key,e1,Heap.get?_push_of_some _ e2',e3,e4,e5,?_,Nat.ne_of_lt (Heap.lt_size e2)⟩
   simp only[List.mem_cons,List.mem_nil_iff,or_false]
   exact Nat.ne_of_lt (Heap.lt_size e2')
 . have e':=k1 _ _ (hp0 _ _ e)
   refine k2 b o ?_ (Nat.ne_of_lt (Heap.lt_size e)) (Heap.get?_push_of_some _ e')
   simp only[List.mem_cons,List.mem_nil_iff,or_false]
   exact Nat.ne_of_lt (Heap.lt_size e')
end
end PySem
namespace L2
open PySem PySem.Spec PyProof.Rows
section
variable {X:Cx} {pins:List (Addr×Obj)} {σ:St} {H:Hp} {s:Shared}
def kZ (K:PySem.W.Frag):List V->Hp->VK->Prop:=λxs H Q=>∃(p:Addr) (ps:List Addr) (kvs:List (qA×V)),xs=[.ref p]/\SqL K H p (ps.map V.ref)/\ps.length=kvs.length/\(∀(i:Nat) (a:Addr) (kv:qA×V),ps[i]?=some a->kvs[i]?=some kv->zE K H a [kV kv.1,kv.2])/\kvs.length<=1000/\
 ∀d,H d=none->Q (.ref d) (upd H d (.dK (Qt [] kvs)))
theorem z8 (I:qy X pins σ H s):∀(ps:List Addr) (kvs:List (qA×V)),ps.length=kvs.length->(∀(i:Nat) (a:Addr) (kv:qA×V),ps[i]?=some a->kvs[i]?=some kv->zE X.K H a [kV kv.1,kv.2])->
   ∃rs:List (qA×Value),KV kvs rs/\rs.length=ps.length/\∀(i:Nat) (a:Addr),ps[i]?=some a->∃kv o c key,rs[i]?=some kv/\s.heap.get? a=some o/\o.cls=.type "tuple"/\o.data=.seq #[key,kv.2] c/\(qK X.prog X.w).is kv.1 key=true
 | [],[],_,_=>⟨[],.nil,rfl,λi a e=>by simp at e⟩
 | [],_::_,h,_=>by cases h
 | _::_,[],h,_=>by cases h
 | a::ps,kv::kvs,h,k=>by
   obtain⟨rs,r1,r2,r3⟩:=z8 I ps kvs (Nat.succ.inj h) λi a' kv' e1 e2=>k (i+1) a' kv' (by simpa using e1) (by simpa using e2)
   obtain⟨its,rv,⟨o,e,c1,n1,d1⟩,_⟩:=I.tuple (k 0 a kv rfl rfl)
   cases rv with
   | cons ra rt=>
     cases rt with
     | cons rb rn=>
       cases rn
       rename_i u1 u2
       refine⟨(kv.1,u2)::rs,.cons ⟨rfl,rb⟩ r1,by simp [r2],λi a' e'=>?_⟩
       cases i with
       | zero=>
         cases e'
         exact⟨_,o,n1,u1,rfl,e,c1,d1,Z3 ra⟩
       | succ i=>exact r3 i a' (by simpa using e')
theorem Zb (hc:X.calm=true):j5 X (.type "dict") (kZ X.K):=by
 intro pins s σ H xs us Q I r h
 obtain⟨p,ps,kvs,rfl,hl,le,hps,hz,q⟩:=h
 obtain⟨u,rfl,ru⟩:=Qv r
 cases ru
 obtain⟨its,rv,pl,_⟩:=I.list hl
 obtain rfl:=YI rv
 obtain⟨rs,r1,r2,r3⟩:=z8 I ps kvs le hps
 have hsz:(ps.map Value.ref).toArray.size=rs.length:=by simp [r2]
 have hR:(List.range (ps.map Value.ref).toArray.size).map (λj=>(rs[j]?).getD (Sum.inl 0,Value.none))=rs:=by
   rw[hsz]
   refine List.ext_getElem? λi=>?_
   rw[List.getElem?_map]
   by_cases hi:i < rs.length
   . rw[List.getElem?_range hi,List.getElem?_eq_getElem hi]
     simp [hi]
   . rw[List.getElem?_eq_none (by rw[List.length_range];omega),List.getElem?_eq_none (by omega)]
     rfl
 refine zf (knd:=qK X.prog X.w) (kv:=λj=>(rs[j]?).getD (Sum.inl 0,Value.none)) pl (λj v hj=>?_) (by rw[hsz,r2,le];exact hz) (I.ok.hd hc) λh' tk dd kp=>?_
 . have hj':(ps.map Value.ref)[j]?=some v:=by simpa using hj
   rw[List.getElem?_map]at hj'
   cases e:ps[j]? with
   | none=>rw[e]at hj';cases hj'
   | some a=>
     rw[e]at hj'
     obtain⟨kv,o,c,key,f1,f2,f3,f4,f5⟩:=r3 j a e
     refine⟨a,o,c,key,(Option.some.inj hj').symm,f2,f3,?_,?_⟩
     . show o.data=.seq #[key,((rs[j]?).getD (Sum.inl 0,Value.none)).2] c
       rw[f1]
       exact f4
     . show (qK X.prog X.w).is ((rs[j]?).getD (Sum.inl 0,Value.none)).1 key=true
       rw[f1]
       exact f5
 . rw[hR]at dd
   have hn:=I.hok.fresh (Nat.le_refl s.heap.objs.size)
   have big:(s.heap.objs.size==sysModules)=false:=beq_eq_false_iff_ne.mpr (Ne.symm (Nat.ne_of_lt I.big))
   have hlen:(Qt [] kvs).length<=sizeLine:=by
     have:=QQ kvs []
     rw[List.length_nil]at this
     rw[sizeLine_eq]
     omega
   exact⟨.ref s.heap.objs.size,_,I.laid (a:=s.heap.objs.size) (o:=.dK (Qt [] kvs)) (h':=h') (t':=tk) kp (Nat.le_refl _) (XW hlen big (r1.merge .nil) dd),rfl,q _ hn⟩
end
end L2
set_option Elab.async false
set_option linter.all false
set_option maxRecDepth 100000
set_option maxHeartbeats 4000000
namespace L2
open PySem PySem.Spec PySem.W PyProof.Rows
theorem yy {α:Type} {l:List α} (nd:l.Nodup) {i j:Nat} {hi:i < l.length} {hj:j < l.length} (e:l[i]=l[j]):i=j:=by
 have h:=List.pairwise_iff_getElem.mp nd
 rcases Nat.lt_trichotomy i j with c | c | c
 . exact absurd e (h i j hi hj c)
 . exact c
 . exact absurd e.symm (h j i hj hi c)
section
variable {α β:Type} {lt:Nat->Nat->Bool} {n:Nat}
def evT (lt:Nat->Nat->Bool):KasT α->α
 | .ret a=>a
 | .ask i j k=>evT lt (k (lt i j))
end
def ltS (zs:List Str) (i j:Nat):Bool:=decide ((zs.getD i "").cps.toList < (zs.getD j "").cps.toList)
def srt (zs:List Str):List Nat:=if zs.length < 2 then List.range zs.length else (evT (ltS zs) (kas_sort zs.length)).toList
section
variable {P:Program} {w:World} {B:Around} {F:Value->Shared->Prop} {z:Shared}
end
section
variable {X:Cx} {o:Expr} {td:TE} {p1 p2 pos1 pos2 ap cp:Pos}
end
section
variable {X:Cx}
def Rr (K:PySem.W.Frag):R2:=λx y H Q=>∃a b xs ys,x=.ref a/\y=.ref b/\SqL K H a xs/\SqL K H b ys/\xs.length+ys.length<=sizeLine/\∀l,H l=none->Q (.ref l) (upd H l (.lst (xs++ys)))
theorem Paired.app {α β:Type} {G:α->β->Prop}:∀{l m:List α} {l' m':List β},Paired G l l'->Paired G m m'->Paired G (l++m) (l'++m')
 | _,_,_,_,.nil,h=>h
 | _,_,_,_,.cons a r,h=>.cons a (Paired.app r h)
theorem Uu:Zc X (binaryOp .Add) (Rr X.K):=by
 intro pins s σ H x y v u Q I rx ry h
 obtain⟨a,b,xs,ys,rfl,rfl,ha,hb,hz,q⟩:=h
 cases rx
 cases ry
 obtain⟨its,rv,pl,_⟩:=I.list ha
 obtain⟨its2,rv2,pl2,_⟩:=I.list hb
 have l1:=rv.length
 have l2:=rv2.length
 obtain⟨⟨cls,dd,data,sl⟩,ho,hc,n,hd⟩:=id pl.isList
 obtain⟨⟨cls2,dd2,data2,sl2⟩,ho2,hc2,n2,hd2⟩:=id pl2.isList
 simp only at hc hd hc2 hd2
 subst hc hd hc2 hd2
 have e:its.toArray++its2.toArray=(its++its2).toArray:=by simp
 refine concat_meets ⟨_,ho,rfl⟩ ⟨_,ho2,rfl⟩ noFill_list_add seq_list_add PySem.F.slot_list_add PySem.F.entry_list_add (PySem.F.args_list_add_2 _ _) (list_addW a b its.toArray its2.toArray n n2 dd dd2 sl sl2 (by simp only[List.size_toArray];omega)) ⟨ho,ho2,?_⟩
 rw[e]
 exact⟨.ref s.heap.objs.size,_,I.laid (t':=s.toks) (o:=.lst (xs++ys)) (λb u h=>Heap.get?_push_of_some _ h) (Nat.le_refl _) ⟨by rw[List.length_append];exact hz,its++its2,_,Paired.app rv rv2,Heap.get?_push_size _ rfl⟩,rfl,q _ (I.hok.fresh (Nat.le_refl _))⟩
theorem vw:Gz X "dict.clear" (λx xs H Q=>∃(a:Addr) (kvs:List (qA×V)),x=.ref a/\xs=[]/\H a=some (.dK kvs)/\Q .non (upd H a (.dK []))):=by
 intro pins s σ H x xs v us Q I rx rs h
 obtain⟨a,kvs,rfl,rfl,e,q⟩:=h
 cases rx
 cases rs
 obtain⟨z,hd,vs,rel,dd⟩:=xj I.hok e
 refine call_meetsIn PySem.F.slot_dict_clear dd.typeIs PySem.F.entry_dict_clear (PySem.F.args_dict_clear_1 _) (meets_dict_clear (qK X.prog X.w) a) ⟨vs,dd,by rw[<-Paired.length rel];exact z,λh' dd' hs=>?_⟩
 have he:∃q,h'.get? a=some q:=let ⟨q,_,_,hq,_⟩:=dd';⟨q,hq⟩
 exact⟨.non,_,ZD (t':=s.toks) I (by rw[e];exact True.intro) hs he (XW (Nat.zero_le _) hd .nil dd'),rfl,q⟩
end
end L2
set_option Elab.async false
set_option linter.all false
set_option maxRecDepth 100000
set_option maxHeartbeats 4000000
namespace L2
open PySem PySem.Spec PySem.W PyProof.Rows
section
variable {X:Cx}
def Rn (K:PySem.W.Frag):R2:=λx y H Q=>∃(a b:Addr) (xs:List V),x=.ref a/\y=.ref b/\SqL K H a xs/\SqL K H b []/\Q (.bl (!xs.isEmpty)) H
theorem Us (hu:X.A.units < cLine):Zc X (compareOp .NotEq) (Rn X.K):=by
 intro pins s σ H x y v u Q I rx ry h
 obtain⟨a,b,xs,rfl,rfl,ha,hb,q⟩:=h
 cases rx
 cases ry
 obtain⟨its,rv,pl,_⟩:=I.list ha
 obtain⟨its2,rv2,pl2,_⟩:=I.list hb
 have l2:its2=[]:=List.eq_nil_of_length_eq_zero rv2.length.symm
 subst l2
 cases xs with
 | nil=>
   have l1:its=[]:=List.eq_nil_of_length_eq_zero rv.length.symm
   subst l1
   exact EqBoolInt.of_rcne (SeqAt.RcNeAt.lists (e:=λ_=>true) pl.isList pl2.isList rfl hu λj h1 h2=>absurd h1 (Nat.not_lt_zero j)) ⟨.bl _,H,I,rfl,q⟩
 | cons x xs=>
   cases its with
   | nil=>cases rv
   | cons u' us'=>exact EqBoolInt.of_rcne (SeqAt.RcNeAt.lists_lengths pl.isList pl2.isList (by simp) hu) ⟨.bl true,H,I,rfl,q⟩
end
end L2
set_option Elab.async false
set_option linter.all false
set_option maxRecDepth 100000
set_option maxHeartbeats 4000000
namespace L2
open PySem PySem.Spec PySem.W PyProof.Rows
section
variable {P:Program} {w:World} {B:Around} {F:Value->Shared->Prop} {z:Shared}
end
section
variable {X:Cx}
end
end L2
set_option Elab.async false
set_option linter.all false
set_option maxRecDepth 100000
set_option maxHeartbeats 4000000
namespace L2
open PySem PySem.Spec PySem.W PyProof.Rows
section
variable {prog:Program} {w:World} {A:Around} {R:Result->Shared->Prop} {I:Addr} {fp wr:List Addr} {G:Array GenState->Array GenState->Prop} {n:Nat} {P:Nat->Value->Prop} {St:Nat->Shared->Prop}
end
section
variable {prog:Program} {w:World} {A:Around} {E:Value->Shared->Prop} {s:Shared}
end
section
variable {X:Cx} {e:Expr} {te:TE} {p1 p2 pos1 pos2:Pos}
end
end L2
set_option Elab.async false
set_option linter.all false
set_option maxRecDepth 100000
set_option maxHeartbeats 4000000
namespace L2
open PySem PyProof.Rows
theorem Yw {α:Type} {K:PySem.W.Frag} {a D:Addr} {xs:List α} {enc:α->V} {out:α->Option V} {rest:St} {H:Hp} {tt:TT} {te:TE} {Q:Hp->Prop} (hD:H D=none) (ha:H a=some (.lst (xs.map enc))) (len:xs.length < sizeLine)
   (ht:∀x∈xs,∀G,qo H G->∀R:Bool->Hp->Prop,(∀G',qo G G'->R (out x).isSome G')->tt (some (enc x)::rest) G R)
   (he:∀x∈xs,∀v,out x=some v->∀G,qo H G->∀R:V->Hp->Prop,(∀G',qo G G'->R v G')->te (some (enc x)::rest) G R)
   (k:∀G,qo H G->G D=some (.lst (xs.filterMap out))->Q G):Zh (Gr K a) (Qx 0) tt te D (none::rest) H Q:=by
 have sD:qo H (upd H D (.lst [])):=λb o h=>by
   rw[qi (λe=>by rw[e,hD]at h;cases h)]
   exact h
 refine jS (K:=K) (a:=a) (xs:=xs.map enc) (λi σ' G=>(∃v0,σ'=v0::rest)/\qo H G/\G D=some (.lst ((xs.take i).filterMap out))) ⟨⟨none,rfl⟩,sD,qd⟩ (λi σ' G _ ⟨_,s,_⟩=>.of (s _ _ ha)) ?_ ?_
 . rintro i y σ' G hy ⟨⟨v0,rfl⟩,s,hG⟩
   rw[List.getElem?_map]at hy
   cases ex:xs[i]? with
   | none=>rw[ex]at hy;cases hy
   | some x=>
     rw[ex]at hy
     obtain rfl:=(Option.some.inj hy).symm
     have hx:x∈xs:=List.mem_of_getElem? ex
     have et:(xs.take (i+1)).filterMap out=(xs.take i).filterMap out++(out x).toList:=by
       rw[List.take_add_one,ex,List.filterMap_append]
       cases c:out x<;>simp [c]
     show tt (some (enc x)::rest) G _
     refine ht x hx G s _ λG1 s1=>?_
     cases c:out x with
     | none=>
       show if false=true then _ else _
       rw[if_neg Bool.false_ne_true]
       refine⟨⟨_,rfl⟩,λb o h=>s1 _ _ (s _ _ h),?_⟩
       rw[et,c]
       simpa using s1 _ _ hG
     | some v=>
       show if true=true then _ else _
       rw[if_pos rfl]
       refine he x hx v c G1 (λb o h=>s1 _ _ (s _ _ h)) _ λG2 s2=>?_
       refine⟨_,s2 _ _ (s1 _ _ hG),?_,⟨_,rfl⟩,?_,?_⟩
       . refine Nat.lt_of_le_of_lt (List.length_filterMap_le _ _) ?_
         rw[List.length_take]
         omega
       . intro b o h
         rw[qi (λe=>by rw[e,hD]at h;cases h)]
         exact s2 _ _ (s1 _ _ (s _ _ h))
       . rw[et,c]
         exact qd
 . rintro σ' G ⟨_,s,hG⟩
   rw[List.length_map,List.take_of_length_le (Nat.le_refl _)]at hG
   exact k G s hG
theorem UO {α:Type} {K:PySem.W.Frag} {a D:Addr} {xs:List α} {enc:α->V} {out:α->Option V} {rest:St} {H:Hp} {tt:TT} {te:TE} {Q:Hp->Prop} (hD:H D=none) (ha:H a=some (.tup (xs.map enc))) (len:xs.length < sizeLine)
   (ht:∀x∈xs,∀G,qo H G->∀R:Bool->Hp->Prop,(∀G',qo G G'->R (out x).isSome G')->tt (some (enc x)::rest) G R)
   (he:∀x∈xs,∀v,out x=some v->∀G,qo H G->∀R:V->Hp->Prop,(∀G',qo G G'->R v G')->te (some (enc x)::rest) G R)
   (k:∀G,qo H G->G D=some (.lst (xs.filterMap out))->Q G):Zh (Kc K a) (Qx 0) tt te D (none::rest) H Q:=by
 have sD:qo H (upd H D (.lst [])):=λb o h=>by
   rw[qi (λe=>by rw[e,hD]at h;cases h)]
   exact h
 refine UN (K:=K) (a:=a) (xs:=xs.map enc) (λi σ' G=>(∃v0,σ'=v0::rest)/\qo H G/\G D=some (.lst ((xs.take i).filterMap out))) ⟨⟨none,rfl⟩,sD,qd⟩ (λi σ' G _ ⟨_,s,_⟩=>.of (s _ _ ha)) ?_ ?_
 . rintro i y σ' G hy ⟨⟨v0,rfl⟩,s,hG⟩
   rw[List.getElem?_map]at hy
   cases ex:xs[i]? with
   | none=>rw[ex]at hy;cases hy
   | some x=>
     rw[ex]at hy
     obtain rfl:=(Option.some.inj hy).symm
     have hx:x∈xs:=List.mem_of_getElem? ex
     have et:(xs.take (i+1)).filterMap out=(xs.take i).filterMap out++(out x).toList:=by
       rw[List.take_add_one,ex,List.filterMap_append]
       cases c:out x<;>simp [c]
     show tt (some (enc x)::rest) G _
     refine ht x hx G s _ λG1 s1=>?_
     cases c:out x with
     | none=>
       show if false=true then _ else _
       rw[if_neg Bool.false_ne_true]
       refine⟨⟨_,rfl⟩,λb o h=>s1 _ _ (s _ _ h),?_⟩
       rw[et,c]
       simpa using s1 _ _ hG
     | some v=>
       show if true=true then _ else _
       rw[if_pos rfl]
       refine he x hx v c G1 (λb o h=>s1 _ _ (s _ _ h)) _ λG2 s2=>?_
       refine⟨_,s2 _ _ (s1 _ _ hG),?_,⟨_,rfl⟩,?_,?_⟩
       . refine Nat.lt_of_le_of_lt (List.length_filterMap_le _ _) ?_
         rw[List.length_take]
         omega
       . intro b o h
         rw[qi (λe=>by rw[e,hD]at h;cases h)]
         exact s2 _ _ (s1 _ _ (s _ _ h))
       . rw[et,c]
         exact qd
 . rintro σ' G ⟨_,s,hG⟩
   rw[List.length_map,List.take_of_length_le (Nat.le_refl _)]at hG
   exact k G s hG
theorem UP {n:Nat} {D:Addr} {out:Nat->Option V} {rest:St} {H:Hp} {tt:TT} {te:TE} {Q:Hp->Prop} (hD:H D=none) (len:n < sizeLine)
   (ht:∀x,x < n->∀G,qo H G->∀R:Bool->Hp->Prop,(∀G',qo G G'->R (out x).isSome G')->tt (some (.int (x:Int))::rest) G R)
   (he:∀x,x < n->∀v,out x=some v->∀G,qo H G->∀R:V->Hp->Prop,(∀G',qo G G'->R v G')->te (some (.int (x:Int))::rest) G R)
   (k:∀G,qo H G->G D=some (.lst ((List.range n).filterMap out))->Q G):Zh (uD 0 n) (Qx 0) tt te D (none::rest) H Q:=by
 have sD:qo H (upd H D (.lst [])):=λb o h=>by
   rw[qi (λe=>by rw[e,hD]at h;cases h)]
   exact h
 refine QF (λi σ' G=>(∃v0,σ'=v0::rest)/\qo H G/\G D=some (.lst ((List.range i).filterMap out))) ⟨⟨none,rfl⟩,sD,qd⟩ ?_ ?_
 . rintro i σ' G hi ⟨⟨v0,rfl⟩,s,hG⟩
   rw[Int.zero_add]
   have et:(List.range (i+1)).filterMap out=(List.range i).filterMap out++(out i).toList:=by
     rw[List.range_succ,List.filterMap_append]
     cases c:out i<;>simp [c]
   show tt (some (.int (i:Int))::rest) G _
   refine ht i hi G s _ λG1 s1=>?_
   cases c:out i with
   | none=>
     show if false=true then _ else _
     rw[if_neg Bool.false_ne_true]
     refine⟨⟨_,rfl⟩,λb o h=>s1 _ _ (s _ _ h),?_⟩
     rw[et,c]
     simpa using s1 _ _ hG
   | some v=>
     show if true=true then _ else _
     rw[if_pos rfl]
     refine he i hi v c G1 (λb o h=>s1 _ _ (s _ _ h)) _ λG2 s2=>?_
     refine⟨_,s2 _ _ (s1 _ _ hG),?_,⟨_,rfl⟩,?_,?_⟩
     . refine Nat.lt_of_le_of_lt (List.length_filterMap_le _ _) ?_
       rw[List.length_range]
       omega
     . intro b o h
       rw[qi (λe=>by rw[e,hD]at h;cases h)]
       exact s2 _ _ (s1 _ _ (s _ _ h))
     . rw[et,c]
       exact qd
 . rintro σ' G ⟨_,s,hG⟩
   exact k G s hG
end L2
set_option Elab.async false
set_option linter.all false
set_option maxRecDepth 100000
set_option maxHeartbeats 4000000
namespace L2
open PySem PyProof.Rows
section
variable {prog:Program} {w:World} {KK:Type} [DecidableEq KK] {kd:HeapKind prog w KK} {A:Around} {E:Value->Shared->Prop} {s:Shared}
theorem xU {d a:Addr} {ys:List (KK×Addr×Value)} {k:KK} {x:Value} {Q:Value->Shared->Prop} (room:kd.room A) (is:kd.is s.heap k a) (dd:s.heap.DictOfH kd d ys) (fits:ys.length<=sizeLine)
   (old:∀v,(atKey ys k).map (·.2)=some v->Q v {s with toks:=s.toks+kd.draws k})
   (new:(atKey ys k).map (·.2)=none->∀g,g.DictOfH kd d (storedH ys k a x)->Heap.SameBut d s.heap g->Q x {s with heap:=g,toks:=s.toks+kd.draws k}):
   wpAny (model prog w) A (dictSetDefault d (.ref a) x) Q E s:=by
 obtain⟨ob,es,ep,h1,h2,h3,h4,h5,h6⟩:=dd
 have st:∀t:Nat,({s with toks:=t}:Shared).heap=s.heap:=λ_=>rfl
 unfold dictSetDefault
 try with_reducible refine wpAny_holding ?_
 refine wpAny_bind (kd.pyHash room is (wpAny_bind ?_))
 refine wpAny_dictFind_heap (s:={s with toks:=s.toks+kd.draws k}) room is h1 h3 h4 h5 h6 (λno=>?_) (λj p hj=>?_)
 . have nk:=atKey_none_of_get no
   have nm:k∉ys.map (·.1):=not_mem_keys_of_get no
   have e0:(atKey ys k).map (·.2)=none:=by rw[nk];rfl
   refine wpAny_bind (wpAny_rule (wpAny_bind (wpAny_updateDictKeys (hz:=?_) (s:={s with toks:=s.toks+kd.draws k}) h1 h3 (wpAny_pure ?_))))
   . refine new e0 _ ⟨_,_,ep+1,Heap.get?_update_self _ h1 (Obj.isFreed_of_dict (Obj.data_mapDictKeys h3 _)),h2.mapDictKeys _,Obj.data_mapDictKeys h3 _,?_,λq hq=>?_,?_⟩ (Heap.SameBut.update ..)
     . rw[storedH_new nk]
       simp [entryOfKey,h4]
     . have two:q∈ys\/q=(k,a,x):=by
         rw[storedH_new nk]at hq
         simpa using hq
       rcases two with m | rfl
       . exact kd.keeps (h5 q m) h1 h3 (Heap.SameBut.update ..)
       . exact kd.keeps is h1 h3 (Heap.SameBut.update ..)
     . rw[storedH_new nk,List.map_append,List.nodup_append]
       refine⟨h6,List.pairwise_singleton _ _,λu hu v hv e=>nm ?_⟩
       have:v=k:=by simpa using hv
       rw[<-this,<-e]
       exact hu
   . have:=size_of_entries h4
     omega
 . have sk:=atKey_of_get h6 hj
   refine wpAny_bind (wpAny_dictEntries (s:={s with toks:=s.toks+kd.draws k}) h1 h3 ?_)
   rw[entry_at h4 j,hj]
   refine wpAny_bind (wpAny_rule (wpAny_pure (old _ ?_)))
   rw[sk]
   rfl
theorem kH (d a:Addr) (hd:(d==sysModules)=false) (x:Value):
   MeetsIn prog w (Builtin.«dict.setdefault» ⟨[.ref d,.ref a,x],[]⟩) (λA R s=>kd.room A.in1/\∃(k:KK) (ys:List (KK×Addr×Value)),kd.is s.heap k a/\s.heap.DictOfH kd d ys/\ys.length<=sizeLine/\
     (∀v,(atKey ys k).map (·.2)=some v->R (.ok (.ret v)) {s with toks:=s.toks+kd.draws k})/\
     ((atKey ys k).map (·.2)=none->∀g,g.DictOfH kd d (storedH ys k a x)->Heap.SameBut d s.heap g->R (.ok (.ret x)) {s with heap:=g,toks:=s.toks+kd.draws k})):=
 .of_wp λA R s ⟨room,k,ys,is,dd,fits,old,new⟩=>by
   unfold Builtin.«dict.setdefault» Builtin.Dict.keyAndDefault
   refine wpAny_bind (wpAny_bind (wpAny_notOrdered_dict dd.typeIs ?_))
   refine show wpAny _ _ (pure (d,Value.ref a,some x)) _ _ s from wpAny_pure ?_
   show wpAny _ _ (if (d==sysModules)=true then _ else dictSetDefault d (Value.ref a) x >>= _) _ _ s
   rw[if_neg (by rw[hd];decide)]
   exact wpAny_bind (xU room is dd fits (λv e=>wpAny_pure ⟨v,rfl,old v e⟩) λe g dg sg=>wpAny_pure ⟨x,rfl,new e g dg sg⟩)
end
section
variable {X:Cx} {pins:List (Addr×Obj)} {σ:St} {H:Hp} {s:Shared} {a b:Addr} {v:V} {r:Value} {A:Around} {E:Value->Shared->Prop}
theorem Gd {kvs:List (List qA×V)} {k:List qA} {Q:Value->Shared->Prop} (hu:A.units+1 < cLine) (I:qy X pins σ H s) (e:H a=some (.dT kvs)) (eb:H b=some (.tup (k.map kV))) (l:kvs.length < sizeLine) (rv:qI v r)
   (old:∀u,qM kvs k=some u->∀w' s',qy X pins σ H s'->qI u w'->Q w' s') (new:qM kvs k=none->∀s',qy X pins σ (upd H a (.dT (jp kvs k v))) s'->Q r s'):
   wpAny (model X.prog X.w) A (call (.builtin "dict.setdefault") [.ref a,.ref b,r]) Q E s:=by
 obtain⟨z,hd,xs,rel,dd⟩:=u9 I.hok e
 have hz:xs.length<=sizeLine:=by rw[<-Paired.length rel];exact z
 have hl:(jp kvs k v).length<=sizeLine:=by have:=Qm kvs k v;omega
 have rk:=rel.val k
 refine call_meetsIn PySem.F.slot_dict_setdefault dd.typeIs PySem.F.entry_dict_setdefault (PySem.F.args_dict_setdefault_3 _ _ _) (kH (kd:=tupleKind (qK X.prog X.w)) a b hd r) ⟨tupleKind_room_in1 hu,k,xs,J7 I.hok eb,dd,hz,λu eu=>?_,λen g dg sg=>?_⟩
 . rw[eu]at rk
   cases ek:qM kvs k with
   | none=>rw[ek]at rk;cases rk
   | some u'=>
     rw[ek]at rk
     exact old u' ek _ _ (I.tok _) rk
 . rw[en]at rk
   cases ek:qM kvs k with
   | some u'=>rw[ek]at rk;cases rk
   | none=>
     obtain⟨q,es,ep,hq,h2,h3,h4,_,h5⟩:=dg
     refine new ek _ (ZD I (by rw[e];exact True.intro) sg ⟨q,hq⟩ ⟨hl,hd,_,(rel.put k eb rv).keeps λc ys ec=>?_,q,es,ep,hq,h2,h3,h4,h5⟩)
     rw[qi (u3 ec e (λz=>nomatch z))]
     exact ec
end
def Kh (td ty tx:TE):TE:=λσ H Q=>td σ H λx H1=>∃a,x=.ref a/\Mf H1 a/\ty σ H1 λy H2=>tx σ H2 λz H3=>∃(kvs:List (List qA×V)) (k:List qA) (b:Addr),H3 a=some (.dT kvs)/\y=.ref b/\H3 b=some (.tup (k.map kV))/\kvs.length < sizeLine/\
 (∀v,qM kvs k=some v->Q v H3)/\(qM kvs k=none->Q z (upd H3 a (.dT (jp kvs k z))))
section
variable {X:Cx} {o e f:Expr} {apos cpos:Pos} {td ty tx:TE}
theorem yQ (hu:X.A.units+1 < cLine) (ho:JE X o td) (he:JE X e ty) (hf:JE X f tx) (m:M2 X o "setdefault" apos e f cpos):JE X (.Call (.Attribute o "setdefault" apos) [e,f] [] cpos) (Kh td ty tx):=.of (by
 have ho:=ho.to
 have he:=he.to
 have hf:=hf.to
 intro pins s σ H Q I h
 refine wpAny_Call_method m.base m.few m.line PySem.F.plainAttrs_dict PySem.F.slot_dict_setdefault PySem.F.type_dict_setdefault (jd (ho pins s σ H _ I h) λu s1 ⟨x,H1,I1,rx,a,ex,d,q1⟩=>?_)
 subst ex
 obtain rfl:u=Value.ref a:=rx
 obtain⟨t1,t2,_⟩:=yT I1 d
 refine⟨t1,t2,?_⟩
 rw[m.trees]
 refine Calls.callWith_builtin rfl (Calls.evalArgs_plain (Calls.spliced_cons (jd (he pins s1 σ H1 _ I1 q1) λiv s2 ⟨y,H2,I2,ry,q2⟩=>
   Calls.spliced_cons (jd (hf pins s2 σ H2 _ I2 q2) λfv s3 ⟨z,H3,I3,rz,kvs,k,b,e1,e2,e3,l,old,new⟩=>Calls.spliced_nil ?_))))
 subst e2
 obtain rfl:iv=Value.ref b:=ry
 exact Gd hu I3 e1 e3 l rz (λu eu w' s4 I4 r4=>⟨u,H3,I4,r4,old u eu⟩) λen s4 I4=>⟨z,_,I4,rz,new en⟩)
end
end L2
set_option Elab.async false
set_option linter.all false
set_option maxRecDepth 100000
set_option maxHeartbeats 4000000
namespace L2
open PySem PyProof.Rows
section
variable {X:Cx}
end
end L2
set_option Elab.async false
set_option linter.all false
set_option maxRecDepth 100000
set_option maxHeartbeats 4000000
namespace L2
open PySem PySem.Spec PyProof.Rows
section
variable {X:Cx} {pins:List (Addr×Obj)} {σ:St} {H:Hp} {s:Shared} {tg:Expr}
def ZS (o:Obj):Nat:=match o.data with
 | .dict _ ep=>ep
 | _=>0
theorem qy.freeze {a:Addr} {kvs:List (qA×V)} (I:qy X pins σ H s) (e:H a=some (.dK kvs)):∃o,qy X pins σ (upd H a (.frz o (.dK kvs))) s:=by
 obtain⟨z,hd,vs,rel,o,es,ep,ho,r⟩:=(show qX X.prog X.w H s.heap a (.dK kvs) from I.hok a _ e)
 have mu:Go (H a):=by rw[e];exact True.intro
 have un:Un X.fs [] H (upd H a (.frz o (.dK kvs))) s.heap s.heap:=Un.write mu (.inl rfl) (λb u _ q=>q) ⟨o,ho⟩
 have ok:JM X.prog X.w (upd H a (.frz o (.dK kvs))) s.heap:=I.hok.write mu (.inl rfl) (λb u _ q=>q) ⟨o,ho⟩ ⟨ho,z,hd,vs,rel,o,es,ep,ho,r⟩
 exact⟨o,I.un (t':=s.toks) un ok⟩
def Nu (te:TE):TE:=λσ H Q=>te σ H λx H1=>∃a kvs,x=.ref a/\H1 a=some (.dK kvs)/\∀o,Q x (upd H1 a (.frz o (.dK kvs)))
theorem yP {e:Expr} {te:TE} (h:JE X e te):JE X e (Nu te):=.of (by
 have h:=h.to
 intro pins s σ H Q I hw
 refine jd (h pins s σ H _ I hw) λv s1 ⟨x,H1,I1,r1,a,kvs,ex,ea,q⟩=>?_
 obtain⟨o,I2⟩:=I1.freeze ea
 exact⟨x,_,I2,r1,q o⟩)
def GC (a:Addr) (o:Obj) (kvs:List (qA×V)) (zs:List Str):It:=
 ⟨λi H=>H a=some (.frz o (.dK kvs))/\i < zs.length,λi H x H'=>H'=H/\∃z,zs[i]?=some z/\x=.str z,λi H=>H a=some (.frz o (.dK kvs))/\i=zs.length⟩
theorem VB {P:Program} {w:World} {h:Heap} {a:Addr} {o:Obj} {kvs:List (qA×V)} (ok:JM P w H h) (e:H a=some (.frz o (.dK kvs))):(a==sysModules)=false/\∃vs,KV kvs vs/\h.DictAt (qK P w) a vs (ZS o):=by
 obtain⟨ho,z,hd,vs,rel,o',es,ep,ho',ex,dat,r⟩:=(show qX P w H h a (.frz o (.dK kvs)) from ok a _ e)
 rw[ho]at ho'
 cases ho'
 refine⟨hd,vs,rel,o,es,ho,ex,?_,r⟩
 unfold ZS
 rw[dat]
theorem Uz {P:Program} {w:World} {kvs:List (qA×V)} {vs:List (qA×Value)} {zs:List Str} (rel:KV kvs vs) (ek:kvs.map (·.1)=zs.map Sum.inr) {i:Nat} {z:Str} {k:qA} {y v:Value} (ez:zs[i]?=some z) (f1:vs[i]?=some (k,y)) (f2:(qK P w).is k v=true):qI (.str z) v:=by
 have hi:i < kvs.length:=by
   have h1:=(List.getElem?_eq_some_iff.mp ez).1
   have h2:kvs.length=zs.length:=by simpa using congrArg List.length ek
   omega
 obtain⟨q',g1,g2,_⟩:=Qa rel (List.getElem?_eq_getElem hi)
 rw[f1]at g1
 cases g1
 have h1:(kvs.map (·.1))[i]?=some kvs[i].1:=by rw[List.getElem?_map,List.getElem?_eq_getElem hi];rfl
 rw[ek,List.getElem?_map,ez]at h1
 have e3:k=Sum.inr z:=g2.symm.trans (Option.some.inj h1).symm
 subst e3
 rcases q4 (show Z2 (Sum.inr z) v=true from f2) with ⟨_,_,c,_⟩ | ⟨w',t,c,rfl⟩
 . cases c
 . cases c
   exact⟨t,rfl⟩
theorem U1 {P:Program} {w:World} {K:PySem.W.Frag} (a it:Addr) (o:Obj) (kvs:List (qA×V)) (zs:List Str) (ek:kvs.map (·.1)=zs.map Sum.inr):YH P w K tg (GC a o kvs zs) [it] it (λi h=>h.IsKeyIter it a i zs.length (ZS o)) where
 mem:=by simp
 obj:=λi h st b hb=>by
   have e:b=it:=by simpa using hb
   subst e
   obtain⟨o,e,c,d⟩:=st
   exact⟨o,e,λv z=>by rw[d]at z;cases z⟩
 keep:=λi h h' st k=>let ⟨o,e,r⟩:=st;⟨o,k it (by simp) o e,r⟩
 item:=by
   intro X hP hw hK hc i pins s σ H E I hf st hg
   subst hP hw hK
   obtain⟨f0,f1,f2,f3,f4,f5⟩:=hf it (by simp)
   obtain⟨ea,hi⟩:=hg
   obtain⟨_,vs,rel,dat⟩:=VB I.hok ea
   have lv:vs.length=zs.length:=by
     have h1:kvs.length=zs.length:=by simpa using congrArg List.length ek
     rw[<-Paired.length rel,h1]
   have ne:a≠it:=λe=>by rw[e,f0]at ea;cases ea
   rw[<-lv]at st
   refine(Walks.dictKeys (I.ok.hd hc) it a ne vs (ZS o)).item i s _ _ (by omega) ⟨st,dat⟩ λv h' tk hv st' kk=>?_
   have I1:qy X pins σ H {s with heap:=h',toks:=tk}:=I.turned (λb o hb e=>kk b o (by simpa using hb) e) f0 f1 f3 f4 f5
   obtain⟨k,y,g1,g2⟩:=hv
   obtain⟨o2,e2,c2,d2⟩:=id st'.1
   refine⟨_,rfl,Y3 (s:={s with heap:=h',toks:=tk}) e2 c2 d2 (by decide) ⟨.str zs[i],H,I1,Uz rel ek (List.getElem?_eq_getElem hi) g1 g2,⟨rfl,_,List.getElem?_eq_getElem hi,rfl⟩,?_,λb hb=>(hf b hb).1⟩⟩
   rw[<-lv]
   exact st'.1
 done:=by
   intro X hP hw hK hc i pins s σ H E I hf st hg
   subst hP hw hK
   obtain⟨f0,f1,f2,f3,f4,f5⟩:=hf it (by simp)
   obtain⟨ea,hi⟩:=hg
   obtain⟨_,vs,rel,dat⟩:=VB I.hok ea
   have lv:vs.length=zs.length:=by
     have h1:kvs.length=zs.length:=by simpa using congrArg List.length ek
     rw[<-Paired.length rel,h1]
   have ne:a≠it:=λe=>by rw[e,f0]at ea;cases ea
   subst hi
   rw[<-lv]at st
   exact(Walks.dictKeys (I.ok.hd hc) it a ne vs (ZS o)).done s _ _ ⟨st,dat⟩ λh' tk kk=>⟨rfl,I.turned (λb o hb e=>kk b o (by simpa using hb) e) f0 f1 f3 f4 f5⟩
 self:=λ_ _ _ _ _ st h=>wpAny_pyIter_keyiter st h
def N5 (tl:TE):TI:=λσ H R=>tl σ H λx H1=>∃a o kvs zs,x=.ref a/\H1 a=some (.frz o (.dK kvs))/\kvs.map (·.1)=zs.map Sum.inr/\R (GC a o kvs zs) H1
theorem XR {l:Expr} {tl:TE} (hl:JE X l tl):JI X tg l (N5 tl):=.of (by
 have hl:=hl.to
 intro pins s σ H R I h
 refine jd (hl pins s σ H _ I h) λv s1 ⟨x,H1,I1,r1,q1⟩=>?_
 obtain⟨a,o,kvs,zs,e,ea,ek,q⟩:=q1
 subst e
 cases r1
 obtain⟨hd,vs,rel,dat⟩:=VB I1.hok ea
 have lv:vs.length=zs.length:=by
   have h1:kvs.length=zs.length:=by simpa using congrArg List.length ek
   rw[<-Paired.length rel,h1]
 refine wpAny_pyIter_dict hd dat ?_
 refine⟨s1.heap.objs.size,[s1.heap.objs.size],_,_,H1,rfl,I1.kept (t':=s1.toks) λb o e=>Heap.get?_push_of_some _ e,U1 a _ o kvs zs ek,?_,λb hb=>?_,q⟩
 . rw[<-lv]
   exact⟨_,Heap.get?_push_size _ rfl,rfl,rfl⟩
 . have e:b=s1.heap.objs.size:=by simpa using hb
   subst e
   exact I1.fpOk (Nat.le_refl _) (I1.hok.fresh (Nat.le_refl _)))
end
section
variable {a:Addr} {o:Obj} {kvs:List (qA×V)} {zs:List Str} {g:TG} {σ:St} {H:Hp}
theorem UI {tb:TS} {D:Ji} (Pv:Nat->St->Hp->Prop) (h0:Pv 0 σ H) (hl:∀i σ H,i<=zs.length->Pv i σ H->H a=some (.frz o (.dK kvs)))
   (hs:∀i z σ H,zs[i]?=some z->Pv i σ H->g (.str z) σ H λσ2 H2=>tb {D with nx:=Pv (i+1),ct:=Pv (i+1),bk:=D.nx} σ2 H2) (hd:∀σ H,Pv zs.length σ H->D.nx σ H):
   ∃W:Nat->Nat->St->Hp->Prop,(∃m,W 0 m σ H)/\∀i m σ H,W i m σ H->
    ((GC a o kvs zs).stop i H/\D.nx σ H)\/((GC a o kvs zs).go i H/\∃N:St->Hp->Prop,(∀σ' H',N σ' H'->∃m',m' < m/\W (i+1) m' σ' H')/\∀x H',(GC a o kvs zs).yld i H x H'->g x σ H' λσ2 H2=>tb {D with nx:=N,ct:=N,bk:=D.nx} σ2 H2):=by
 refine⟨λi m σ H=>m=zs.length - i/\i<=zs.length/\Pv i σ H,⟨zs.length,by simp,Nat.zero_le _,h0⟩,?_⟩
 rintro i m σ H ⟨rfl,hi,p⟩
 have q:=hl i σ H hi p
 by_cases hlt:i < zs.length
 . refine .inr ⟨⟨q,hlt⟩,Pv (i+1),λσ' H' p'=>⟨zs.length - (i+1),by omega,rfl,hlt,p'⟩,λx H' y=>?_⟩
   obtain⟨e,z,ez,rfl⟩:=y
   subst e
   exact hs i z σ _ ez p
 . have e:i=zs.length:=by omega
   subst e
   exact .inl ⟨⟨q,rfl⟩,hd σ H p⟩
theorem UQ {tt:TT} {te:TE} {D:Addr} {Q:Hp->Prop} (Pv:Nat->St->Hp->Prop) (h0:Pv 0 σ (upd H D (.lst []))) (hl:∀i σ' H',i<=zs.length->Pv i σ' H'->H' a=some (.frz o (.dK kvs)))
   (hs:∀i z σ' H',zs[i]?=some z->Pv i σ' H'->g (.str z) σ' H' (Z8 tt te D (Pv (i+1)))) (hd:∀σ' H',Pv zs.length σ' H'->Q H'):Zh (GC a o kvs zs) g tt te D σ H Q:=
 ZU (n:=zs.length) Pv h0 (λi σ' H' hi p=>⟨⟨hl i σ' H' (Nat.le_of_lt hi) p,hi⟩,λx H2 y=>by
   obtain⟨e,z,ez,rfl⟩:=y
   subst e
   exact hs i z σ' _ ez p⟩) λσ' H' p=>⟨⟨hl _ σ' H' (Nat.le_refl _) p,rfl⟩,hd σ' H' p⟩
end
end L2
set_option Elab.async false
set_option linter.all false
set_option maxRecDepth 100000
set_option maxHeartbeats 4000000
namespace L2
open PySem PySem.Spec PyProof.Rows
section
variable {P:Program} {w:World} {K:PySem.W.Frag} {mg:Str->Option Value} {base:Heap}
end
section
variable {X:Cx} {es:List Expr} {t:TA} {pos:Pos}
end
end L2
set_option Elab.async false
set_option linter.all false
set_option maxRecDepth 100000
set_option maxHeartbeats 4000000
namespace L2
open PySem PySem.Spec PyProof.Rows
section
variable {X:Cx}
end
end L2
namespace L2
open PySem PySem.Spec PyProof.Rows
end L2
set_option Elab.async false
set_option linter.all false
set_option maxRecDepth 100000
set_option maxHeartbeats 4000000
namespace L2
open PySem PySem.Spec PyProof.Rows
section
variable {X:Cx} {pins pins0:List (Addr×Obj)} {σ σ0:St} {H H0:Hp} {s s0:Shared}
end
section
variable {X:Cx}
def kY (K:PySem.W.Frag):R2:=λx y H Q=>∃(a b:Addr) (kvs kws:List (qA×V)),x=.ref a/\y=.ref b/\Rd H a (.dK kvs)/\Rd H b (.dK kws)/\kvs.length=kws.length/\(∀p∈kvs,∃u d,qM kws p.1=some u/\DV K H p.2 d/\DV K H u d/\PySem.SeqAt.shaped d=true)/\Q (.bl false) H
theorem uY {P:Program} {w:World} {H:Hp} {h:Heap} {a:Addr} {kvs:List (qA×V)} (ok:JM P w H h) (e:Rd H a (.dK kvs)):(a==sysModules)=false/\∃vs,KV kvs vs/\h.DictOf (qK P w) a vs:=by
 obtain⟨_,hd,vs,rel,d⟩:=e.ok ok
 exact⟨hd,vs,rel,d⟩
theorem XI (hu:X.A.units+70 < cLine):Zc X (compareOp .NotEq) (kY X.K):=by
 intro pins s σ H x y v u Q I rx ry h
 obtain⟨a,b,kvs,kws,rfl,rfl,ea,eb,len,all,q⟩:=h
 cases rx
 cases ry
 obtain⟨hda,va,ra,da⟩:=uY I.hok ea
 obtain⟨hdb,vb,rb,db⟩:=uY I.hok eb
 have la:=Paired.length ra
 have lb:=Paired.length rb
 have hits:∀(l:List (qA×V)) (m:List (qA×Value)),KV l m->(∀p∈l,p∈kvs)->PySem.W.KeqHits X.A.in1 s vb m true:=by
   intro l m r
   induction r with
   | nil=>intro _;exact .nil
   | @cons p p' l m r1 r2 ih=>
     intro hin
     obtain⟨w1,d,e1,d1,d2,sh⟩:=all p (hin p (List.mem_cons_self ..))
     have rel:=rb.val p.1
     rw[e1]at rel
     obtain⟨k,y⟩:=p'
     obtain⟨ek,rv⟩:=r1
     cases hv:valueAt vb p.1 with
     | none=>rw[hv]at rel;exact rel.elim
     | some y'=>
       rw[hv]at rel
       obtain⟨as,r3⟩:=d1.reads I rv
       obtain⟨bs,r4⟩:=d2.reads I rel
       have e2:=PySem.W.keq_at (A:=X.A) (s:=s) r3 r4 sh sh (by show X.A.units+1+64 < cLine;omega)
       rw[Ys sh]at e2
       have:=PySem.W.KeqHits.hit (A:=X.A.in1) (s:=s) (kb:=vb) (k:=k) (v:=y) (r:=m) (e:=true) (b:=true) (by have ek':p.1=k:=ek;rw[<-ek'];exact hv) e2 (ih λp hp=>hin p (List.mem_cons_of_mem _ hp))
       exact this
 refine PySem.W.keq_ne (r:=true) hda hdb da db (by omega) (λ_=>hits kvs va ra λ_ h=>h) ⟨.bl _,H,I,?_,q⟩
 show Value.bool _=Value.bool _
 rw[<-la,<-lb,len]
 simp
end
end L2
namespace L2
open PySem PyProof.Rows
end L2
set_option Elab.async false
set_option linter.all false
set_option maxRecDepth 100000
set_option maxHeartbeats 4000000
namespace HT
open PySem PySem.Spec PyProof.Rows
section
variable {prog:Program} {w:World} {A:Around} {E:Value->Shared->Prop} {s:Shared}
end
end HT
namespace L2
open PySem PySem.Spec PyProof.Rows
section
variable {X:Cx}
end
end L2
namespace L2
open PySem PyProof.Rows
end L2
set_option Elab.async false
set_option linter.all false
set_option maxRecDepth 100000
set_option maxHeartbeats 4000000
namespace L2
open PySem PySem.Spec PyProof.Rows
section
variable {X:Cx} {CX:W7} {C:Addr->Sp->Prop} {E:St->XK} {x:Str} {p pos:Pos} {e:Expr} {es:List Expr} {t:TA} {i:Nat}
end
end L2
set_option Elab.async false
set_option linter.all false
set_option maxRecDepth 100000
set_option maxHeartbeats 4000000
namespace L2
open PySem PySem.Spec PyProof.Rows
section
variable {M:Model} {A:Around} {F:Value->Shared->Prop} {s:Shared} {e:Addr} {cl:Value} {d:Option Addr} {vs:Array Value} {Q:Unit->Shared->Prop}
end
section
variable {X:Cx} {pins:List (Addr×Obj)} {σ:St} {H:Hp} {s:Shared} {M:Model} {F:Value->Shared->Prop} {Q:Unit->Shared->Prop} {a C dx:Addr}
end
section
variable {P:Program} {w:World} {K:PySem.W.Frag} {mg:Str->Option Value} {base:Heap} {N:List Str} {qual:Str} {scope:Scope} {f:Addr} {cd:Value} {A:Around} {outer:List Env} {s₀:Shared} {H₀:Hp} {E:XK}
end
end L2
set_option Elab.async false
set_option linter.all false
set_option maxRecDepth 100000
set_option maxHeartbeats 4000000
namespace L2
open PySem PySem.Spec PyProof.Rows
section
variable {X:Cx}
end
end L2
set_option Elab.async false
set_option linter.all false
set_option maxRecDepth 100000
set_option maxHeartbeats 4000000
namespace L2
open PySem PySem.Spec PyProof.Rows
def R3:Obj:={cls:=.type "cell",data:=.cell none}
structure OwnC (n:Nat) (l:List (Str×NameKind)) (cs cs':List (Str×Addr)) (h h':Heap):Prop where
 kp:∀b o,h.get? b=some o->h'.get? b=some o
 same:∀x,(x,NameKind.cell)∉l->cs'.lookup x=cs.lookup x
 own:∀x,(x,NameKind.cell)∈l->∃c,cs'.lookup x=some c/\n<=c/\h'.get? c=some R3
 inj:∀x y c,(x,NameKind.cell)∈l->(y,NameKind.cell)∈l->cs'.lookup x=some c->cs'.lookup y=some c->x=y
structure Mg (X:Cx) (N':List Str) (ix:List (Option Nat)) (scope:Scope):Prop where
 kind:scope.kind=.function
 nd:(scope.names.map (·.1)).Nodup
 frees:(scope.names.all λx=>x.2 != .free || (X.env.scope.names.lookup x.1==some .cell || X.env.scope.names.lookup x.1==some .free))=true
 ixs:ue N' X.N scope X.env.scope ix=true
section
variable {X:Cx} {N':List Str} {ix:List (Option Nat)} {scope:Scope} {pins:List (Addr×Obj)} {σ:St} {H:Hp} {s:Shared}
end
section
variable {X:Cx} {N':List Str} {ix:List (Option Nat)} {scope:Scope}
end
end L2
set_option Elab.async false
set_option linter.all false
set_option maxRecDepth 100000
set_option maxHeartbeats 4000000
namespace L2
open PySem PySem.Spec PyProof.Rows
section
variable {X:Cx} {CX:W7} {k:Nat} {f C:Addr} {fd:FuncData} {ps:List Str} {sp:Sp} {dvs:List V} {ds:List Value} {E:St->XK} {m:Str} {pos apos:Pos} {e o:Expr} {es:List Expr} {ta:TE} {t:TA}
end
end L2
set_option Elab.async false
set_option linter.all false
set_option maxRecDepth 100000
set_option maxHeartbeats 4000000
namespace L2
open PySem PySem.Spec PyProof.Rows
theorem V1 {zs:List Str}:∀{its:List Value},qF (zs.map V.str) its->StrsAre its zs:=by
 induction zs with
 | nil=>
   intro its h
   cases h
   exact .nil
 | cons z zs ih=>
   intro its h
   cases h with
   | cons a b=>
     obtain⟨t,rfl⟩:=a
     exact .cons z t (ih b)
theorem Xm {zs:List Str} {its:List Value} (h:StrsAre its zs):qF (zs.map V.str) its:=by
 induction h with
 | nil=>exact .nil
 | cons x t h ih=>exact .cons ⟨t,rfl⟩ ih
def yH (a b:Str):Prop:=a.cps.toList<=b.cps.toList
theorem vB {a b c:Str} (h:yH a b) (k:yH b c):yH a c:=List.le_trans h k
theorem yG {a b:Str} (h:yH a b) (k:yH b a):a=b:=by
 have e:a.cps.toList=b.cps.toList:=List.le_antisymm h k
 cases a
 cases b
 congr 1
 exact Array.toList_inj.mp e
theorem Uo:∀(l:List Str) (p:Str),risingS p l=true->(∀x∈l,yH p x)/\l.Pairwise yH
 | [],_,_=>⟨λ_ h=>(nomatch h),.nil⟩
 | x::r,p,h=>by
   have h':(!ltCps x.cps.toList p.cps.toList&&risingS x r)=true:=h
   rw[Bool.and_eq_true]at h'
   obtain⟨h1,h2⟩:=h'
   obtain⟨i1,i2⟩:=Uo r x h2
   have px:yH p x:=by
     have:ltCps x.cps.toList p.cps.toList=false:=by simpa using h1
     rw[ltCps_eq]at this
     exact List.not_lt.mp (of_decide_eq_false this)
   refine⟨λy hy=>?_,.cons i1 i2⟩
   rcases List.mem_cons.mp hy with rfl | hy
   . exact px
   . exact vB px (i1 y hy)
theorem YR:∀{l:List Str},sortedS l=true->l.Pairwise yH
 | [],_=>.nil
 | x::r,h=>let ⟨a,b⟩:=Uo r x h;.cons a b
theorem Up:∀{l m:List Str},l.Perm m->l.Pairwise yH->m.Pairwise yH->l=m
 | [],m,p,_,_=>(List.Perm.nil_eq p)
 | a::l,[],p,_,_=>absurd p.length_eq (by simp)
 | a::l,b::m,p,hl,hm=>by
   rw[List.pairwise_cons]at hl hm
   have e:a=b:=by
     rcases List.mem_cons.mp (p.mem_iff.mp (List.mem_cons_self (a:=a) (l:=l))) with e | e
     . exact e
     . rcases List.mem_cons.mp (p.mem_iff.mpr (List.mem_cons_self (a:=b) (l:=m))) with e' | e'
       . exact e'.symm
       . exact yG (hl.1 b e') (hm.1 a e)
   subst e
   rw[Up (List.Perm.cons_inv p) hl.2 hm.2]
theorem U5 {a b ys zs:List Str} (ha:a.Perm ys) (hb:b.Perm zs) (p:ys.Perm zs) (sa:sortedS a=true) (sb:sortedS b=true):a=b:=Up (ha.trans (p.trans hb.symm)) (YR sa) (YR sb)
section
variable {X:Cx}
def Kr (K:PySem.W.Frag):List V->Hp->VK->Prop:=λxs H Q=>∃(p:Addr) (zs:List Str),xs=[.ref p]/\SqL K H p (zs.map V.str)/\zs.length < 64/\∀l ys,H l=none->ys.Perm zs->sortedS ys=true->Q (.ref l) (upd H l (.lst (ys.map V.str)))
theorem VI:j5 X (.builtin "sorted") (Kr X.K):=by
 intro pins s σ H xs us Q I r h
 obtain⟨p,zs,rfl,hq,h64,q⟩:=h
 obtain⟨u,rfl,ru⟩:=Qv r
 cases ru
 obtain⟨its,rv,pl,hz⟩:=I.list hq
 have ln:its.length=zs.length:=by
   have:=rv.length
   rw[List.length_map]at this
   exact this.symm
 refine sorted_strs pl.isList (V1 rv) (by omega) λout ss' h1 h2 h3=>?_
 obtain⟨e,he⟩:=sortedAll_at s.heap its out
 have lo:out.toList.length=ss'.length:=by
   have:=(Xm h1).length
   rw[List.length_map]at this
   exact this.symm
 have ls:ss'.length=zs.length:=h2.length_eq
 refine⟨.ref (s.heap.objs.size+1),_,I.laid (t':=s.toks) (λb o z=>sortedAll_old z) (Nat.le_succ _) ?_,rfl,q _ ss' (I.hok.fresh (Nat.le_succ _)) h2 h3⟩
 exact⟨by rw[List.length_map,ls];exact Nat.le_of_lt (Nat.lt_trans h64 (by decide)),out.toList,e,Xm h1,he⟩
end
end L2
set_option Elab.async false
set_option linter.all false
set_option maxRecDepth 100000
set_option maxHeartbeats 4000000
namespace L2
open PySem PySem.Spec PyProof.Rows PySem.W
section
variable {X:Cx}
end
end L2
set_option Elab.async false
set_option linter.all false
set_option maxRecDepth 100000
set_option maxHeartbeats 4000000
namespace L2
open PySem PySem.Spec PyProof.Rows
section
variable {P:Program} {w:World} {K:PySem.W.Frag} {mg:Str->Option Value} {base:Heap} {CX:W7} {k:Nat} {f:Addr} {fd:FuncData} {ps:List Str} {sp sp':Sp}
end
end L2
set_option Elab.async false
set_option linter.all false
set_option maxRecDepth 100000
set_option maxHeartbeats 4000000
namespace L2
open PySem PySem.Spec PyProof.Rows PySem.W
section
variable {X:Cx}
end
end L2
set_option Elab.async false
set_option linter.all false
set_option maxRecDepth 100000
set_option maxHeartbeats 4000000
namespace L2
open PySem PySem.Spec PyProof.Rows
def RawD (h:Heap) (d:Addr) (es:Array DictEntry) (ep:Nat):Prop:=∃o,h.get? d=some o/\o.ExactDict/\o.data=.dict es ep
theorem RawD.at_ {h h':Heap} {d:Addr} {es:Array DictEntry} {ep:Nat} (x:RawD h d es ep) (k:∀o,h.get? d=some o->h'.get? d=some o):RawD h' d es ep:=let ⟨o,a,r⟩:=x;⟨o,k o a,r⟩
theorem RawD.ty {s:Shared} {d:Addr} {es:Array DictEntry} {ep:Nat} (x:RawD s.heap d es ep):s.TypeIs (.ref d) "dict":=let ⟨o,a,b,_⟩:=x;⟨o,a,b.1⟩
section
variable {prog:Program} {w:World} {A:Around} {E:Value->Shared->Prop} {s:Shared} {it d:Addr} {es:Array DictEntry} {i ep:Nat}
theorem raw_iter {Q:Value->Shared->Prop} (hd:(d==sysModules)=false) (x:RawD s.heap d es ep)
   (q:Q (.ref s.heap.objs.size) {s with heap:=s.heap.push {cls:=.type "dict_keyiterator",data:=.fields #[.ref d,.int 0 0,.int es.size 0,.int ep 0]}}):wpAny (model prog w) A (pyIter (.ref d)) Q E s:=by
 obtain⟨o,e1,e2,e3⟩:=id x
 refine wpAny_pyIter_slot x.ty F.slot_dict_iter (wpAny_call_entry F.slot_dict_iter x.ty F.entry_dict_iter ?_ (F.args_dict_iter_1 _))
 unfold Builtin.«dict.__iter__» Builtin.Dict.dictSlotNone
 refine wpAny_bind (wpAny_bind (wpAny_notOrdered_dict x.ty (show wpAny _ _ (pure (Value.ref d)) _ _ s from wpAny_pure ?_)))
 show wpAny _ _ (Builtin.Dict.showsAll d >>= _) _ _ s
 unfold Builtin.Dict.showsAll
 rw[hd,if_neg Bool.false_ne_true]
 refine wpAny_bind (wpAny_pure (wpAny_bind (wpAny_dictEntries e1 e3 (wpAny_bind (wpAny_dictEpoch e1 e3 (wpAny_bind (wpAny_newObj_type (wpAny_pure ⟨_,rfl,"dict_keyiterator",_,⟨_,Heap.get?_push_size _ rfl,rfl⟩,F.slot_dict_keyiterator_next.lookup,?_⟩))))))))
 simpa [rawInt] using q
theorem wm {Q:Option Value->Shared->Prop} (t:s.heap.IsKeyIter it d i es.size ep) (x:RawD s.heap d es ep) (hi:i < es.size)
   (q:∀h',h'.IsKeyIter it d (i+1) es.size ep->Heap.SameBut it s.heap h'->Q (some es[i].key) {s with heap:=h'}):wpAny (model prog w) A (pyNext (.ref it)) Q E s:=by
 obtain⟨o,t1,t2,t3⟩:=id t
 obtain⟨od,e1,e2,e3⟩:=id x
 unfold pyNext
 refine wpAny_bind (wpAny_attempt (wpAny_callSpecial?_slot (name:=Str.ofString "__next__") t.typeIs F.slot_dict_keyiterator_next (wpAny_call_entry F.slot_dict_keyiterator_next t.typeIs F.entry_dict_keyiterator_next (wpAny_bind (wpAny_pure (wpAny_bind (wpAny_bind ?_)))) (F.args_dict_keyiterator_next_1 _))))
 refine wpAny_bind (wpAny_typeNameOfWhole_keyiter t.typeIs (wpAny_pure (wpAny_bind (wpAny_fieldsOf t1 t3 ?_))))
 simp only[show Builtin.Dict_items.ownsTuple "dict_keyiterator"=false by decide,Bool.false_eq_true,if_false]
 show wpAny _ _ (if (Value.ref d==Value.none)=true then _ else _) _ _ s
 rw[if_neg (show ¬((Value.ref d==.none)=true) from nofun)]
 refine wpAny_bind (wpAny_pure (wpAny_bind (wpAny_dictEntries e1 e3 ?_)))
 rw[if_neg (by simp)]
 refine wpAny_bind (wpAny_pure (wpAny_bind (wpAny_dictEpoch e1 e3 ?_)))
 rw[if_neg (by simp)]
 refine wpAny_pure ?_
 simp only[show ¬((i:Int) < 0) from by omega,if_false,Int.toNat_natCast,Array.getElem?_eq_getElem hi]
 refine wpAny_bind (wpAny_bind (wpAny_typeNameOfWhole_keyiter t.typeIs (wpAny_pure (wpAny_bind (wpAny_isOneOf_keyiter t.typeIs ?_)))))
 show wpAny _ _ (setField (.ref it) 1 (rawInt ((i:Int)+1)) >>= _) _ _ s
 refine wpAny_bind (wpAny_setField t1 t3 (by simp) ?_)
 have t':(s.heap.update it (Obj.mapFields (·.setIfInBounds 1 (rawInt ((i:Int)+1))))).IsKeyIter it d (i+1) es.size ep:=
   ⟨_,Heap.get?_update_self _ t1 (Obj.isFreed_of_fields (Obj.data_mapFields t3 _)),(Obj.cls_mapFields ..).trans t2,by rw[Obj.data_mapFields t3];simp [rawInt]⟩
 refine wpAny_bind (wpAny_holding (wpAny_bind (wpAny_isOneOf_keyiter (s:={s with heap:=s.heap.update it (Obj.mapFields (·.setIfInBounds 1 (rawInt ((i:Int)+1))))}) t'.typeIs ?_)))
 exact(show wpAny _ _ (pure es[i].key) _ _ _ from wpAny_pure (wpAny_pure ⟨_,rfl,wpAny_pure (q _ t' (Heap.SameBut.update ..))⟩))
theorem kP {Q:Option Value->Shared->Prop} (hh:A.handled=none) (t:s.heap.IsKeyIter it d es.size es.size ep) (x:RawD s.heap d es ep) (q:∀h',Heap.ExtBut it s.heap h'->Q none {s with heap:=h'}):wpAny (model prog w) A (pyNext (.ref it)) Q E s:=by
 obtain⟨o,t1,t2,t3⟩:=id t
 obtain⟨od,e1,e2,e3⟩:=id x
 unfold pyNext
 refine wpAny_bind (wpAny_attempt (wpAny_callSpecial?_slot (name:=Str.ofString "__next__") t.typeIs F.slot_dict_keyiterator_next (wpAny_call_entry F.slot_dict_keyiterator_next t.typeIs F.entry_dict_keyiterator_next (wpAny_bind (wpAny_pure (wpAny_bind (wpAny_bind ?_)))) (F.args_dict_keyiterator_next_1 _))))
 refine wpAny_bind (wpAny_typeNameOfWhole_keyiter t.typeIs (wpAny_pure (wpAny_bind (wpAny_fieldsOf t1 t3 ?_))))
 simp only[show Builtin.Dict_items.ownsTuple "dict_keyiterator"=false by decide,Bool.false_eq_true,if_false]
 show wpAny _ _ (if (Value.ref d==Value.none)=true then _ else _) _ _ s
 rw[if_neg (show ¬((Value.ref d==.none)=true) from nofun)]
 refine wpAny_bind (wpAny_pure (wpAny_bind (wpAny_dictEntries e1 e3 ?_)))
 rw[if_neg (by simp)]
 refine wpAny_bind (wpAny_pure (wpAny_bind (wpAny_dictEpoch e1 e3 ?_)))
 rw[if_neg (by simp)]
 refine wpAny_pure ?_
 simp only[show ¬((es.size:Int) < 0) from by omega,if_false,Int.toNat_natCast,Array.getElem?_eq_none (Nat.le_refl es.size)]
 refine wpAny_bind (wpAny_bind (wpAny_typeNameOfWhole_keyiter t.typeIs (wpAny_pure ?_)))
 show wpAny _ _ (setField (.ref it) 0 .none >>= _) _ _ s
 refine wpAny_bind (wpAny_setField t1 t3 (by simp) (show wpAny _ _ (newExc (.type "StopIteration") [] >>= _) _ _ _ from wpAny_bind ?_))
 simp only[newExc,newTuple]
 refine wpAny_bind (wpAny_newObj_type (wpAny_bind (m:=firstArgMember _ _) (wpAny_of_eq (a:=Value.none) (by first | rfl | (simp only[firstArgMember];rfl)) (wpAny_newObj_type ?_ (by size_fits)))) (by size_fits))
 simp only[raiseNew]
 refine wpAny_bind (wpAny_handled ?_)
 rw[show A.in1.handled=none from hh]
 refine wpAny_bind (wpAny_pure (wpAny_throw (wpAny_bind ?_)))
 exact wpAny_isInstance (T:="StopIteration") (b:=true) ⟨_,Heap.get?_push_size _ rfl,rfl⟩ isSubtype_stop (wpAny_pure (q _ (((Heap.SameBut.update ..).extBut.push _).push _)))
theorem vg (hd:(d==sysModules)=false):MeetsIn prog w (Builtin.«dict.items» ⟨[.ref d],[]⟩) (λ_ R s=>s.TypeIs (.ref d) "dict"/\R (.ok (.ret (.ref s.heap.objs.size))) {s with heap:=s.heap.push {cls:=.type "dict_items",data:=.fields #[.ref d]}}):=
 .of_wp λA R s ⟨ty,h⟩=>by
   unfold Builtin.«dict.items» Builtin.Dict.noArgs
   refine wpAny_bind (wpAny_bind (wpAny_notOrdered_dict ty (show wpAny _ _ (pure d) _ _ s from wpAny_pure ?_)))
   show wpAny _ _ (Builtin.Dict.showsAll d >>= _) _ _ s
   unfold Builtin.Dict.showsAll
   rw[hd,if_neg Bool.false_ne_true]
   exact wpAny_bind (wpAny_pure (wpAny_bind (wpAny_newObj_type (wpAny_pure ⟨_,rfl,h⟩))))
theorem XF {v:Addr} {Q:Value->Shared->Prop} (hv:s.heap.IsItemsView v d) (x:RawD s.heap d es ep)
   (q:Q (.ref s.heap.objs.size) {s with heap:=s.heap.push {cls:=.type "dict_itemiterator",data:=.fields #[.none,.bool false,.ref d,.int 0 0,.int es.size 0,.int ep 0,.none,.none]}}):wpAny (model prog w) A (pyIter (.ref v)) Q E s:=by
 obtain⟨ov,v1,v2,v3⟩:=id hv
 obtain⟨od,e1,e2,e3⟩:=id x
 refine wpAny_pyIter_slot hv.typeIs F.slot_dict_items_iter (wpAny_call_entry F.slot_dict_items_iter hv.typeIs F.entry_dict_items_iter ?_ (F.args_dict_items_iter_1 _))
 unfold Builtin.«dict_items.__iter__» Builtin.Dict_items.dictOf
 refine wpAny_bind (wpAny_pure (wpAny_bind (wpAny_bind (wpAny_field v1 v3 (x:=.ref d) rfl (wpAny_pure (wpAny_bind ?_))))))
 unfold Builtin.Dict_items.newIterator
 refine wpAny_bind (wpAny_dictEntries e1 e3 (wpAny_bind (wpAny_dictEpoch e1 e3 ?_)))
 simp only[show Builtin.Dict_items.ownsTuple "dict_itemiterator"=true by decide,if_true]
 refine wpAny_newObj_type (wpAny_pure ⟨_,rfl,"dict_itemiterator",_,⟨_,Heap.get?_push_size _ rfl,rfl⟩,F.slot_dict_itemiterator_next.lookup,?_⟩) (by simp only[sizeOk,Builtin.Dict_items.ownedTupleFields,List.size_toArray,List.length_append,List.length_cons,List.length_nil,sizeLine_eq];omega)
 simpa [rawInt,Builtin.Dict_items.ownedTupleFields] using q
theorem kQ {ok ov:Value} {Q:Option Value->Shared->Prop} (t:IsItemIter s.heap it d i es.size ep ok ov) (x:RawD s.heap d es ep) (hi:i < es.size)
   (q:∀h',IsItemIterOut h' it d (i+1) es.size ep es[i].key es[i].val s.heap.objs.size->h'.get? s.heap.objs.size=some {cls:=.type "tuple",data:=.seq #[es[i].key,es[i].val]}->(∀b o,b≠it->s.heap.get? b=some o->h'.get? b=some o)->
     Q (some (.ref s.heap.objs.size)) {s with heap:=h'}):wpAny (model prog w) A (pyNext (.ref it)) Q E s:=by
 obtain⟨hp,g,dr,tk,os⟩:=s
 obtain⟨od,e1,e2,e3⟩:=id x
 have ty:Shared.TypeIs ⟨hp,g,dr,tk,os⟩ (.ref it) "dict_itemiterator":=⟨_,t,rfl⟩
 unfold pyNext
 refine wpAny_bind (wpAny_attempt (wpAny_callSpecial?_slot (name:=Str.ofString "__next__") ty F.slot_dict_itemiterator_next (wpAny_call_entry F.slot_dict_itemiterator_next ty F.entry_dict_itemiterator_next (wpAny_bind (wpAny_pure (wpAny_bind (wpAny_bind ?_)))) (F.args_dict_itemiterator_next_1 _))))
 refine wpAny_bind (wpAny_typeNameOfWhole_itemiter ty (wpAny_pure (wpAny_bind (wpAny_fieldsOf t rfl ?_))))
 simp only[show Builtin.Dict_items.ownsTuple "dict_itemiterator"=true by decide,if_true]
 show wpAny _ _ (if (Value.ref d==Value.none)=true then _ else _) _ _ _
 rw[if_neg (show ¬((Value.ref d==.none)=true) from nofun)]
 refine wpAny_bind (wpAny_pure (wpAny_bind (wpAny_dictEntries e1 e3 ?_)))
 rw[if_neg (by simp)]
 refine wpAny_bind (wpAny_pure (wpAny_bind (wpAny_dictEpoch e1 e3 ?_)))
 rw[if_neg (by simp)]
 refine wpAny_pure ?_
 simp only[show ¬((i:Int) < 0) from by omega,if_false,Int.toNat_natCast,Array.getElem?_eq_getElem hi]
 refine wpAny_bind (wpAny_bind (wpAny_typeNameOfWhole_itemiter ty (wpAny_pure (wpAny_bind (wpAny_isOneOf_itemiter ty ?_)))))
 show wpAny _ _ (setField (.ref it) 3 (rawInt ((i:Int)+1)) >>= _) _ _ ⟨hp,g,dr,tk,os⟩
 refine wpAny_bind (wpAny_setField_rec t (by simp) λh1 a1 b1=>?_)
 replace b1:Heap.SameBut it hp h1:=b1
 replace a1:IsItemIter h1 it d (i+1) es.size ep ok ov:=by
   unfold IsItemIter
   rw[show ((i+1:Nat):Int)=(i:Int)+1 by omega]
   simpa [rawInt] using a1
 have ty1:Shared.TypeIs ⟨h1,g,dr,tk,os⟩ (.ref it) "dict_itemiterator":=⟨_,a1,rfl⟩
 refine wpAny_bind (wpAny_holding (wpAny_bind (wpAny_isOneOf_itemiter ty1 (wpAny_bind (wpAny_isOneOf_itemiter ty1 ?_)))))
 show wpAny _ _ (Builtin.Dict_items.pairFromOwner (.ref it) 6 es[i].key es[i].val) _ _ ⟨h1,g,dr,tk,os⟩
 unfold Builtin.Dict_items.pairFromOwner
 refine wpAny_bind (wpAny_newTuple ?_)
 have a2:IsItemIter (h1.push {cls:=.type "tuple",data:=.seq #[es[i].key,es[i].val]}) it d (i+1) es.size ep ok ov:=Heap.get?_push_of_some _ a1
 have z1:h1.objs.size=hp.objs.size:=b1.1
 have p2:(h1.push {cls:=.type "tuple",data:=.seq #[es[i].key,es[i].val]}).get? hp.objs.size=some {cls:=.type "tuple",data:=.seq #[es[i].key,es[i].val]}:=by rw[<-z1];exact Heap.get?_push_size _ rfl
 have k2:∀b o,b≠it->hp.get? b=some o->(h1.push {cls:=.type "tuple",data:=.seq #[es[i].key,es[i].val]}).get? b=some o:=λb o nb e=>Heap.get?_push_of_some _ (b1.extBut b o nb e)
 have nT:hp.objs.size≠it:=Nat.ne_of_gt (Heap.lt_size t)
 rw[z1]
 generalize h1.push {cls:=.type "tuple",data:=.seq #[es[i].key,es[i].val]}=h2 at a2 p2 k2
 show wpAny _ _ (Builtin.Dict_items.ownedTupleIsFree (.ref it) >>= _) _ _ ⟨h2,g,dr,tk,os⟩
 clear b1 a1 ty1 z1 h1
 unfold Builtin.Dict_items.ownedTupleIsFree
 refine wpAny_bind (wpAny_bind (wpAny_field a2 rfl (x:=.none) rfl (wpAny_pure ?_)))
 simp only[if_true]
 refine wpAny_bind (wpAny_field a2 rfl (x:=ok) rfl (wpAny_bind (wpAny_field a2 rfl (x:=ov) rfl (wpAny_bind (wpAny_setField_rec a2 (by simp) λh3 a3 b3=>?_)))))
 replace b3:Heap.SameBut it h2 h3:=b3
 replace a3:IsItemIter h3 it d (i+1) es.size ep es[i].key ov:=a3
 refine wpAny_bind (wpAny_setField_rec a3 (by simp) λh4 a4 b4=>?_)
 replace b4:Heap.SameBut it h3 h4:=b4
 replace a4:IsItemIter h4 it d (i+1) es.size ep es[i].key es[i].val:=a4
 refine wpAny_bind (wpAny_setField_rec a4 (by simp) λh5 a5 b5=>?_)
 replace b5:Heap.SameBut it h4 h5:=b5
 replace a5:IsItemIterOut h5 it d (i+1) es.size ep es[i].key es[i].val hp.objs.size:=a5
 refine wpAny_bind (wpAny_setField_rec a5 (by simp) λh6 a6 b6=>?_)
 replace b6:Heap.SameBut it h5 h6:=b6
 replace a6:IsItemIterOut h6 it d (i+1) es.size ep es[i].key es[i].val hp.objs.size:=a6
 have all:∀b o,b≠it->h2.get? b=some o->h6.get? b=some o:=λb o nb e=>b6.extBut b o nb (b5.extBut b o nb (b4.extBut b o nb (b3.extBut b o nb e)))
 exact wpAny_bind (wpAny_letGo (wpAny_pure (wpAny_pure ⟨_,rfl,wpAny_pure (q h6 a6 (all _ _ nT p2) λb o nb e=>all b o nb (k2 b o nb e))⟩)))
theorem XE {ok ov:Value} {Q:Option Value->Shared->Prop} (hh:A.handled=none) (t:IsItemIter s.heap it d es.size es.size ep ok ov) (x:RawD s.heap d es ep) (q:∀h',Heap.ExtBut it s.heap h'->Q none {s with heap:=h'}):wpAny (model prog w) A (pyNext (.ref it)) Q E s:=by
 obtain⟨od,e1,e2,e3⟩:=id x
 have ty:s.TypeIs (.ref it) "dict_itemiterator":=⟨_,t,rfl⟩
 unfold pyNext
 refine wpAny_bind (wpAny_attempt (wpAny_callSpecial?_slot (name:=Str.ofString "__next__") ty F.slot_dict_itemiterator_next (wpAny_call_entry F.slot_dict_itemiterator_next ty F.entry_dict_itemiterator_next (wpAny_bind (wpAny_pure (wpAny_bind (wpAny_bind ?_)))) (F.args_dict_itemiterator_next_1 _))))
 refine wpAny_bind (wpAny_typeNameOfWhole_itemiter ty (wpAny_pure (wpAny_bind (wpAny_fieldsOf t rfl ?_))))
 simp only[show Builtin.Dict_items.ownsTuple "dict_itemiterator"=true by decide,if_true]
 show wpAny _ _ (if (Value.ref d==Value.none)=true then _ else _) _ _ s
 rw[if_neg (show ¬((Value.ref d==.none)=true) from nofun)]
 refine wpAny_bind (wpAny_pure (wpAny_bind (wpAny_dictEntries e1 e3 ?_)))
 rw[if_neg (by simp)]
 refine wpAny_bind (wpAny_pure (wpAny_bind (wpAny_dictEpoch e1 e3 ?_)))
 rw[if_neg (by simp)]
 refine wpAny_pure ?_
 simp only[show ¬((es.size:Int) < 0) from by omega,if_false,Int.toNat_natCast,Array.getElem?_eq_none (Nat.le_refl es.size)]
 refine wpAny_bind (wpAny_bind (wpAny_typeNameOfWhole_itemiter ty (wpAny_pure ?_)))
 show wpAny _ _ (setField (.ref it) 2 .none >>= _) _ _ s
 refine wpAny_bind (wpAny_setField t rfl (by simp) (show wpAny _ _ (newExc (.type "StopIteration") [] >>= _) _ _ _ from wpAny_bind ?_))
 simp only[newExc,newTuple]
 refine wpAny_bind (wpAny_newObj_type (wpAny_bind (m:=firstArgMember _ _) (wpAny_of_eq (a:=Value.none) (by first | rfl | (simp only[firstArgMember];rfl)) (wpAny_newObj_type ?_ (by size_fits)))) (by size_fits))
 simp only[raiseNew]
 refine wpAny_bind (wpAny_handled ?_)
 rw[show A.in1.handled=none from hh]
 refine wpAny_bind (wpAny_pure (wpAny_throw (wpAny_bind ?_)))
 exact wpAny_isInstance (T:="StopIteration") (b:=true) ⟨_,Heap.get?_push_size _ rfl,rfl⟩ isSubtype_stop (wpAny_pure (q _ (((Heap.SameBut.update ..).extBut.push _).push _)))
end
end L2
set_option Elab.async false
set_option linter.all false
set_option maxRecDepth 100000
set_option maxHeartbeats 4000000
namespace L2
open PySem PySem.Spec PyProof.Rows
def Pr (H:Hp) (u:HO) (i:Nat) (x y:V):Prop:=match u with
 | .dK kvs=>∃z,kvs[i]?=some (Sum.inr z,y)/\x=.str z
 | .dT kvs=>∃k b,kvs[i]?=some (k,y)/\x=.ref b/\H b=some (.tup (k.map kV))
 | _=>False
def Ln:HO->Nat
 | .dK kvs=>kvs.length
 | .dT kvs=>kvs.length
 | _=>0
def KS:HO->Prop
 | .dK kvs=>∃zs:List Str,kvs.map (·.1)=zs.map Sum.inr
 | .dT _=>True
 | _=>False
section
variable {X:Cx} {pins:List (Addr×Obj)} {σ:St} {H:Hp} {s:Shared} {tg:Expr}
theorem JY {P:Program} {w:World} {h:Heap} {a:Addr} {o:Obj} {u:HO} (ok:JM P w H h) (ks:KS u) (e:H a=some (.frz o u)):
   (a==sysModules)=false/\∃es,RawD h a es (ZS o)/\es.size=Ln u/\∀(i:Nat) (hi:i < es.size),∃x y,Pr H u i x y/\qI x es[i].key/\qI y es[i].val:=by
 cases u with
 | dK kvs=>
   obtain⟨ho,z,hd,vs,rel,o',es,ep,ho',ex,dat,_,pr,_⟩:=(show qX P w H h a (.frz o (.dK kvs)) from ok a _ e)
   rw[ho]at ho'
   cases ho'
   obtain⟨zs,ek⟩:=ks
   have ep':ZS o=ep:=by unfold ZS;rw[dat]
   have l1:=pr.length
   have l2:=Paired.length rel
   have l0:kvs.length=zs.length:=by simpa using congrArg List.length ek
   have sz:es.size=kvs.length:=by rw[l2,<-l1];simp
   refine⟨hd,es,⟨o,ho,ex,by rw[ep'];exact dat⟩,sz,λi hi=>?_⟩
   have hi1:i < kvs.length:=by omega
   obtain⟨q,g1,g2,g3⟩:=Qa rel (List.getElem?_eq_getElem hi1)
   obtain⟨k1,k2⟩:=pr.get? (e:=es[i]) (by simp [hi]) g1
   have ez:zs[i]?=some zs[i]:=List.getElem?_eq_getElem (by omega)
   have e3:(kvs.map (·.1))[i]?=some kvs[i].1:=by rw[List.getElem?_map,List.getElem?_eq_getElem hi1];rfl
   rw[ek,List.getElem?_map,ez]at e3
   have e4:kvs[i].1=Sum.inr zs[i]:=(Option.some.inj e3).symm
   refine⟨.str zs[i],kvs[i].2,⟨zs[i],?_,rfl⟩,Uz rel ek ez g1 k1,by rw[k2];exact g3⟩
   rw[List.getElem?_eq_getElem hi1,<-e4]
 | dT kvs=>
   obtain⟨ho,z,hd,xs,rel,o',es,ep,ho',ex,dat,l,_⟩:=(show qX P w H h a (.frz o (.dT kvs)) from ok a _ e)
   rw[ho]at ho'
   cases ho'
   have ep':ZS o=ep:=by unfold ZS;rw[dat]
   have l2:=Paired.length rel
   have l1:=size_of_entries l
   refine⟨hd,es,⟨o,ho,ex,by rw[ep'];exact dat⟩,by rw[l1,<-l2];rfl,λi hi=>?_⟩
   have hi1:i < kvs.length:=by omega
   obtain⟨q,g1,g2,g3,g4⟩:=Qa rel (List.getElem?_eq_getElem hi1)
   have en:=entry_at l i
   rw[g1,Array.getElem?_eq_getElem hi]at en
   have en':es[i]=entryOfKey (tupleKind (qK P w)) q:=Option.some.inj en
   refine⟨.ref q.2.1,kvs[i].2,⟨kvs[i].1,q.2.1,List.getElem?_eq_getElem hi1,rfl,g3⟩,?_,?_⟩
   . rw[en'];rfl
   . rw[en'];exact g4
 | _=>exact ks.elim
theorem qy.freezeT {a:Addr} {kvs:List (List qA×V)} (I:qy X pins σ H s) (e:H a=some (.dT kvs)):∃o,qy X pins σ (upd H a (.frz o (.dT kvs))) s:=by
 obtain⟨z,hd,xs,rel,o,es,ep,ho,r⟩:=(show qX X.prog X.w H s.heap a (.dT kvs) from I.hok a _ e)
 have mu:Go (H a):=by rw[e];exact True.intro
 have un:Un X.fs [] H (upd H a (.frz o (.dT kvs))) s.heap s.heap:=Un.write mu (.inl rfl) (λb u _ q=>q) ⟨o,ho⟩
 have rel':KT (upd H a (.frz o (.dT kvs))) kvs xs:=KT.keeps rel λb ys hb=>by rw[qi (λq=>by rw[q,e]at hb;cases hb)];exact hb
 have ok:JM X.prog X.w (upd H a (.frz o (.dT kvs))) s.heap:=I.hok.write mu (.inl rfl) (λb u _ q=>q) ⟨o,ho⟩ ⟨ho,z,hd,xs,rel',o,es,ep,ho,r⟩
 exact⟨o,I.un (t':=s.toks) un ok⟩
def GU (te:TE):TE:=λσ H Q=>te σ H λx H1=>∃a kvs,x=.ref a/\H1 a=some (.dT kvs)/\∀o,Q x (upd H1 a (.frz o (.dT kvs)))
theorem ub {e:Expr} {te:TE} (h:JE X e te):JE X e (GU te):=.of (by
 have h:=h.to
 intro pins s σ H Q I hw
 refine jd (h pins s σ H _ I hw) λv s1 ⟨x,H1,I1,r1,a,kvs,ex,ea,q⟩=>?_
 obtain⟨o,I2⟩:=I1.freezeT ea
 exact⟨x,_,I2,r1,q o⟩)
def Rj (ts:TS):TS:=λD σ H=>∃a kvs,H a=some (.dT kvs)/\∀o,ts D σ (upd H a (.frz o (.dT kvs)))
theorem wY {st:Stmt} {ts:TS} (h:JS X st ts):JS X st (Rj ts):=.of (by
 have h:=h.to
 intro pins s σ H D I hw
 obtain⟨a,kvs,ea,q⟩:=hw
 obtain⟨o,I2⟩:=I.freezeT ea
 exact h pins s σ _ D I2 (q o))
def Rk (ts:TS):TS:=λD σ H=>∃a kvs,H a=some (.dK kvs)/\∀o,ts D σ (upd H a (.frz o (.dK kvs)))
theorem wZ {st:Stmt} {ts:TS} (h:JS X st ts):JS X st (Rk ts):=.of (by
 have h:=h.to
 intro pins s σ H D I hw
 obtain⟨a,kvs,ea,q⟩:=hw
 obtain⟨o,I2⟩:=I.freeze ea
 exact h pins s σ _ D I2 (q o))
def Md (a:Addr) (o:Obj) (u:HO):It:=⟨λi H=>H a=some (.frz o u)/\i < Ln u,λi H x H'=>H'=H/\∃y,Pr H u i x y,λi H=>H a=some (.frz o u)/\i=Ln u⟩
def R8 (a:Addr) (o:Obj) (u:HO):It:=⟨λi H=>H a=some (.frz o u)/\i < Ln u,λi H v H'=>∃p x y,H p=none/\v=.ref p/\Pr H u i x y/\H'=upd H p (.tup [x,y]),λi H=>H a=some (.frz o u)/\i=Ln u⟩
theorem UZ {P:Program} {w:World} {K:PySem.W.Frag} (a it:Addr) (o:Obj) (u:HO) (ks:KS u):YH P w K tg (Md a o u) [it] it (λi h=>h.IsKeyIter it a i (Ln u) (ZS o)) where
 mem:=by simp
 obj:=λi h st b hb=>by
   have e:b=it:=by simpa using hb
   subst e
   obtain⟨o,e,c,d⟩:=st
   exact⟨o,e,λv z=>by rw[d]at z;cases z⟩
 keep:=λi h h' st k=>let ⟨o,e,r⟩:=st;⟨o,k it (by simp) o e,r⟩
 item:=by
   intro X hP hw hK hc i pins s σ H E I hf st hg
   subst hP hw hK
   obtain⟨f0,f1,f2,f3,f4,f5⟩:=hf it (by simp)
   obtain⟨ea,hi⟩:=hg
   obtain⟨_,es,rd,sz,all⟩:=JY I.hok ks ea
   rw[<-sz]at st hi
   refine wm st rd hi λh' st' sb=>?_
   have I1:qy X pins σ H {s with heap:=h',toks:=s.toks}:=I.turned (λb o hb e=>(sb.2 b hb).trans e) f0 f1 f3 f4 f5
   obtain⟨x,y,pr,rx,ry⟩:=all i hi
   obtain⟨o2,e2,c2,d2⟩:=id st'
   exact⟨_,rfl,Y3 (s:={s with heap:=h'}) e2 c2 d2 (by decide) ⟨x,H,I1,rx,⟨rfl,y,pr⟩,by rw[<-sz];exact st',λb hb=>(hf b hb).1⟩⟩
 done:=by
   intro X hP hw hK hc i pins s σ H E I hf st hg
   subst hP hw hK
   obtain⟨f0,f1,f2,f3,f4,f5⟩:=hf it (by simp)
   obtain⟨ea,hi⟩:=hg
   obtain⟨_,es,rd,sz,all⟩:=JY I.hok ks ea
   subst hi
   rw[<-sz]at st
   exact kP (I.ok.hd hc) st rd λh' kk=>⟨rfl,I.turned (t':=s.toks) (λb o hb e=>kk b o hb e) f0 f1 f3 f4 f5⟩
 self:=λ_ _ _ _ _ st h=>wpAny_pyIter_keyiter st h
theorem Vb {P:Program} {w:World} {K:PySem.W.Frag} {elts:List Expr} {x1:Nat} {tpos:Pos} (a it:Addr) (o:Obj) (u:HO) (ks:KS u):YH P w K (.Tuple elts x1 tpos) (R8 a o u) [it] it (λi h=>∃ok ov,IsItemIter h it a i (Ln u) (ZS o) ok ov) where
 mem:=by simp
 obj:=λi h st b hb=>by
   have e:b=it:=by simpa using hb
   subst e
   obtain⟨_,_,e⟩:=st
   exact⟨_,e,λv z=>by cases z⟩
 keep:=λi h h' st k=>let ⟨x,y,e⟩:=st;⟨x,y,k it (by simp) _ e⟩
 item:=by
   intro X hP hw hK hc i pins s σ H E I hf st hg
   subst hP hw hK
   obtain⟨ok,ov,st⟩:=st
   obtain⟨ea,hi⟩:=hg
   obtain⟨_,es,rd,sz,all⟩:=JY I.hok ks ea
   rw[<-sz]at st hi
   obtain⟨x,y,pr,rx,ry⟩:=all i hi
   refine kQ st rd hi λh' z1 z3 kk=>⟨_,rfl,?_⟩
   refine wpAny_letOwnedTupleGo_items z1 λh'' z1' sb=>?_
   have nT:s.heap.objs.size≠it:=Nat.ne_of_gt (Heap.lt_size st)
   have kT:∀c o,c≠it->h'.get? c=some o->h''.get? c=some o:=λc o hc e=>(sb.2 c hc).trans e
   have I1:qy X pins σ (upd H s.heap.objs.size (.tup [x,y])) {s with heap:=h'',toks:=s.toks}:=I.turnLaid (L:=[it]) (t':=s.toks)
     (λc o hc e=>have n:c≠it:=(λz=>hc (by simp [z]));kT c o n (kk c o n e)) hf (Nat.le_refl _)
     ⟨by show 2<=sizeLine;decide,[es[i].key,es[i].val],.cons rx (.cons ry .nil),⟨_,kT _ _ nT z3,rfl,_,rfl⟩⟩
   refine⟨.ref s.heap.objs.size,_,I1,rfl,⟨s.heap.objs.size,x,y,I.hok.fresh (Nat.le_refl _),rfl,pr,rfl⟩,⟨_,_,by rw[<-sz];exact z1'⟩,λc hc=>?_⟩
   have h0:=(hf c hc).1
   have ec:c=it:=by simpa using hc
   subst ec
   rw[qi (Ne.symm nT)]
   exact h0
 done:=by
   intro X hP hw hK hc i pins s σ H E I hf st hg
   subst hP hw hK
   obtain⟨ok,ov,st⟩:=st
   obtain⟨ea,hi⟩:=hg
   obtain⟨_,es,rd,sz,all⟩:=JY I.hok ks ea
   subst hi
   rw[<-sz]at st
   exact XE (I.ok.hd hc) st rd λh' kk=>⟨rfl,I.turnedL (L:=[it]) (t':=s.toks) (λc o hc e=>kk c o (λz=>hc (by simp [z])) e) hf⟩
 self:=λ_ _ _ _ _ st h=>let ⟨_,_,e⟩:=st;PySem.W.kcp_self e h
def RT (tl:TE):TI:=λσ H R=>tl σ H λx H1=>∃a o u,x=.ref a/\H1 a=some (.frz o u)/\KS u/\R (Md a o u) H1
theorem w6 {l:Expr} {tl:TE} (hl:JE X l tl):JI X tg l (RT tl):=.of (by
 have hl:=hl.to
 intro pins s σ H R I h
 refine jd (hl pins s σ H _ I h) λv s1 ⟨x,H1,I1,r1,q1⟩=>?_
 obtain⟨a,o,u,e,ea,ks,q⟩:=q1
 subst e
 cases r1
 obtain⟨hd,es,rd,sz,all⟩:=JY I1.hok ks ea
 refine raw_iter hd rd ?_
 refine⟨s1.heap.objs.size,[s1.heap.objs.size],_,_,H1,rfl,I1.kept (t':=s1.toks) λb o e=>Heap.get?_push_of_some _ e,UZ a _ o u ks,?_,λb hb=>?_,q⟩
 . rw[<-sz]
   exact⟨_,Heap.get?_push_size _ rfl,rfl,rfl⟩
 . have e:b=s1.heap.objs.size:=by simpa using hb
   subst e
   exact I1.fpOk (Nat.le_refl _) (I1.hok.fresh (Nat.le_refl _)))
def K3 (tl:TE):TI:=λσ H R=>tl σ H λx H1=>∃a o u,x=.ref a/\H1 a=some (.frz o u)/\KS u/\R (R8 a o u) H1
theorem WM {l:Expr} {tl:TE} {elts:List Expr} {x1:Nat} {tpos ap cp:Pos} (hl:JE X l tl) (hbase:attributeBase l "items" X.env (eval l X.env)=eval l X.env:=by rfl) (hline:(ap.endLine==cp.line)=true:=by rfl):JI X (.Tuple elts x1 tpos) (.Call (.Attribute l "items" ap) [] [] cp) (K3 tl):=.of (by
 have hl:=hl.to
 intro pins s σ H R I h
 refine wpAny_Call_method0_late hbase hline (jd (hl pins s σ H _ I h) λv s1 ⟨x,H1,I1,r1,q1⟩=>?_)
 obtain⟨a,o,u,e,ea,ks,q⟩:=q1
 subst e
 cases r1
 obtain⟨hd,es,rd,sz,all⟩:=JY I1.hok ks ea
 refine⟨"dict","dict.items",PySem.F.plainAttrs_dict,PySem.F.slot_dict_items,PySem.F.type_dict_items,rd.ty,?_,Calls.callWith_builtin rfl (PySem.evalArgs_none ?_)⟩
 . obtain⟨o',e',x',_⟩:=id rd
   exact λb hb=>by cases hb;exact⟨o',e',x'.2.1⟩
 refine call_meetsIn PySem.F.slot_dict_items rd.ty PySem.F.entry_dict_items (PySem.F.args_dict_items_1 _) (vg hd) ⟨rd.ty,?_⟩
 refine XF (s:={s1 with heap:=s1.heap.push {cls:=.type "dict_items",data:=.fields #[.ref a]}}) (v:=s1.heap.objs.size) ⟨_,Heap.get?_push_size _ rfl,rfl,rfl⟩ (rd.at_ λo e=>Heap.get?_push_of_some _ e) ?_
 have kp:∀b ob,s1.heap.get? b=some ob->((s1.heap.push {cls:=.type "dict_items",data:=.fields #[.ref a]}).push {cls:=.type "dict_itemiterator",data:=.fields #[.none,.bool false,.ref a,.int 0 0,.int es.size 0,.int (ZS o) 0,.none,.none]}).get? b=some ob:=λb ob e=>Heap.get?_push_of_some _ (Heap.get?_push_of_some _ e)
 have sz1:(s1.heap.push {cls:=.type "dict_items",data:=.fields #[.ref a]}).objs.size=s1.heap.objs.size+1:=Heap.size_push ..
 refine⟨(s1.heap.push {cls:=.type "dict_items",data:=.fields #[.ref a]}).objs.size,[(s1.heap.push {cls:=.type "dict_items",data:=.fields #[.ref a]}).objs.size],_,_,H1,rfl,I1.kept (t':=s1.toks) kp,Vb a _ o u ks,⟨.none,.none,?_⟩,λb hb=>?_,q⟩
 . rw[<-sz]
   exact Heap.get?_push_size _ rfl
 . have e:b=(s1.heap.push {cls:=.type "dict_items",data:=.fields #[.ref a]}).objs.size:=by simpa using hb
   subst e
   have le:s1.heap.objs.size<=(s1.heap.push {cls:=.type "dict_items",data:=.fields #[.ref a]}).objs.size:=by omega
   exact I1.fpOk le (I1.hok.fresh le))
end
section
variable {a:Addr} {o:Obj} {u:HO} {g:TG} {σ:St} {H:Hp}
theorem Y6 {tb:TS} {D:Ji} (Pv:Nat->St->Hp->Prop) (h0:Pv 0 σ H) (hl:∀i σ H,i<=Ln u->Pv i σ H->H a=some (.frz o u))
   (hs:∀i x y p σ H,i < Ln u->H p=none->Pr H u i x y->Pv i σ H->g (.ref p) σ (upd H p (.tup [x,y])) λσ2 H2=>tb {D with nx:=Pv (i+1),ct:=Pv (i+1),bk:=D.nx} σ2 H2) (hd:∀σ H,Pv (Ln u) σ H->D.nx σ H):
   ∃W:Nat->Nat->St->Hp->Prop,(∃m,W 0 m σ H)/\∀i m σ H,W i m σ H->
    ((R8 a o u).stop i H/\D.nx σ H)\/((R8 a o u).go i H/\∃N:St->Hp->Prop,(∀σ' H',N σ' H'->∃m',m' < m/\W (i+1) m' σ' H')/\∀x H',(R8 a o u).yld i H x H'->g x σ H' λσ2 H2=>tb {D with nx:=N,ct:=N,bk:=D.nx} σ2 H2):=by
 refine⟨λi m σ H=>m=Ln u - i/\i<=Ln u/\Pv i σ H,⟨Ln u,by simp,Nat.zero_le _,h0⟩,?_⟩
 rintro i m σ H ⟨rfl,hi,p⟩
 have q:=hl i σ H hi p
 by_cases hlt:i < Ln u
 . refine .inr ⟨⟨q,hlt⟩,Pv (i+1),λσ' H' p'=>⟨Ln u - (i+1),by omega,rfl,hlt,p'⟩,λx H' y=>?_⟩
   obtain⟨b,x',y',hb,rfl,pr,rfl⟩:=y
   exact hs i x' y' b σ H hlt hb pr p
 . have e:i=Ln u:=by omega
   subst e
   exact .inl ⟨⟨q,rfl⟩,hd σ H p⟩
theorem xp {tt:TT} {te:TE} {D:Addr} {Q:Hp->Prop} (Pv:Nat->St->Hp->Prop) (h0:Pv 0 σ (upd H D (.lst []))) (hl:∀i σ' H',i<=Ln u->Pv i σ' H'->H' a=some (.frz o u))
   (hs:∀i x y σ' H',i < Ln u->Pr H' u i x y->Pv i σ' H'->g x σ' H' (Z8 tt te D (Pv (i+1)))) (hd:∀σ' H',Pv (Ln u) σ' H'->Q H'):Zh (Md a o u) g tt te D σ H Q:=
 ZU (n:=Ln u) Pv h0 (λi σ' H' hi p=>⟨⟨hl i σ' H' (Nat.le_of_lt hi) p,hi⟩,λx H2 y=>by
   obtain⟨e,y',pr⟩:=y
   subst e
   exact hs i x y' σ' _ hi pr p⟩) λσ' H' p=>⟨⟨hl _ σ' H' (Nat.le_refl _) p,rfl⟩,hd σ' H' p⟩
end
end L2
set_option Elab.async false
set_option linter.all false
set_option maxRecDepth 100000
set_option maxHeartbeats 4000000
namespace L2
open PySem PySem.Spec PyProof.Rows PySem.W
section
variable {X:Cx}
def Kq (K:PySem.W.Frag):List V->Hp->VK->Prop:=λxs H Q=>∃(p:Addr) (zs:List Str),xs=[.ref p]/\zE K H p (zs.map V.str)/\zs.length < 64/\∀l ys,H l=none->ys.Perm zs->sortedS ys=true->Q (.ref l) (upd H l (.lst (ys.map V.str)))
theorem VH:j5 X (.builtin "sorted") (Kq X.K):=by
 intro pins s σ H xs us Q I r h
 obtain⟨p,zs,rfl,hq,h64,q⟩:=h
 obtain⟨u,rfl,ru⟩:=Qv r
 cases ru
 obtain⟨ws,vv,⟨o,ho,hc,n,hd⟩,hz⟩:=I.tuple hq
 have hS:=V1 vv
 have la:ws.length=zs.length:=by
   have:=vv.length
   rw[List.length_map]at this
   exact this.symm
 refine Calls.call_function_entry kind_sorted plain_sorted entry_sorted (args_sorted1 _) ?_
 unfold Builtin.«sorted»
 refine wpAny_bind (m:=checkCount "sorted" 1 1 _) (wpAny_pure (wpAny_bind (wpAny_collect_seq p (.inr rfl) ho hc hd (λh1 k1=>?_) (by simp only[List.size_toArray];rw[la];exact Nat.le_of_lt (Nat.lt_trans h64 (by decide))))))
 refine wpAny_bind (wpAny_newList ?_)
 have I1:qy X pins σ H {s with heap:=h1,toks:=s.toks}:=I.kept (t':=s.toks) k1
 rw[show ws.toArray.toList=ws by simp]
 show wpAny _ _ _ _ _ {s with heap:=h1.push (seqObj "list" ws.toArray 0)}
 have oL:(h1.push (seqObj "list" ws.toArray 0)).get? h1.objs.size=some (seqObj "list" ws.toArray 0):=Heap.get?_push_size _ rfl
 refine wpAny_bind (wpAny_holding (wpAny_call_entry slot_list_sort ⟨_,oL,rfl⟩ entry_list_sort (list_sort_treeK strKind_oneLt oL hS.keysOf (λv₁ v₂ rest e=>keyKind_strs (by rw[<-e];exact hS)) (by omega) λst' a1 a2=>⟨_,rfl,?_⟩) (args_list_sort _)))
 refine wpAny_pure ⟨_,rfl,?_⟩
 obtain⟨ss',b1,b2,b3⟩:=sorted_out_str hS a1 a2
 generalize (arrOf st').map (λx=>x.2)=out at b1
 have kf:∀b o,h1.get? b=some o->(sortedHeap (h1.push (seqObj "list" ws.toArray 0)) h1.objs.size ws out).get? b=some o:=λb o e=>by
   have lb:=Heap.lt_size e
   rw[sortedHeap_old (Nat.ne_of_lt lb) (Heap.lt_size (Heap.get?_push_of_some _ e))]
   exact Heap.get?_push_of_some _ e
 obtain⟨c3,o3⟩:=sortedHeap_at (vs:=ws) (out:=out) oL
 have ls:ss'.length=zs.length:=b2.length_eq
 exact⟨.ref h1.objs.size,_,I1.laid (t':=s.toks) (o:=.lst (ss'.map V.str)) kf (Nat.le_refl _) ⟨by rw[List.length_map,ls];exact Nat.le_of_lt (Nat.lt_trans h64 (by decide)),_,c3,Xm b1,o3⟩,rfl,q _ ss' (I1.hok.fresh (Nat.le_refl _)) b2 b3⟩
def Kt:List V->Hp->VK->Prop:=λxs H Q=>∃(a:Addr) (kvs:List (qA×V)) (zs:List Str),xs=[.ref a]/\Rd H a (.dK kvs)/\kvs.map (·.1)=zs.map Sum.inr/\∀l,H l=none->Q (.ref l) (upd H l (.lst (zs.map V.str)))
theorem VL (hc:X.calm=true):j5 X (.type "list") Kt:=by
 intro pins s σ H xs us Q I r h
 obtain⟨a,kvs,zs,rfl,ea,ek,q⟩:=h
 obtain⟨u,rfl,ru⟩:=Qv r
 cases ru
 obtain⟨zk,hd,vs,rel,dd⟩:=Z5 I.hok ea
 obtain⟨ep,dat⟩:=dd.dictAt
 have lk:kvs.length=zs.length:=by simpa using congrArg List.length ek
 have lv:kvs.length=vs.length:=Paired.length rel
 refine kdl_call (kdl_dict (knd:=qK X.prog X.w) (kvs:=vs) (ep:=ep) hd) (I.ok.hd hc) dat (by rw[<-lv];exact zk) λh' tk acc c kp e it=>?_
 have vv:qF (zs.map V.str) acc.toList:=by
   refine YV _ _ (by have:=it.1;simp only[List.length_map,Array.length_toList];omega) λi x u e1 e2=>?_
   have e2':acc[i]?=some u:=by simpa using e2
   obtain⟨k,y,f1,f2⟩:=it.2 i u e2'
   rw[List.getElem?_map]at e1
   cases ez:zs[i]? with
   | none=>rw[ez]at e1;cases e1
   | some z=>
     rw[ez]at e1
     obtain rfl:=(Option.some.inj e1).symm
     have hi:i < kvs.length:=by
       have:=(List.getElem?_eq_some_iff.mp ez).1
       omega
     obtain⟨q',g1,g2,_⟩:=Qa rel (List.getElem?_eq_getElem hi)
     rw[f1]at g1
     cases g1
     have h1:(kvs.map (·.1))[i]?=some kvs[i].1:=by rw[List.getElem?_map,List.getElem?_eq_getElem hi];rfl
     rw[ek,List.getElem?_map,ez]at h1
     have e3:k=Sum.inr z:=g2.symm.trans (Option.some.inj h1).symm
     subst e3
     rcases q4 (show Z2 (Sum.inr z) u=true from f2) with ⟨_,_,c,_⟩ | ⟨w',t,c,rfl⟩
     . cases c
     . cases c
       exact⟨t,rfl⟩
 exact⟨.ref _,_,I.laid (t':=tk) (o:=.lst (zs.map V.str)) kp (Nat.le_refl _) ⟨by rw[List.length_map,<-lk];exact zk,acc.toList,c,vv,by simpa using e⟩,rfl,q _ (I.hok.fresh (Nat.le_refl _))⟩
end
end L2
namespace Rb
def setN (ns:List Nat):Nat:=ns.foldl (λb n=>b ||| 2^n) 0
def memN (b n:Nat):List Nat:=(List.range n).filter λi=>b.testBit i
def Lacks (r:Nat) (ns:List Nat):Prop:=r∉ns/\∀x,x < r->x∈ns
theorem xb (ns:List Nat):∀b k,(ns.foldl (λb n=>b ||| 2^n) b).testBit k=(b.testBit k || decide (k∈ns)):=by
 induction ns with
 | nil=>intro b k;simp
 | cons n ns ih=>
   intro b k
   rw[List.foldl_cons,ih,Nat.testBit_or,Nat.testBit_two_pow]
   by_cases h:n=k
   . subst h;simp
   . have h':¬k=n:=λe=>h e.symm
     simp [h,h']
theorem testBit_setN (ns:List Nat) (k:Nat):(setN ns).testBit k=decide (k∈ns):=by
 unfold setN
 rw[xb]
 simp
theorem jI {b n i:Nat}:i∈memN b n↔i < n/\b.testBit i=true:=by
 unfold memN
 simp
theorem ZW {b k m:Nat} (h:b < 2^m) (hk:m<=k):b.testBit k=false:=Nat.testBit_lt_two_pow (Nat.lt_of_lt_of_le h (Nat.pow_le_pow_right (by decide) hk))
theorem YZ {b m:Nat} (h:b < 2^m):∀n,m<=n->memN b n=memN b m:=by
 intro n hn
 obtain⟨k,rfl⟩:=Nat.le.dest hn
 unfold memN
 rw[List.range_add,List.filter_append]
 have e:((List.range k).map (m+·)).filter (λi=>b.testBit i)=[]:=by
   rw[List.filter_eq_nil_iff]
   intro i hi
   obtain⟨j,_,rfl⟩:=List.mem_map.mp hi
   rw[ZW h (Nat.le_add_right _ _)]
   simp
 rw[e,List.append_nil]
theorem memN_same {b m n:Nat} (hm:b < 2^m) (hn:b < 2^n):memN b n=memN b m:=by
 by_cases h:m<=n
 . exact YZ hm n h
 . exact(YZ hn m (by omega)).symm
theorem setN_lt {ns:List Nat} {m:Nat} (h:∀x∈ns,x < m):setN ns < 2^m:=by
 refine Nat.lt_pow_two_of_testBit _ λi hi=>?_
 rw[testBit_setN]
 refine decide_eq_false λz=>?_
 have:=h i z
 omega
theorem xS {b m:Nat} (h:b < 2^m):setN (memN b m)=b:=by
 refine Nat.eq_of_testBit_eq λi=>?_
 rw[testBit_setN,Bool.eq_iff_iff,decide_eq_true_iff,jI]
 constructor
 . exact λz=>z.2
 . intro z
   refine⟨?_,z⟩
   refine Decidable.byContradiction λhi=>?_
   rw[ZW h (by omega)]at z
   cases z
theorem pigeon:∀(n:Nat) (ns:List Nat),(∀x,x < n->x∈ns)->n<=ns.length:=by
 intro n
 induction n with
 | zero=>intro ns _;exact Nat.zero_le _
 | succ n ih=>
   intro ns h
   have hn:n∈ns:=h n (Nat.lt_succ_self n)
   have:=ih (ns.erase n) λx hx=>(List.mem_erase_of_ne (by omega)).mpr (h x (Nat.lt_succ_of_lt hx))
   rw[List.length_erase_of_mem hn]at this
   have hp:0 < ns.length:=List.length_pos_of_mem hn
   omega
theorem Lacks.uniq {r s:Nat} {ns:List Nat} (h:Lacks r ns) (g:Lacks s ns):r=s:=by
 rcases Nat.lt_trichotomy r s with z | z | z
 . exact absurd (g.2 r z) h.1
 . exact z
 . exact absurd (h.2 s z) g.1
def Jl (ns:List Nat):Nat->Nat
 | 0=>0
 | i+1=>if Jl ns i∈ns then Jl ns i+1 else Jl ns i
theorem Vu (ns:List Nat):∀i,(∀x,x < Jl ns i->x∈ns)/\Jl ns i<=i/\(Jl ns i < i->Jl ns i∉ns):=by
 intro i
 induction i with
 | zero=>exact⟨λx hx=>absurd hx (Nat.not_lt_zero _),Nat.le_refl _,λh=>absurd h (Nat.lt_irrefl _)⟩
 | succ i ih=>
   obtain⟨h1,h2,h3⟩:=ih
   unfold Jl
   by_cases h:Jl ns i∈ns
   . rw[if_pos h]
     refine⟨λx hx=>?_,by omega,λhlt=>absurd h (h3 (by omega))⟩
     by_cases e:x=Jl ns i
     . rw[e];exact h
     . exact h1 x (by omega)
   . rw[if_neg h]
     exact⟨h1,by omega,λ_=>h⟩
theorem lackI_lacks (ns:List Nat):Lacks (Jl ns (ns.length+1)) ns:=by
 obtain⟨h1,h2,h3⟩:=Vu ns (ns.length+1)
 refine⟨h3 ?_,h1⟩
 have:=pigeon _ _ h1
 omega
def lackN (ns:List Nat):Nat:=Jl ns (ns.length+1)
theorem lackN_eq {r:Nat} {ns:List Nat} (h:Lacks r ns):r=lackN ns:=h.uniq (lackI_lacks ns)
theorem memN_succ (b i:Nat):memN b (i+1)=memN b i++(if b.testBit i then [i] else []):=by
 unfold memN
 rw[List.range_succ,List.filter_append]
 congr 1
 by_cases h:b.testBit i=true
 . simp [h]
 . simp [h]
theorem testBit_div (b i:Nat):b.testBit i=decide (b / 2^i % 2=1):=by
 rw[Nat.testBit_eq_decide_div_mod_eq]
theorem setN_snoc (ns:List Nat) (n:Nat):setN (ns++[n])=setN ns ||| 2^n:=by unfold setN;rw[List.foldl_append];rfl
end Rb
set_option linter.all false
namespace MLab
theorem VT:∀(g m:Nat),m < g->∃k,m.testBit k=false/\g.testBit k=true/\∀j,k < j->m.testBit j=g.testBit j:=by
 intro g
 induction g using Nat.strongRecOn with
 | _ g ih=>
   intro m h
   by_cases c:m / 2 < g / 2
   . obtain⟨k,h1,h2,h3⟩:=ih (g / 2) (by omega) (m / 2) c
     refine⟨k+1,by rw[Nat.testBit_succ];exact h1,by rw[Nat.testBit_succ];exact h2,λj hj=>?_⟩
     cases j with
     | zero=>omega
     | succ j=>rw[Nat.testBit_succ,Nat.testBit_succ];exact h3 j (by omega)
   . have e:m / 2=g / 2:=by omega
     refine⟨0,?_,?_,λj hj=>?_⟩
     . rw[Nat.testBit_zero];simp;omega
     . rw[Nat.testBit_zero];simp;omega
     . cases j with
       | zero=>omega
       | succ j=>rw[Nat.testBit_succ,Nat.testBit_succ,e]
theorem KM {x y:Nat} (k:Nat) (hx:x.testBit k=false) (hy:y.testBit k=true) (h:∀j,k < j->x.testBit j=y.testBit j):x < y:=by
 rcases Nat.lt_trichotomy x y with c | rfl | c
 . exact c
 . rw[hx]at hy;cases hy
 . obtain⟨i,h1,h2,h3⟩:=VT _ _ c
   rcases Nat.lt_trichotomy i k with d | rfl | d
   . have:=h3 k d;rw[hx,hy]at this;cases this
   . rw[hy]at h1;cases h1
   . have:=h i d;rw[h1,h2]at this;cases this
def j9 (ns:List Nat):Nat:=ns.foldr (λa b=>a^^^b) 0
theorem ZH (a:Nat) (ns:List Nat):j9 (a::ns)=a^^^j9 ns:=rfl
theorem Wa {k:Nat}:∀{ns:List Nat},(j9 ns).testBit k=true->∃n∈ns,n.testBit k=true
 | [],h=>by simp [j9]at h
 | a::ns,h=>by
   rw[ZH,Nat.testBit_xor]at h
   cases e:a.testBit k with
   | true=>exact⟨a,List.mem_cons_self,e⟩
   | false=>
     rw[e,Bool.false_xor]at h
     obtain⟨n,hn,h'⟩:=Wa h
     exact⟨n,List.mem_cons_of_mem _ hn,h'⟩
theorem UW {ns:List Nat} {m:Nat} (h:m < j9 ns):∃n∈ns,n^^^j9 ns^^^m < n:=by
 obtain⟨k,h1,h2,h3⟩:=VT _ _ h
 obtain⟨n,hn,hk⟩:=Wa h2
 refine⟨n,hn,KM k ?_ hk λj hj=>?_⟩
 . rw[Nat.testBit_xor,Nat.testBit_xor,hk,h1,h2];rfl
 . rw[Nat.testBit_xor,Nat.testBit_xor,h3 j hj]
   cases n.testBit j<;>cases (j9 ns).testBit j<;>rfl
section
variable {α:Type} (G:α->List α)
structure ZG (ok:α->Prop) (num:α->Option Nat) (stp:α->Nat):Prop where
 cl:∀{x y},ok x->y∈G x->ok y
 n1:∀{x n m},ok x->num x=some n->m < n->∃y∈G x,num y=some m/\stp y < stp x
 n2:∀{x y n},ok x->num x=some n->y∈G x->num y≠some n
 n3:∀{x y n},ok x->num x=some n->y∈G x->(∀m,num y=some m->n < m)->∃z∈G y,num z=some n/\stp z < stp x
 n4:∀{x y n m},ok x->num x=some n->y∈G x->num y=some m->m < n->stp y < stp x
 e:∀{x m},ok x->num x=none->(∀j,j < m->∃y∈G x,num y=some j)->(∀y∈G x,num y≠some m)->∃y∈G x,num y=none/\∀z∈G y,num z≠some m
section
variable {β:Type} (M:β->List β)
mutual
inductive zg:β->Prop
 | mk {a:β} (h:∀b∈M a,Won b):zg a
inductive Won:β->Prop
 | mk {a b:β} (m:b∈M a) (h:zg b):Won a
end
end
def mv:List α->List (List α)
 | []=>[]
 | x::h=>(G x).map (λy=>y::h)++(mv h).map (λb=>x::b)
theorem jH:∀{a b:List α},b∈mv G a↔∃p x y q,a=p++x::q/\y∈G x/\b=p++y::q
 | [],b=>by
   constructor
   . intro h;simp [mv]at h
   . rintro⟨p,x,y,q,e,_⟩;simp at e
 | x::h,b=>by
   unfold mv
   rw[List.mem_append,List.mem_map,List.mem_map]
   constructor
   . rintro(⟨y,hy,rfl⟩ | ⟨b',hb,rfl⟩)
     . exact⟨[],x,y,h,rfl,hy,rfl⟩
     . obtain⟨p,u,y,q,rfl,hy,rfl⟩:=jH.mp hb
       exact⟨x::p,u,y,q,rfl,hy,rfl⟩
   . rintro⟨p,u,y,q,e,hy,rfl⟩
     cases p with
     | nil=>
       cases e
       exact .inl ⟨y,hy,rfl⟩
     | cons v p=>
       cases e
       exact .inr ⟨p++y::q,jH.mpr ⟨p,u,y,q,rfl,hy,rfl⟩,rfl⟩
variable {G} {ok:α->Prop} {num:α->Option Nat} {stp:α->Nat}
def QA (num:α->Option Nat) (h:List α):List Nat:=h.filterMap num
def ends (num:α->Option Nat) (h:List α):Nat:=(h.filter λx=>(num x).isNone).length
theorem Wb (a b:List Nat):j9 (a++b)=j9 a^^^j9 b:=by
 induction a with
 | nil=>show j9 b=0^^^j9 b;rw[Nat.zero_xor]
 | cons x a ih=>rw[List.cons_append,ZH,ih,ZH,Nat.xor_assoc]
theorem jX {p q:List α} {x:α} {n:Nat} (h:num x=some n):j9 (QA num (p++x::q))=n^^^j9 (QA num (p++q)):=by
 unfold QA
 rw[List.filterMap_append,List.filterMap_cons,h,List.filterMap_append,Wb,Wb]
 show _^^^ (n^^^j9 _)=_
 rw[<-Nat.xor_assoc,Nat.xor_comm _ n,Nat.xor_assoc]
theorem WE {p q:List α} {x:α} (h:num x=none):QA num (p++x::q)=QA num (p++q):=by
 unfold QA
 rw[List.filterMap_append,List.filterMap_cons,h,List.filterMap_append]
theorem jy {p q:List α} {x:α} {n:Nat} (h:num x=some n):ends num (p++x::q)=ends num (p++q):=by
 unfold ends
 rw[List.filter_append,List.filter_cons,h,List.filter_append]
 rfl
theorem j4 {p q:List α} {x:α} (h:num x=none):ends num (p++x::q)=ends num (p++q)+1:=by
 unfold ends
 rw[List.filter_append,List.filter_cons,h,List.filter_append,List.length_append,List.length_append]
 show _+(_+1)=_
 omega
def WZ (stp:α->Nat) (h:List α):Nat:=(h.map stp).sum
theorem JL {p q:List α} {x:α}:WZ stp (p++x::q)=stp x+WZ stp (p++q):=by
 unfold WZ
 rw[List.map_append,List.map_cons,List.sum_append,List.sum_cons,List.map_append,List.sum_append]
 omega
theorem Zf {a b c:Nat} (h:a^^^c=b^^^c):a=b:=by
 have:a^^^c^^^c=b^^^c^^^c:=by rw[h]
 rwa [Nat.xor_assoc,Nat.xor_assoc,Nat.xor_self,Nat.xor_zero,Nat.xor_zero]at this
theorem Xo (L:ZG G ok num stp) {h:List α} (hk:∀x∈h,ok x) {m:Nat} (lt:m < j9 (QA num h)):∃p x y q,h=p++x::q/\y∈G x/\(∃n k,num x=some n/\num y=some k)/\j9 (QA num (p++y::q))=m/\stp y < stp x:=by
 obtain⟨n,hn,hl⟩:=UW lt
 obtain⟨x,hx,ex⟩:=List.mem_filterMap.mp hn
 obtain⟨p,q,rfl⟩:=List.append_of_mem hx
 obtain⟨y,hy,ey,ly⟩:=L.n1 (hk x hx) ex hl
 refine⟨p,x,y,q,rfl,hy,⟨n,_,ex,ey⟩,?_,ly⟩
 rw[jX ey,jX ex]
 generalize j9 (QA num (p++q))=r
 rw[<-Nat.xor_assoc n n r,Nat.xor_self,Nat.zero_xor,Nat.xor_comm r m,Nat.xor_assoc,Nat.xor_self,Nat.xor_zero]
theorem J5 {h p q:List α} {x y:α} (L:ZG G ok num stp) (hk:∀x∈h,ok x) (e:h=p++x::q) (hy:y∈G x):∀z∈p++y::q,ok z:=λz hz=>by
 subst e
 rcases List.mem_append.mp hz with hz | hz
 . exact hk z (List.mem_append_left _ hz)
 . rcases List.mem_cons.mp hz with rfl | hz
   . exact L.cl (hk x (by simp)) hy
   . exact hk z (List.mem_append_right _ (List.mem_cons_of_mem _ hz))
theorem vz (L:ZG G ok num stp):∀(c:Nat) {h:List α},WZ stp h<=c->(∀x∈h,ok x)->ends num h=0->j9 (QA num h)=0->zg (mv G) h:=by
 intro c
 induction c using Nat.strongRecOn with
 | _ c ih=>
   intro h hc hk he hx
   refine .mk λb hb=>?_
   obtain⟨p,x,y,q,rfl,hy,rfl⟩:=(jH G).mp hb
   have okx:=hk x (by simp)
   have hk':=J5 L hk rfl hy
   cases ex:num x with
   | none=>rw[j4 ex]at he;omega
   | some n=>
     rw[jy ex]at he
     rw[jX ex]at hx
     rw[JL]at hc
     have back:(∀m,num y=some m->n < m)->Won (mv G) (p++y::q):=λgt=>by
       obtain⟨z,hz,ez,lz⟩:=L.n3 okx ex hy gt
       refine .mk (b:=p++z::q) ((jH G).mpr ⟨p,y,z,q,rfl,hz,rfl⟩) (ih (WZ stp (p++z::q)) (by rw[JL];omega) (Nat.le_refl _) (J5 L hk' rfl hz) (by rw[jy ez];exact he) (by rw[jX ez];exact hx))
     cases ey:num y with
     | none=>exact back λm h=>by rw[ey]at h;cases h
     | some k=>
       rcases Nat.lt_trichotomy k n with lt | rfl | gt
       . have ly:=L.n4 okx ex hy ey lt
         have pos:0 < j9 (QA num (p++y::q)):=by
           rw[jX ey]
           refine Nat.pos_of_ne_zero λz=>?_
           have:=Zf (z.trans hx.symm)
           omega
         obtain⟨p',x',y',q',e',hy',⟨n',k',en,ek⟩,x0,l'⟩:=Xo L hk' pos
         have ce:WZ stp (p++y::q)=stp y+WZ stp (p++q):=JL
         rw[e',JL]at ce
         have ee:ends num (p++y::q)=0:=by rw[jy ey];exact he
         refine .mk (b:=p'++y'::q') ((jH G).mpr ⟨p',x',y',q',e',hy',rfl⟩) (ih (WZ stp (p'++y'::q')) (by rw[JL];omega) (Nat.le_refl _) (J5 L hk' e' hy') ?_ x0)
         rw[e',jy en]at ee
         rw[jy ek]
         exact ee
       . exact absurd ey (L.n2 okx ex hy)
       . exact back λm h=>by rw[ey]at h;cases h;exact gt
def Drawn (G:α->List α) (num:α->Option Nat) (h:List α):Prop:=(∃p x q,h=p++x::q/\num x=none/\ends num (p++q)=0/\∀y∈G x,num y≠some (j9 (QA num (p++q))))\/2<=ends num h
theorem ZB {h:List α}:0 < ends num h↔∃p x q,h=p++x::q/\num x=none:=by
 unfold ends
 constructor
 . intro c
   obtain⟨x,hx⟩:=List.exists_mem_of_length_pos c
   obtain⟨h1,h2⟩:=List.mem_filter.mp hx
   obtain⟨p,q,e⟩:=List.append_of_mem h1
   exact⟨p,x,q,e,by simpa using h2⟩
 . rintro⟨p,x,q,rfl,ex⟩
   exact List.length_pos_of_mem (a:=x) (List.mem_filter.mpr ⟨by simp,by rw[ex];rfl⟩)
theorem lack (L:ZG G ok num stp) {x:α} (okx:ok x) (ex:num x=none):∃m,(∀j,j < m->∃y∈G x,num y=some j)/\(∀y∈G x,num y≠some m)/\∃y∈G x,num y=none/\∀z∈G y,num z≠some m:=by
 have ⟨b,hb⟩:∃b,∀y∈G x,num y≠some b:=by
   refine⟨(QA num (G x)).sum+1,λy hy e=>?_⟩
   have:∀(l:List Nat) (n:Nat),n∈l->n<=l.sum:=by
     intro l
     induction l with
     | nil=>intro n h;cases h
     | cons a l ih=>
       intro n h
       rw[List.sum_cons]
       rcases List.mem_cons.mp h with rfl | h
       . omega
       . have:=ih n h;omega
   have q:(QA num (G x)).sum+1∈QA num (G x):=List.mem_filterMap.mpr ⟨y,hy,e⟩
   have:=this _ _ q
   omega
 have ⟨m,hm,least⟩:∃m,(∀y∈G x,num y≠some m)/\∀j,j < m->¬∀y∈G x,num y≠some j:=by
   induction b using Nat.strongRecOn with
   | _ b ih=>
     by_cases c:∃j,j < b/\∀y∈G x,num y≠some j
     . obtain⟨j,hj,h⟩:=c
       exact ih j hj h
     . exact⟨b,hb,λj hj h=>c ⟨j,hj,h⟩⟩
 have lo:∀j,j < m->∃y∈G x,num y=some j:=λj hj=>Classical.byContradiction λn=>least j hj λy hy e=>n ⟨y,hy,e⟩
 exact⟨m,lo,hm,L.e okx ex lo hm⟩
theorem xi (L:ZG G ok num stp) {h:List α} (hk:∀x∈h,ok x) (d:Drawn G num h):∃b∈mv G h,Drawn G num b:=by
 rcases d with ⟨p,x,q,rfl,ex,he,no⟩ | two
 . have okx:=hk x (by simp)
   obtain⟨m,lo,hm,y,hy,ey,ly⟩:=lack L okx ex
   rcases Nat.lt_trichotomy m (j9 (QA num (p++q))) with lt | e | gt
   . have hk':∀z∈p++q,ok z:=λz hz=>hk z (by
       rcases List.mem_append.mp hz with hz | hz
       . exact List.mem_append_left _ hz
       . exact List.mem_append_right _ (List.mem_cons_of_mem _ hz))
     obtain⟨p',x',y',q',e',hy',⟨n',k',en,ek⟩,x0,_⟩:=Xo L hk' lt
     have key:∃p2 q2,p++x::q∈[p++x::q]/\(p2++x::q2)∈mv G (p++x::q)/\p2++q2=p'++y'::q':=by
       rcases List.append_eq_append_iff.mp e' with ⟨r,e1,e2⟩ | ⟨r,e1,e2⟩
       ·
         refine⟨p,r++y'::q',by simp,(jH G).mpr ⟨p++x::r,x',y',q',?_,hy',?_⟩,?_⟩
         . rw[e2];simp
         . simp
         . rw[e1];simp
       ·
         cases r with
         | nil=>
           simp at e1 e2
           refine⟨p,y'::q',by simp,(jH G).mpr ⟨p++[x],x',y',q',?_,hy',?_⟩,?_⟩
           . rw[<-e2];simp
           . simp
           . rw[e1]
         | cons u r=>
           rw[List.cons_append]at e2
           obtain⟨rfl,e3⟩:=List.cons.inj e2
           refine⟨p'++y'::r,q,by simp,(jH G).mpr ⟨p',x',y',r++x::q,?_,hy',?_⟩,?_⟩
           . rw[e1];simp
           . simp
           . rw[e3];simp
     obtain⟨p2,q2,_,hm2,e2⟩:=key
     refine⟨_,hm2,.inl ⟨p2,x,q2,rfl,ex,?_,?_⟩⟩
     . rw[e2,jy ek]
       rw[e',jy en]at he
       exact he
     . rw[e2,x0]
       exact hm
   . exact⟨p++y::q,(jH G).mpr ⟨p,x,y,q,rfl,hy,rfl⟩,.inl ⟨p,y,q,rfl,ey,he,by rw[<-e];exact ly⟩⟩
   . obtain⟨y',hy',e'⟩:=lo _ gt
     exact absurd e' (no y' hy')
 . obtain⟨p,x,q,rfl,ex⟩:=ZB.mp (by omega:0 < ends num h)
   obtain⟨m,lo,hm,y,hy,ey,ly⟩:=lack L (hk x (by simp)) ex
   refine⟨p++y::q,(jH G).mpr ⟨p,x,y,q,rfl,hy,rfl⟩,.inr ?_⟩
   rw[j4 ex]at two
   rw[j4 ey]
   exact two
def X4 (num:α->Option Nat) (h:List α):Prop:=ends num h=0/\j9 (QA num h)=0
theorem UV (L:ZG G ok num stp) {h b:List α} (hk:∀x∈h,ok x) (z:X4 num h) (m:b∈mv G h):¬X4 num b:=λw=>by
 obtain⟨p,x,y,q,rfl,hy,rfl⟩:=(jH G).mp m
 cases ex:num x with
 | none=>have:=z.1;rw[j4 ex]at this;omega
 | some n=>
   cases ey:num y with
   | none=>have:=w.1;rw[j4 ey]at this;omega
   | some k=>
     have h1:=z.2
     have h2:=w.2
     rw[jX ex]at h1
     rw[jX ey]at h2
     have:=Zf (h1.trans h2.symm)
     subst this
     exact L.n2 (hk x (by simp)) ex hy ey
theorem VF {h b:List α} (d:Drawn G num h) (m:b∈mv G h):¬X4 num b:=λw=>by
 obtain⟨p',u,y,q',rfl,hy,rfl⟩:=(jH G).mp m
 cases eu:num u with
 | some n=>
   have pos:0 < ends num (p'++u::q'):=by
     rcases d with ⟨p,x,q,e,ex,_⟩ | two
     . exact ZB.mpr ⟨p,x,q,e,ex⟩
     . omega
   rw[jy eu]at pos
   have w1:=w.1
   cases ey:num y with
   | none=>rw[j4 ey]at w1;omega
   | some k=>rw[jy ey]at w1;omega
 | none=>
   have w1:=w.1
   cases ey:num y with
   | none=>rw[j4 ey]at w1;omega
   | some k=>
     rw[jy ey]at w1
     rcases d with ⟨p,x,q,e,ex,he,no⟩ | two
     . have hu:u∈p++x::q:=by rw[<-e];simp
       have ux:u=x:=Classical.byContradiction λne=>by
         have:u∈p++q:=by
           rcases List.mem_append.mp hu with h | h
           . exact List.mem_append_left _ h
           . rcases List.mem_cons.mp h with h | h
             . exact absurd h ne
             . exact List.mem_append_right _ h
         obtain⟨a,b,e2⟩:=List.append_of_mem this
         have:=ZB.mpr ⟨a,u,b,e2,eu⟩
         omega
       subst ux
       have en:QA num (p'++q')=QA num (p++q):=by rw[<-WE (p:=p') (q:=q') eu,e,WE eu]
       have w2:=w.2
       rw[jX ey,en]at w2
       have:k=j9 (QA num (p++q)):=Zf (c:=j9 (QA num (p++q))) (by rw[w2,Nat.xor_self])
       exact no y hy (by rw[ey,this])
     . rw[j4 eu]at two
       omega
theorem kind (L:ZG G ok num stp) {h:List α} (hk:∀x∈h,ok x):X4 num h\/Drawn G num h\/∃b∈mv G h,X4 num b/\∀x∈b,ok x:=by
 rcases Nat.lt_trichotomy (ends num h) 1 with c | c | c
 . have he:ends num h=0:=by omega
   by_cases hx:j9 (QA num h)=0
   . exact .inl ⟨he,hx⟩
   . obtain⟨p,x,y,q,e,hy,⟨n,k,en,ek⟩,x0,_⟩:=Xo L hk (Nat.pos_of_ne_zero hx)
     refine .inr (.inr ⟨p++y::q,(jH G).mpr ⟨p,x,y,q,e,hy,rfl⟩,⟨?_,x0⟩,J5 L hk e hy⟩)
     rw[e,jy en]at he
     rw[jy ek]
     exact he
 . obtain⟨p,x,q,rfl,ex⟩:=ZB.mp (by omega:0 < ends num h)
   rw[j4 ex]at c
   have he:ends num (p++q)=0:=by omega
   by_cases d:∃y∈G x,num y=some (j9 (QA num (p++q)))
   . obtain⟨y,hy,ey⟩:=d
     exact .inr (.inr ⟨p++y::q,(jH G).mpr ⟨p,x,y,q,rfl,hy,rfl⟩,⟨by rw[jy ey];exact he,by rw[jX ey,Nat.xor_self]⟩,J5 L hk rfl hy⟩)
   . exact .inr (.inl (.inl ⟨p,x,q,rfl,ex,he,λy hy e=>d ⟨y,hy,e⟩⟩))
 . exact .inr (.inl (.inr (by omega)))
mutual
theorem Ux (L:ZG G ok num stp) {h:List α} (hk:∀x∈h,ok x):zg (mv G) h->X4 num h
 | .mk w=>by
   rcases kind L hk with z | d | ⟨b,hb,z,kb⟩
   . exact z
   . obtain⟨b,hb,d'⟩:=xi L hk d
     have kb:∀x∈b,ok x:=by
       obtain⟨p,x,y,q,e,hy,rfl⟩:=(jH G).mp hb
       exact J5 L hk e hy
     exact absurd d' (won_is L kb (w b hb)).1
   . exact absurd z (won_is L kb (w b hb)).2
theorem won_is (L:ZG G ok num stp) {h:List α} (hk:∀x∈h,ok x):Won (mv G) h->¬Drawn G num h/\¬X4 num h
 | .mk (b:=b) m l=>by
   have kb:∀x∈b,ok x:=by
     obtain⟨p,x,y,q,e,hy,rfl⟩:=(jH G).mp m
     exact J5 L hk e hy
   have z:=Ux L kb l
   exact⟨λd=>VF d m z,λz'=>UV L hk z' m z⟩
end
theorem yD (L:ZG G ok num stp) {h:List α} (hk:∀x∈h,ok x):zg (mv G) h↔X4 num h:=⟨Ux L hk,λz=>vz L _ (Nat.le_refl _) hk z.1 z.2⟩
end
section
variable {α:Type} [DecidableEq α] (G:α->List α) (N:List α)
abbrev Rs (α:Type):=List (Nat×List α)
def qD (rs:Rs α) (z:α):Option Nat:=(rs.find? λr=>decide (z∈r.2)).map (·.1)
def J0 (rs:Rs α) (z:α):Nat:=rs.findIdx λr=>decide (z∈r.2)
def Zd (f:α->Option Nat) (x:α) (n:Nat):Prop:=(∀j,j < n->∃y∈G x,f y=some j)/\(∀y∈G x,f y≠some n)/\∀y∈G x,f y=none->∃z∈G y,f z=some n
structure X5 (rs:Rs α) (n:Nat) (ns:List α):Prop where
 iff:∀x,x∈ns↔x∈N/\qD rs x=none/\Zd G (qD rs) x n
 sub:ns.Sublist N
inductive Qr (n:Nat):Rs α->Rs α->Prop
 | stop {rs:Rs α} (h:X5 G N rs n []):Qr n rs rs
 | more {rs rs':Rs α} {ns:List α} (h:X5 G N rs n ns) (ne:ns≠[]) (k:Qr n (rs++[(n,ns)]) rs'):Qr n rs rs'
inductive All:Nat->Rs α->Rs α->Prop
 | stop {n:Nat} {rs:Rs α} (h:X5 G N rs n []):All n rs rs
 | more {n:Nat} {rs rs' rs'':Rs α} (h:Qr G N n rs rs') (ne:rs'≠rs) (k:All (n+1) rs' rs''):All n rs rs''
variable {G N}
theorem Qp {rs:Rs α} {n:Nat} {ns:List α} {z:α}:qD (rs++[(n,ns)]) z=match qD rs z with | some m=>some m | none=>if z∈ns then some n else none:=by
 unfold qD
 rw[List.find?_append]
 cases e:rs.find? (λr=>decide (z∈r.2)) with
 | some r=>rfl
 | none=>
   by_cases c:z∈ns
   . simp [c]
   . simp [c]
theorem zD {rs:Rs α} {z:α}:qD rs z=none↔∀r∈rs,z∉r.2:=by
 unfold qD
 rw[Option.map_eq_none_iff,List.find?_eq_none]
 simp
theorem jL {rs:Rs α} {n m:Nat} {ns:List α} {z:α} (h:qD rs z=some m):J0 (rs++[(n,ns)]) z=J0 rs z/\J0 rs z < rs.length:=by
 have ex:∃r∈rs,z∈r.2:=Classical.byContradiction λno=>by
   have:=zD.mpr λr hr hz=>no ⟨r,hr,hz⟩
   rw[h]at this
   cases this
 obtain⟨r,hr,hz⟩:=ex
 have lt:J0 rs z < rs.length:=List.findIdx_lt_length_of_exists ⟨r,hr,decide_eq_true hz⟩
 refine⟨?_,lt⟩
 unfold J0 at lt ⊢
 rw[List.findIdx_append,if_pos lt]
theorem wa {rs:Rs α} {n:Nat} {ns:List α} {z:α} (h:qD rs z=none) (hz:z∈ns):J0 (rs++[(n,ns)]) z=rs.length:=by
 have e:J0 rs z=rs.length:=by
   unfold J0
   rw[List.findIdx_eq_length]
   intro r hr
   exact decide_eq_false (zD.mp h r hr)
 unfold J0 at e ⊢
 rw[List.findIdx_append,if_neg (by rw[e];exact Nat.lt_irrefl _)]
 simp [hz,List.findIdx_cons]
variable (G N) in
structure ka (rs:Rs α) (n:Nat):Prop where
 inN:∀{x m},qD rs x=some m->x∈N
 le:∀{x m},qD rs x=some m->m<=n
 n1:∀{x k m},qD rs x=some k->m < k->∃y∈G x,qD rs y=some m/\J0 rs y < J0 rs x
 n2:∀{x y k},qD rs x=some k->y∈G x->qD rs y≠some k
 n3:∀{x y k},qD rs x=some k->y∈G x->(∀m,qD rs y=some m->k < m)->∃z∈G y,qD rs z=some k/\J0 rs z < J0 rs x
 n4:∀{x y k m},qD rs x=some k->y∈G x->qD rs y=some m->m < k->J0 rs y < J0 rs x
theorem Qy {rs:Rs α} {n m:Nat} {ns:List α} {z:α} (h:qD rs z=some m):qD (rs++[(n,ns)]) z=some m:=by rw[Qp,h]
theorem xc {rs:Rs α} {n:Nat} {ns:List α} {z:α} (h:qD rs z=none) (hz:z∈ns):qD (rs++[(n,ns)]) z=some n:=by
 rw[Qp,h]
 exact if_pos hz
theorem qR {rs:Rs α} {n m:Nat} {ns:List α} {z:α} (h:qD (rs++[(n,ns)]) z=some m):(qD rs z=some m/\J0 (rs++[(n,ns)]) z=J0 rs z/\J0 rs z < rs.length)\/(qD rs z=none/\z∈ns/\m=n/\J0 (rs++[(n,ns)]) z=rs.length):=by
 cases e:qD rs z with
 | some k=>
   rw[Qy e]at h
   cases h
   exact .inl ⟨rfl,jL e⟩
 | none=>
   rw[Qp,e]at h
   by_cases c:z∈ns
   . have h:(if z∈ns then some n else none)=some m:=h
     rw[if_pos c]at h
     cases h
     exact .inr ⟨rfl,c,rfl,wa e c⟩
   . have h:(if z∈ns then some n else none)=some m:=h
     rw[if_neg c]at h
     cases h
theorem VC {rs:Rs α} {n:Nat} {ns:List α} {z:α} (h:qD (rs++[(n,ns)]) z=none):qD rs z=none:=by
 cases e:qD rs z with
 | none=>rfl
 | some k=>rw[Qy e]at h;cases h
theorem ka.more {rs:Rs α} {n:Nat} {ns:List α} (v:ka G N rs n) (r:X5 G N rs n ns):ka G N (rs++[(n,ns)]) n:=by
 refine⟨λ{x m} h=>?_,λ{x m} h=>?_,λ{x k m} h lt=>?_,λ{x y k} h hy e=>?_,λ{x y k} h hy gt=>?_,λ{x y k m} h hy ey lt=>?_⟩
 . rcases qR h with ⟨h,_⟩ | ⟨_,h,_⟩
   . exact v.inN h
   . exact((r.iff x).mp h).1
 . rcases qR h with ⟨h,_⟩ | ⟨_,_,rfl,_⟩
   . exact v.le h
   . exact Nat.le_refl _
 . rcases qR h with ⟨h,es,_⟩ | ⟨h,hx,rfl,es⟩
   . obtain⟨y,hy,ey,ly⟩:=v.n1 h lt
     exact⟨y,hy,Qy ey,by rw[es,(jL ey).1];exact ly⟩
   . obtain⟨y,hy,ey⟩:=((r.iff x).mp hx).2.2.1 m lt
     exact⟨y,hy,Qy ey,by rw[es,(jL (n:=k) (ns:=ns) ey).1];exact(jL (n:=k) (ns:=ns) ey).2⟩
 . rcases qR h with ⟨h,_⟩ | ⟨h,hx,rfl,_⟩
   . rcases qR e with ⟨e,_⟩ | ⟨e1,hy',e2,_⟩
     . exact v.n2 h hy e
     . obtain⟨z,hz,ez,_⟩:=v.n3 h hy (λm q=>by rw[e1]at q;cases q)
       rw[e2]at ez
       exact((r.iff y).mp hy').2.2.2.1 z hz ez
   . have g:=((r.iff x).mp hx).2.2
     rcases qR e with ⟨e,_⟩ | ⟨e,hy',_,_⟩
     . exact g.2.1 y hy e
     . obtain⟨z,hz,ez⟩:=g.2.2 y hy e
       exact((r.iff y).mp hy').2.2.2.1 z hz ez
 . rcases qR h with ⟨h,es,_⟩ | ⟨h,hx,rfl,es⟩
   . obtain⟨z,hz,ez,lz⟩:=v.n3 h hy (λm q=>gt m (Qy q))
     exact⟨z,hz,Qy ez,by rw[es,(jL ez).1];exact lz⟩
   . have bare:qD rs y=none:=by
       cases e:qD rs y with
       | none=>rfl
       | some m=>
         have:=gt m (Qy e)
         have:=v.le e
         omega
     obtain⟨z,hz,ez⟩:=((r.iff x).mp hx).2.2.2.2 y hy bare
     exact⟨z,hz,Qy ez,by rw[es,(jL (n:=k) (ns:=ns) ez).1];exact(jL (n:=k) (ns:=ns) ez).2⟩
 . rcases qR h with ⟨h,es,_⟩ | ⟨h,hx,rfl,es⟩
   . rcases qR ey with ⟨ey,es',_⟩ | ⟨_,_,em,_⟩
     . rw[es,es']
       exact v.n4 h hy ey lt
     . have:=v.le h
       omega
   . rcases qR ey with ⟨ey,es',l'⟩ | ⟨_,_,rfl,_⟩
     . rw[es,es']
       exact l'
     . omega
variable (G N) in
def EP (rs:Rs α) (m:Nat):Prop:=∀x∈N,qD rs x=none->(∀j,j < m->∃y∈G x,qD rs y=some j)->(∀y∈G x,qD rs y≠some m)->∃y∈G x,qD rs y=none/\∀z∈G y,qD rs z≠some m
theorem VE {rs:Rs α} {n:Nat} (r:X5 G N rs n []):EP G N rs n:=λx hx e lo hi=>Classical.byContradiction λno=>by
 refine absurd ((r.iff x).mpr ⟨hx,e,lo,hi,λy hy ey=>Classical.byContradiction λq=>no ⟨y,hy,ey,λz hz ez=>q ⟨z,hz,ez⟩⟩⟩) (by simp)
theorem uo {rs:Rs α} {n m:Nat} {ns:List α} (v:ka G N rs n) (r:X5 G N rs n ns) (lt:m < n) (h:EP G N rs m):EP G N (rs++[(n,ns)]) m:=λx hx e lo hi=>by
 have old:∀{z j},j<=m->qD (rs++[(n,ns)]) z=some j->qD rs z=some j:=λ{z j} hj ez=>by
   rcases qR ez with ⟨ez,_⟩ | ⟨_,_,rfl,_⟩
   . exact ez
   . omega
 obtain⟨y,hy,ey,ly⟩:=h x hx (VC e) (λj hj=>let ⟨y,hy,ey⟩:=lo j hj;⟨y,hy,old (by omega) ey⟩) (λy hy ey=>hi y hy (Qy ey))
 refine⟨y,hy,?_,λz hz ez=>ly z hz (old (Nat.le_refl _) ez)⟩
 cases q:qD (rs++[(n,ns)]) y with
 | none=>rfl
 | some k=>
   rcases qR q with ⟨q,_⟩ | ⟨_,hy',rfl,_⟩
   . rw[ey]at q;cases q
   . obtain⟨z,hz,ez⟩:=((r.iff y).mp hy').2.2.1 m lt
     exact absurd ez (ly z hz)
theorem uh {n:Nat} {rs rs':Rs α} (g:Qr G N n rs rs'):ka G N rs n->(∀m,m < n->EP G N rs m)->ka G N rs' n/\∀m,m<=n->EP G N rs' m:=by
 induction g with
 | stop r=>exact λv h=>⟨v,λm hm=>by
     rcases Nat.lt_or_ge m n with c | c
     . exact h m c
     . have:m=n:=by omega
       subst this
       exact VE r⟩
 | more r ne k ih=>exact λv h=>ih (v.more r) λm hm=>uo v r hm (h m hm)
theorem Gi (cl:∀x∈N,∀y∈G x,y∈N) {n:Nat} {rs rs':Rs α} (a:All G N n rs rs'):ka G N rs n->(∀x m,qD rs x=some m->m < n)->(∀m,m < n->EP G N rs m)->ZG G (·∈N) (qD rs') (J0 rs'):=by
 induction a with
 | @stop n rs r=>
   intro v lt h
   refine⟨λ{x y} hx hy=>cl x hx y hy,λ{x n m} _=>v.n1,λ{x y n} _=>v.n2,λ{x y n} _=>v.n3,λ{x y n m} _=>v.n4,λ{x m} hx e lo hi=>?_⟩
   rcases Nat.lt_trichotomy m n with c | rfl | c
   . exact h m c x hx e lo hi
   . exact VE r x hx e lo hi
   . obtain⟨y,_,ey⟩:=lo n c
     have:=lt y n ey
     omega
 | @more n rs rs1 rs2 g ne k ih=>
   intro v lt h
   obtain⟨v',h'⟩:=uh g v h
   exact ih ⟨v'.inN,λ{x m} e=>Nat.le_succ_of_le (v'.le e),v'.n1,v'.n2,v'.n3,v'.n4⟩ (λx m e=>Nat.lt_succ_of_le (v'.le e)) λm hm=>h' m (by omega)
theorem VR (n:Nat):ka G N ([]:Rs α) n:=⟨λh=>(nomatch h),λh=>(nomatch h),λh=>(nomatch h),λh=>(nomatch h),λh=>(nomatch h),λh=>(nomatch h)⟩
theorem yJ (cl:∀x∈N,∀y∈G x,y∈N) {rs:Rs α} (a:All G N 0 [] rs):ZG G (·∈N) (qD rs) (J0 rs):=Gi cl a (VR 0) (λx m h=>(nomatch h)) λm h=>absurd h (Nat.not_lt_zero m)
end
end MLab
namespace Rb
inductive W where
 | num (n:Nat)
 | edl (b:Nat)
deriving DecidableEq
def okW:W->Prop
 | .num n=>n < 16
 | .edl b=>b < 65536
end Rb
set_option linter.all false
namespace MLab
section
variable {α:Type} (G:α->List α)
def u4 (b:α×Nat):List (α×Nat):=(G b.1).map (λy=>(y,b.2))++(List.range b.2).map λk=>(b.1,k)
def gS:α ⊕ Nat->List (α ⊕ Nat)
 | .inl z=>(G z).map .inl
 | .inr h=>(List.range h).map .inr
def YF (num:α->Option Nat):α ⊕ Nat->Option Nat
 | .inl z=>num z
 | .inr h=>some h
def Ny (stp:α->Nat):α ⊕ Nat->Nat
 | .inl z=>stp z
 | .inr h=>h
def okS (ok:α->Prop):α ⊕ Nat->Prop
 | .inl z=>ok z
 | .inr _=>True
variable {G} {ok:α->Prop} {num:α->Option Nat} {stp:α->Nat}
theorem N1 (L:ZG G ok num stp):ZG (gS G) (okS ok) (YF num) (Ny stp) where
 cl:=λ{x y} hx hy=>by
   cases x with
   | inl z=>
     obtain⟨y',hy',rfl⟩:=List.mem_map.mp hy
     exact L.cl hx hy'
   | inr h=>
     obtain⟨k,_,rfl⟩:=List.mem_map.mp hy
     trivial
 n1:=λ{x n m} hx e lt=>by
   cases x with
   | inl z=>
     obtain⟨y,hy,ey,ly⟩:=L.n1 hx e lt
     exact⟨.inl y,List.mem_map.mpr ⟨y,hy,rfl⟩,ey,ly⟩
   | inr h=>
     obtain rfl:h=n:=Option.some.inj e
     exact⟨.inr m,List.mem_map.mpr ⟨m,List.mem_range.mpr lt,rfl⟩,rfl,lt⟩
 n2:=λ{x y n} hx e hy=>by
   cases x with
   | inl z=>
     obtain⟨y',hy',rfl⟩:=List.mem_map.mp hy
     exact L.n2 hx e hy'
   | inr h=>
     obtain⟨k,hk,rfl⟩:=List.mem_map.mp hy
     obtain rfl:h=n:=Option.some.inj e
     intro q
     have:k=h:=Option.some.inj q
     have:=List.mem_range.mp hk
     omega
 n3:=λ{x y n} hx e hy gt=>by
   cases x with
   | inl z=>
     obtain⟨y',hy',rfl⟩:=List.mem_map.mp hy
     obtain⟨u,hu,eu,lu⟩:=L.n3 hx e hy' gt
     exact⟨.inl u,List.mem_map.mpr ⟨u,hu,rfl⟩,eu,lu⟩
   | inr h=>
     obtain⟨k,hk,rfl⟩:=List.mem_map.mp hy
     obtain rfl:h=n:=Option.some.inj e
     have:=gt k rfl
     have:=List.mem_range.mp hk
     omega
 n4:=λ{x y n m} hx e hy ey lt=>by
   cases x with
   | inl z=>
     obtain⟨y',hy',rfl⟩:=List.mem_map.mp hy
     exact L.n4 hx e hy' ey lt
   | inr h=>
     obtain⟨k,hk,rfl⟩:=List.mem_map.mp hy
     exact List.mem_range.mp hk
 e:=λ{x m} hx e lo hi=>by
   cases x with
   | inl z=>
     obtain⟨y,hy,ey,ly⟩:=L.e hx e (λj hj=>by
       obtain⟨y,hy,ey⟩:=lo j hj
       obtain⟨y',hy',rfl⟩:=List.mem_map.mp hy
       exact⟨y',hy',ey⟩) (λy hy=>hi (.inl y) (List.mem_map.mpr ⟨y,hy,rfl⟩))
     refine⟨.inl y,List.mem_map.mpr ⟨y,hy,rfl⟩,ey,λu hu=>?_⟩
     obtain⟨u',hu',rfl⟩:=List.mem_map.mp hu
     exact ly u' hu'
   | inr h=>cases e
def two (b:α×Nat):List (α ⊕ Nat):=[.inl b.1,.inr b.2]
theorem Xn {b:α×Nat} {c:List (α ⊕ Nat)}:c∈mv (gS G) (two b)↔∃b'∈u4 G b,c=two b':=by
 unfold two u4
 rw[jH]
 constructor
 . rintro⟨p,x,y,q,e,hy,rfl⟩
   cases p with
   | nil=>
     cases e
     obtain⟨y',hy',rfl⟩:=List.mem_map.mp hy
     exact⟨(y',b.2),List.mem_append_left _ (List.mem_map.mpr ⟨y',hy',rfl⟩),rfl⟩
   | cons u p=>
     cases p with
     | nil=>
       cases e
       obtain⟨k,hk,rfl⟩:=List.mem_map.mp hy
       exact⟨(b.1,k),List.mem_append_right _ (List.mem_map.mpr ⟨k,hk,rfl⟩),rfl⟩
     | cons v p=>cases p<;>cases e
 . rintro⟨b',hb,rfl⟩
   rcases List.mem_append.mp hb with hb | hb
   . obtain⟨y,hy,rfl⟩:=List.mem_map.mp hb
     exact⟨[],.inl b.1,.inl y,[.inr b.2],rfl,List.mem_map.mpr ⟨y,hy,rfl⟩,rfl⟩
   . obtain⟨k,hk,rfl⟩:=List.mem_map.mp hb
     exact⟨[.inl b.1],.inr b.2,.inr k,[],rfl,List.mem_map.mpr ⟨k,hk,rfl⟩,rfl⟩
mutual
theorem WJ {b:α×Nat}:zg (u4 G) b->zg (mv (gS G)) (two b)
 | .mk w=>.mk λc hc=>by
   obtain⟨b',hb,rfl⟩:=Xn.mp hc
   exact won_two (w b' hb)
theorem won_two {b:α×Nat}:Won (u4 G) b->Won (mv (gS G)) (two b)
 | .mk (b:=b') m l=>.mk (Xn.mpr ⟨b',m,rfl⟩) (WJ l)
end
mutual
theorem Wg {c:List (α ⊕ Nat)}:zg (mv (gS G)) c->∀b:α×Nat,c=two b->zg (u4 G) b
 | .mk w=>λb e=>.mk λb' hb=>two_won (w (two b') (by rw[e];exact Xn.mpr ⟨b',hb,rfl⟩)) b' rfl
theorem two_won {c:List (α ⊕ Nat)}:Won (mv (gS G)) c->∀b:α×Nat,c=two b->Won (u4 G) b
 | .mk m l=>λb e=>by
   rw[e]at m
   obtain⟨b',hb,e'⟩:=Xn.mp m
   exact .mk hb (Wg l b' e')
end
theorem ZZ (L:ZG G ok num stp) {z:α} {h:Nat} (hz:ok z):zg (u4 G) (z,h)↔num z=some h:=by
 have hk:∀x∈two (z,h),okS ok x:=λx hx=>by
   unfold two at hx
   rcases List.mem_cons.mp hx with rfl | hx
   . exact hz
   . rw[List.mem_singleton.mp hx];trivial
 have h1:zg (u4 G) (z,h)↔zg (mv (gS G)) (two (z,h)):=⟨WJ,λl=>Wg l _ rfl⟩
 rw[h1,yD (N1 L) hk]
 unfold X4 two ends QA
 cases e:num z with
 | none=>simp [YF,e]
 | some n=>
   simp only[List.filter_cons,List.filterMap_cons,YF,e]
   show (0=0/\n^^^ (h^^^0)=0)↔_
   rw[Nat.xor_zero]
   constructor
   . rintro⟨_,x⟩
     have:n=h:=Zf (c:=h) (by rw[x,Nat.xor_self])
     rw[this]
   . intro q
     cases q
     exact⟨rfl,Nat.xor_self _⟩
end
section
variable {β:Type} {M:β->List β}
end
end MLab
set_option linter.all false
namespace MLab
section
variable {α:Type} [DecidableEq α] {G:α->List α} {N:List α}
theorem zj:∀{l m:List α},l.Sublist m->m.Nodup->l=m.filter λx=>decide (x∈l)
 | _,_,.slnil,_=>rfl
 | l,a::m,.cons _ h,nd=>by
   rw[List.nodup_cons]at nd
   have na:a∉l:=λz=>nd.1 (h.subset z)
   rw[List.filter_cons,if_neg (by simpa using na)]
   exact zj h nd.2
 | a::l,_::m,.cons₂ _ h,nd=>by
   rw[List.nodup_cons]at nd
   rw[List.filter_cons,if_pos (by simp)]
   congr 1
   have e:=zj h nd.2
   refine e.trans (List.filter_congr λx hx=>?_)
   have ne:x≠a:=λz=>nd.1 (z▸hx)
   simp [ne]
theorem X5.uniq (nd:N.Nodup) {rs:Rs α} {n:Nat} {ns ms:List α} (a:X5 G N rs n ns) (b:X5 G N rs n ms):ns=ms:=by
 rw[zj a.sub nd,zj b.sub nd]
 exact List.filter_congr λx _=>decide_eq_decide.mpr ((a.iff x).trans (b.iff x).symm)
theorem Qr.uniq (nd:N.Nodup) {n:Nat} {rs a b:Rs α} (h:Qr G N n rs a):Qr G N n rs b->a=b:=by
 induction h with
 | stop r=>
   intro k
   cases k with
   | stop _=>rfl
   | more r' ne _=>exact absurd (r'.uniq nd r) ne
 | more r ne k ih=>
   intro k'
   cases k' with
   | stop r'=>exact absurd (r.uniq nd r') ne
   | more r' _ k2=>
     have:=r.uniq nd r'
     subst this
     exact ih k2
theorem Qr.same {n:Nat} {rs:Rs α} (h:Qr G N n rs rs):X5 G N rs n []:=by
 have len:∀{rs a:Rs α},Qr G N n rs a->rs.length<=a.length:=λ{rs a} h=>by
   induction h with
   | stop _=>exact Nat.le_refl _
   | more r ne k ih=>
     rw[List.length_append]at ih
     omega
 generalize e:rs=a at h
 have e':rs=a:=e
 cases h with
 | stop r=>exact r
 | more r ne k=>
   have:=len k
   rw[List.length_append,List.length_singleton]at this
   omega
theorem All.uniq (nd:N.Nodup) {n:Nat} {rs a b:Rs α} (h:All G N n rs a):All G N n rs b->a=b:=by
 induction h with
 | stop r=>
   intro k
   cases k with
   | stop _=>rfl
   | more g ne _=>
     have:=g.uniq nd (Qr.stop r)
     exact absurd this ne
 | more g ne k ih=>
   intro k'
   cases k' with
   | stop r'=>exact absurd (g.uniq nd (Qr.stop r')) ne
   | more g' _ k2=>
     have:=g.uniq nd g'
     subst this
     exact ih k2
variable (G N) in
inductive Gj:Nat->Rs α->Prop
 | nil:Gj 0 []
 | more {n:Nat} {rs rs':Rs α} (h:Gj n rs) (g:Qr G N n rs rs'):Gj (n+1) rs'
end
end MLab
set_option linter.all false
namespace MLab
section
variable {α:Type} [DecidableEq α] {G:α->List α} {N:List α}
variable (G N) in
def SR (rs:Rs α) (n:Nat) (ns:List α):Prop:=∀x∈ns,x∈N/\qD rs x=none/\Zd G (qD rs) x n
theorem ka.one {rs:Rs α} {n:Nat} {ns:List α} (v:ka G N rs n) (r:SR G N rs n ns):ka G N (rs++[(n,ns)]) n:=by
 refine⟨λ{x m} h=>?_,λ{x m} h=>?_,λ{x k m} h lt=>?_,λ{x y k} h hy e=>?_,λ{x y k} h hy gt=>?_,λ{x y k m} h hy ey lt=>?_⟩
 . rcases qR h with ⟨h,_⟩ | ⟨_,h,_⟩
   . exact v.inN h
   . exact(r x h).1
 . rcases qR h with ⟨h,_⟩ | ⟨_,_,rfl,_⟩
   . exact v.le h
   . exact Nat.le_refl _
 . rcases qR h with ⟨h,es,_⟩ | ⟨h,hx,rfl,es⟩
   . obtain⟨y,hy,ey,ly⟩:=v.n1 h lt
     exact⟨y,hy,Qy ey,by rw[es,(jL ey).1];exact ly⟩
   . obtain⟨y,hy,ey⟩:=(r x hx).2.2.1 m lt
     exact⟨y,hy,Qy ey,by rw[es,(jL (n:=k) (ns:=ns) ey).1];exact(jL (n:=k) (ns:=ns) ey).2⟩
 . rcases qR h with ⟨h,_⟩ | ⟨h,hx,rfl,_⟩
   . rcases qR e with ⟨e,_⟩ | ⟨e1,hy',e2,_⟩
     . exact v.n2 h hy e
     . obtain⟨z,hz,ez,_⟩:=v.n3 h hy (λm q=>by rw[e1]at q;cases q)
       rw[e2]at ez
       exact(r y hy').2.2.2.1 z hz ez
   . have g:=(r x hx).2.2
     rcases qR e with ⟨e,_⟩ | ⟨e,hy',_,_⟩
     . exact g.2.1 y hy e
     . obtain⟨z,hz,ez⟩:=g.2.2 y hy e
       exact(r y hy').2.2.2.1 z hz ez
 . rcases qR h with ⟨h,es,_⟩ | ⟨h,hx,rfl,es⟩
   . obtain⟨z,hz,ez,lz⟩:=v.n3 h hy (λm q=>gt m (Qy q))
     exact⟨z,hz,Qy ez,by rw[es,(jL ez).1];exact lz⟩
   . have bare:qD rs y=none:=by
       cases e:qD rs y with
       | none=>rfl
       | some m=>
         have:=gt m (Qy e)
         have:=v.le e
         omega
     obtain⟨z,hz,ez⟩:=(r x hx).2.2.2.2 y hy bare
     exact⟨z,hz,Qy ez,by rw[es,(jL (n:=k) (ns:=ns) ez).1];exact(jL (n:=k) (ns:=ns) ez).2⟩
 . rcases qR h with ⟨h,es,_⟩ | ⟨h,hx,rfl,es⟩
   . rcases qR ey with ⟨ey,es',_⟩ | ⟨_,_,em,_⟩
     . rw[es,es']
       exact v.n4 h hy ey lt
     . have:=v.le h
       omega
   . rcases qR ey with ⟨ey,es',l'⟩ | ⟨_,_,rfl,_⟩
     . rw[es,es']
       exact l'
     . omega
theorem Gb {rs:Rs α} {n m:Nat} {ns:List α} (v:ka G N rs n) (r:SR G N rs n ns) (lt:m < n) (h:EP G N rs m):EP G N (rs++[(n,ns)]) m:=λx hx e lo hi=>by
 have old:∀{z j},j<=m->qD (rs++[(n,ns)]) z=some j->qD rs z=some j:=λ{z j} hj ez=>by
   rcases qR ez with ⟨ez,_⟩ | ⟨_,_,rfl,_⟩
   . exact ez
   . omega
 obtain⟨y,hy,ey,ly⟩:=h x hx (VC e) (λj hj=>let ⟨y,hy,ey⟩:=lo j hj;⟨y,hy,old (by omega) ey⟩) (λy hy ey=>hi y hy (Qy ey))
 refine⟨y,hy,?_,λz hz ez=>ly z hz (old (Nat.le_refl _) ez)⟩
 cases q:qD (rs++[(n,ns)]) y with
 | none=>rfl
 | some k=>
   rcases qR q with ⟨q,_⟩ | ⟨_,hy',rfl,_⟩
   . rw[ey]at q;cases q
   . obtain⟨z,hz,ez⟩:=(r y hy').2.2.1 m lt
     exact absurd ez (ly z hz)
variable (G N) in
structure Pt (rs:Rs α) (n:Nat):Prop where
 val:ka G N rs n
 ep:∀m,m < n->EP G N rs m
theorem Pt.nil:Pt G N ([]:Rs α) 0:=⟨VR 0,λm h=>absurd h (Nat.not_lt_zero m)⟩
theorem Pt.one {rs:Rs α} {n:Nat} {ns:List α} (p:Pt G N rs n) (r:SR G N rs n ns):Pt G N (rs++[(n,ns)]) n:=⟨p.val.one r,λm h=>Gb p.val r h (p.ep m h)⟩
theorem Pt.next {rs:Rs α} {n:Nat} (p:Pt G N rs n) (no:∀x∈N,qD rs x=none->¬Zd G (qD rs) x n):Pt G N rs (n+1):=by
 refine⟨⟨p.val.inN,λe=>Nat.le_succ_of_le (p.val.le e),p.val.n1,p.val.n2,p.val.n3,p.val.n4⟩,λm h=>?_⟩
 rcases Nat.lt_or_ge m n with c | c
 . exact p.ep m c
 . have:m=n:=by omega
   subst this
   exact VE ⟨λx=>⟨λh=>(nomatch h),λ⟨a,b,c⟩=>absurd c (no x a b)⟩,List.nil_sublist _⟩
theorem Pt.lab (cl:∀x∈N,∀y∈G x,y∈N) {rs:Rs α} {n:Nat} (p:Pt G N rs n) (big:∀x∈N,qD rs x=none->¬∀j,j < n->∃y∈G x,qD rs y=some j):ZG G (·∈N) (qD rs) (J0 rs):=by
 refine⟨λ{x y} hx hy=>cl x hx y hy,λ{x n m} _=>p.val.n1,λ{x y n} _=>p.val.n2,λ{x y n} _=>p.val.n3,λ{x y n m} _=>p.val.n4,λ{x m} hx e lo hi=>?_⟩
 rcases Nat.lt_or_ge m n with c | c
 . exact p.ep m c x hx e lo hi
 . exact absurd (λj hj=>lo j (by omega)) (big x hx e)
theorem KP {ok:α->Prop} {num num':α->Option Nat} {stp stp':α->Nat} (L:ZG G ok num stp) (L':ZG G ok num' stp') {x:α} (hx:ok x):num x=num' x:=by
 have h:∀h,num x=some h↔num' x=some h:=λh=>(ZZ L hx).symm.trans (ZZ L' hx)
 cases e:num x with
 | some n=>exact((h n).mp e).symm
 | none=>
   cases e':num' x with
   | none=>rfl
   | some n=>rw[(h n).mpr e']at e;cases e
end
end MLab
set_option linter.all false
namespace MLab
section
variable {α:Type} [DecidableEq α] {G:α->List α} {N:List α}
theorem Y9 {p q:α->Bool}:∀{l:List α},(∀x∈l,q x=true->p x=true)->(∃x∈l,p x=true/\q x=false)->l.countP q < l.countP p
 | [],_,⟨_,h,_⟩=>nomatch h
 | a::l,h,⟨x,hx,hp,hq⟩=>by
   have le:l.countP q<=l.countP p:=List.countP_mono_left λy hy=>h y (List.mem_cons_of_mem _ hy)
   rw[List.countP_cons,List.countP_cons]
   rcases List.mem_cons.mp hx with e | hx
   . subst e
     rw[hp,hq]
     simp
     omega
   . have ih:=Y9 (l:=l) (λy hy=>h y (List.mem_cons_of_mem _ hy)) ⟨x,hx,hp,hq⟩
     have ha:=h a List.mem_cons_self
     cases e1:q a with
     | true=>rw[ha e1];simp;omega
     | false=>simp;split<;>omega
def bare (N:List α) (rs:Rs α):Nat:=N.countP λx=>(qD rs x).isNone
theorem X5.ex (rs:Rs α) (n:Nat):∃ns,X5 G N rs n ns:=by
 classical
 refine⟨N.filter λx=>decide (qD rs x=none/\Zd G (qD rs) x n),λx=>?_,List.filter_sublist⟩
 rw[List.mem_filter,decide_eq_true_iff]
theorem vZ {rs:Rs α} {n:Nat} {ns:List α} (h:X5 G N rs n ns) (ne:ns≠[]):bare N (rs++[(n,ns)]) < bare N rs:=by
 obtain⟨x,hx⟩:=List.exists_mem_of_ne_nil ns ne
 obtain⟨h1,h2,_⟩:=(h.iff x).mp hx
 refine Y9 (λy _ hy=>?_) ⟨x,h1,by rw[h2];rfl,?_⟩
 . rw[Qp]at hy
   cases e:qD rs y with
   | some m=>rw[e]at hy;cases hy
   | none=>rfl
 . rw[Qp,h2]
   simp [hx]
theorem Qr.ex (n:Nat):∀(m:Nat) (rs:Rs α),bare N rs<=m->∃rs',Qr G N n rs rs'/\(rs'=rs\/bare N rs' < bare N rs)
 | m,rs,hm=>by
   obtain⟨ns,hr⟩:=X5.ex (G:=G) (N:=N) rs n
   by_cases e:ns=[]
   . subst e
     exact⟨rs,.stop hr,.inl rfl⟩
   . have lt:=vZ hr e
     cases m with
     | zero=>omega
     | succ m=>
       obtain⟨rs',g,k⟩:=Qr.ex n m (rs++[(n,ns)]) (by omega)
       refine⟨rs',.more hr e g,.inr ?_⟩
       rcases k with k | k
       . rw[k];exact lt
       . omega
theorem All.ex:∀(m n:Nat) (rs:Rs α),bare N rs<=m->∃rs',All G N n rs rs'
 | m,n,rs,hm=>by
   obtain⟨rs1,g,k⟩:=Qr.ex (G:=G) n (bare N rs) rs (Nat.le_refl _)
   by_cases e:rs1=rs
   . subst e
     exact⟨rs1,.stop g.same⟩
   . rcases k with k | k
     . exact absurd k e
     . cases m with
       | zero=>omega
       | succ m=>
         obtain⟨rs',a⟩:=All.ex m (n+1) rs1 (by omega)
         exact⟨rs',.more g e a⟩
end
end MLab
set_option Elab.async false
set_option linter.all false
set_option maxRecDepth 100000
set_option maxHeartbeats 4000000
namespace Rh
open PySem L2
def top (i:Nat):Stmt:=PySem.Challenge.pw_ringheaps_k82_least_grounds.main.body.getD i (.Pass ⟨0,0,0,0⟩)
abbrev Zn:Stmt:=top 16
abbrev Uk:Stmt:=top 50
abbrev zq:Stmt:=top 51
abbrev zM:Stmt:=top 52
abbrev zO:Stmt:=top 53
abbrev zR:Stmt:=top 54
abbrev Ug:Stmt:=top 55
abbrev YE:Stmt:=top 60
end Rh
namespace Rh
open PySem L2 PyProof.Rows
structure jG (K:PySem.W.Frag) (mg:Str->Option Value) (x:Str) (st:Stmt) (ps:List Str) (f:Addr) (fd:FuncData):Prop where
 fn:j7 K x x st f fd
 ns:mg x=some (.ref f)
 bi:j8 K fd ps []
theorem qY {X:Cx} {x:Str} {st:Stmt} {ps:List Str} {f:Addr} {fd:FuncData} {k:Nat} {sp:Sp} {e:Expr} {es:List Expr} {t:TA} {p pos:Pos} (h:jG X.K X.mg x st ps f fd) (G:qv X.prog X.w X.K X.mg X.base qV k f fd ps sp) (hr:jg k X.A)
   (hg:Gl X x) (ha:JA X (e::es) t) (hdb:(x==("__debug__":Str))=false:=by decide) (he:starEach (e::es) X.env=(false,eval e X.env)::starEach es X.env:=by rfl) (hpl:(backTo pos (starEach es X.env)).any (·.1)=false:=by rfl):
   JE X (.Call (.Name x p) (e::es) [] pos) (Wj sp [] E0 t):=.of (wu G hr hg h.ns h.fn.kp h.bi .nil Zs ha.to hdb he hpl)
theorem qp {H:Hp} {b p:Addr} {o o':HO} (h:H b=some o) (hp:H p=none):upd H p o' b=some o:=by
 rw[qi (qw h hp)]
 exact h
theorem qg {H:Hp} {p:Addr} {o:HO} (hp:H p=none):qo H (upd H p o):=λb u h=>qp h hp
theorem qo.upd {H H':Hp} {p:Addr} {o:HO} (s:qo H H') (hp:H p=none):qo H (upd H' p o):=λb u h=>by
 rw[qi (qw h hp)]
 exact s b u h
def src (n s t:Int):List (qA×V):=[(Sum.inr "number",.int n),(Sum.inr "seed",.int s),(Sum.inr "turn",.int t)]
theorem nns:¬(Str.ofString "number")=Str.ofString "seed":=by decide+kernel
theorem NP:¬(Str.ofString "number")=Str.ofString "turn":=by decide+kernel
theorem NO:¬(Str.ofString "seed")=Str.ofString "turn":=by decide+kernel
theorem nsn:¬(Str.ofString "seed")=Str.ofString "number":=by decide+kernel
theorem ntn:¬(Str.ofString "turn")=Str.ofString "number":=by decide+kernel
theorem nts:¬(Str.ofString "turn")=Str.ofString "seed":=by decide+kernel
theorem yX {a b:Str} (h:¬a=b):¬(Sum.inr a:qA)=Sum.inr b:=λe=>h (Sum.inr.inj e)
section
variable {H:Hp} {d:Addr} {n s t:Int}
theorem gN (h:H d=some (.dK (src n s t))):jm H d (.str "number") (some (.int n)):=by
 have e:qM (src n s t) (Sum.inr "number":qA)=some (.int n):=je rfl
 have q:=jm.k (k:=(Sum.inr "number":qA)) h
 rw[e]at q
 exact q
theorem gS (h:H d=some (.dK (src n s t))):jm H d (.str "seed") (some (.int s)):=by
 have e:qM (src n s t) (Sum.inr "seed":qA)=some (.int s):=(qZ (yX nns)).trans (je rfl)
 have q:=jm.k (k:=(Sum.inr "seed":qA)) h
 rw[e]at q
 exact q
theorem gT (h:H d=some (.dK (src n s t))):jm H d (.str "turn") (some (.int t)):=by
 have e:qM (src n s t) (Sum.inr "turn":qA)=some (.int t):=(qZ (yX NP)).trans ((qZ (yX NO)).trans (je rfl))
 have q:=jm.k (k:=(Sum.inr "turn":qA)) h
 rw[e]at q
 exact q
theorem G8:(src n s t).length < sizeLine:=qk (by show 3<=1000;decide)
theorem pN (h:H d=some (.dK (src n s t))) (v:Int):Qf H d (.str "number") (.int v) (upd H d (.dK (src v s t))):=by
 have e:jp (src n s t) (Sum.inr "number":qA) (.int v)=src v s t:=by
   unfold jp src
   simp [nsn,ntn]
 have q:=Qf.k (k:=(Sum.inr "number":qA)) (v:=.int v) h G8
 rw[e]at q
 exact q
theorem pT (h:H d=some (.dK (src n s t))) (v:Int):Qf H d (.str "turn") (.int v) (upd H d (.dK (src n s v))):=by
 have e:jp (src n s t) (Sum.inr "turn":qA) (.int v)=src n s v:=by
   unfold jp src
   simp [NP,NO]
 have q:=Qf.k (k:=(Sum.inr "turn":qA)) (v:=.int v) h G8
 rw[e]at q
 exact q
end
def zI:Sp:=λvs H Q _=>∃(d:Addr) (m n s t:Int),vs=[.ref d,.int m]/\H d=some (.dK (src n s t))/\0 < m/\m.natAbs < 2^200/\∀r n' t',0<=r->r < m->Q (.int r) (upd H d (.dK (src n' s t')))
def Wp:Sp:=λvs H Q _=>∃c:Int,vs=[.int c]/\∀d n s,H d=none->Q (.ref d) (upd H d (.dK (src n s 0)))
def kF (K:PySem.W.Frag):Sp:=λvs H Q _=>∃(a:Addr) (ns:List Int) (k:Int),vs=[.ref a,.int k]/\SqL K H a (ns.map V.int)/\0<=k/\∀v,Q (.int v) H
section
variable {P:Program} {w:World} {K:PySem.W.Frag} {mg:Str->Option Value} {base:Heap}
theorem Xy:qu ["_law_source_here","_law_many","_law_digit","_law_number"] ["_law_source_here","_law_many"] (qm zM):=⟨rfl,rfl,rfl,by decide+kernel,rfl,by decide+kernel,by decide+kernel⟩
theorem zt {f:Addr} {fd:FuncData} (F:j7 K "_law_take" "_law_take" zM f fd):qv P w K mg base qV 1 f fd ["_law_source_here","_law_many"] zI:=by
 refine F.okJ Xy (λvs H Q E h=>?_) (λcdv A outer s H vs Q E hr h=>?_)
 . obtain⟨d,m,n,sd,t,rfl,_⟩:=h
   rfl
 . obtain⟨d,m,n,sd,t,rfl,hd,m0,m1,k⟩:=h
   have hu:=jJ hr
   refine⟨_,qe (q5 (qr YW (qG hu (jv 0) qT (λ_ _=>rfl)) qj (qz _))
       (qe (qx (i:=2) Xy.nd rfl (Or.inl rfl) (qP Q3 (qG hu (jv 0) qT (λ_ _=>rfl)) (jv 1)))
       (qe (qS hu (jv 0) qT (qP yf (qG hu (jv 0) qT (λ_ _=>rfl)) (jv 1)) rfl)
       (qh (qB (jv 2))))) qE)
     (qe (qS hu (jv 0) qT (qP Q4 (qG hu (jv 0) qT (λ_ _=>rfl)) qj) rfl)
     (qe (qx (i:=3) Xy.nd rfl (Or.inl rfl) (qP Q3 (qP Q0 (qP Q4 (qG hu (jv 0) qT (λ_ _=>rfl)) (qP Q0 qj (qG hu (jv 0) qT (λ_ _=>rfl)))) qj) qj))
     (qe (qx (i:=3) Xy.nd rfl (Or.inl rfl) (qP Q3 (qP Q0 (jv 3) (jv 3)) qj))
     (qh (qB (qP Q3 (qP ww (qP Q3 (qP Q0 (qP Q4 (jv 3) (qG hu (jv 0) qT (λ_ _=>rfl))) (qP Q4 (jv 3) qj)) qj) qj) (jv 1))))))),?_⟩
   refine⟨_,rfl,d,_,rfl,gN hd,_,_,rfl,rfl,_,rfl,?_⟩
   refine vG (λ_=>?_) (λ_=>?_)
   . refine⟨_,rfl,d,_,rfl,gN hd,_,rfl,_,_,rfl,rfl,m0,?_⟩
     refine⟨_,rfl,d,_,rfl,gN hd,_,rfl,_,_,rfl,rfl,⟨m0,m1⟩,_,rfl,d,_,rfl,pN hd _,?_⟩
     exact⟨_,rfl,k _ _ _ (Int.emod_nonneg _ (by omega)) (Int.emod_lt_of_pos _ m0)⟩
   . refine⟨_,rfl,d,_,rfl,gT hd,_,_,rfl,rfl,_,rfl,d,_,rfl,pT hd _,?_⟩
     have h1:upd H d (.dK (src n sd (t+1))) d=some (.dK (src n sd (t+1))):=qd
     refine⟨_,rfl,d,_,rfl,gS h1,_,rfl,d,_,rfl,gT h1,_,_,rfl,rfl,.inl ⟨by decide,by decide⟩,_,_,rfl,rfl,_,_,rfl,rfl,.inr ⟨by decide,by decide⟩,_,_,rfl,rfl,(by show (0:Int) < 2147483647;decide),?_⟩
     generalize ha:((sd+7919*(t+1))*48271) % 2147483647=x
     have x0:0<=x:=by rw[<-ha];exact Int.emod_nonneg _ (by decide)
     have x1:x < 2147483647:=by rw[<-ha];exact Int.emod_lt_of_pos _ (by decide)
     refine⟨_,rfl,_,rfl,_,_,rfl,rfl,.inl ⟨by omega,by omega⟩,_,_,rfl,rfl,(by show (0:Int) < 2147483629;decide),?_⟩
     generalize hb:(x*x) % 2147483629=y
     have y0:0<=y:=by rw[<-hb];exact Int.emod_nonneg _ (by decide)
     have y1:y < 2147483629:=by rw[<-hb];exact Int.emod_lt_of_pos _ (by decide)
     refine⟨_,rfl,_,rfl,d,_,rfl,gT h1,_,_,rfl,rfl,_,rfl,_,_,rfl,rfl,_,_,rfl,rfl,.inr ⟨by omega,by omega⟩,_,_,rfl,rfl,(by show (0:Int) < 2147483587;decide),_,_,rfl,rfl,⟨by decide,by decide⟩,_,rfl,_,_,rfl,rfl,m0,?_⟩
     exact k _ _ _ (Int.emod_nonneg _ (by omega)) (Int.emod_lt_of_pos _ m0)
end
end Rh
namespace Rh
open PySem L2 PyProof.Rows
structure Jr (mg:Str->Option Value):Prop where
 len:mg "len"=none
 max:mg "max"=none
 min:mg "min"=none
 int:mg "int"=none
 rng:mg "range"=none
theorem vy (n s t:Int):Qt [] (src n s t)=src n s t:=by
 unfold Qt src
 simp only[List.foldl_cons,List.foldl_nil]
 unfold jp
 simp [nns,NP,NO,nsn,ntn,nts]
section
variable {P:Program} {w:World} {K:PySem.W.Frag} {mg:Str->Option Value} {base:Heap}
theorem kI:qu ["_law_cell"] ["_law_cell"] (qm zq):=⟨rfl,rfl,rfl,by decide+kernel,rfl,by decide+kernel,by decide+kernel⟩
theorem vm {f:Addr} {fd:FuncData} (F:j7 K "_law_source" "_law_source" zq f fd) (B:Jr mg):qv P w K mg base qV 1 f fd ["_law_cell"] Wp:=by
 refine F.okJ kI (λvs H Q E h=>?_) (λcdv A outer s H vs Q E hr h=>?_)
 . obtain⟨c,rfl,_⟩:=h
   rfl
 . obtain⟨c,rfl,k⟩:=h
   refine⟨_,qh (qB (uc
     (Yi qT (qP Q0 (qC (Xb rfl) (by rfl) B.max boot_max (qb qj (qb (jv 0) qf)))
       (ji vY (by rfl) B.int boot_int (qb (QC ye (jv 0) (qP Kw qj qj) (qz _)) qf)))
     (Yi qT (qP Q3 (jv 0) qj) (Yi qT qj w5))) rfl rfl (by simp) (by decide))),?_⟩
   intro p hp
   refine⟨_,rfl,_,_,rfl,_,rfl,_,_,rfl,rfl,⟨by decide,by decide,by decide⟩,_,_,rfl,rfl,.inr ⟨_,rfl,_,_,rfl,rfl,.inr ?_,_,rfl,_,_,rfl,rfl,(by show (0:Int) < 2147483629;decide),?_⟩⟩
   . split<;>exact⟨by decide,by decide⟩
   . refine⟨qd,src _ _ 0,rfl,(by show 3<=15;decide),?_⟩
     rw[vy,jE]
     exact k p _ _ hp
theorem Kp:qu ["_law_script","_law_k"] ["_law_script","_law_k"] (qm Uk):=⟨rfl,rfl,rfl,by decide+kernel,rfl,by decide+kernel,by decide+kernel⟩
theorem wI {f:Addr} {fd:FuncData} (F:j7 K "_law_cell_at" "_law_cell_at" Uk f fd) (B:Jr mg):qv P w K mg base qV 1 f fd ["_law_script","_law_k"] (kF K):=by
 refine F.okJ Kp (λvs H Q E h=>?_) (λcdv A outer s H vs Q E hr h=>?_)
 . obtain⟨a,ns,k,rfl,_⟩:=h
   rfl
 . obtain⟨a,ns,k,rfl,hS,k0,q⟩:=h
   refine⟨_,qe (q5 (qr Qw (jv 1) (qC jf (by rfl) B.len boot_len (qb (jv 0) qf)) (qz _))
       (qh (qB (jA Zw (jv 0) (jv 1) (λ_ _=>rfl)))) qE)
     (qh (qB (qP Q4 (qP Q0 qj (jv 1)) qj))),?_⟩
   refine⟨_,rfl,_,rfl,a,_,rfl,.inl hS,_,_,rfl,rfl,_,rfl,?_⟩
   refine vG (λh=>?_) (λ_=>?_)
   . have h1:k < ((ns.map V.int).length:Int):=of_decide_eq_true h
     rw[List.length_map]at h1
     have h2:k.toNat < ns.length:=by omega
     have h3:(ns.map V.int)[k.toNat]?=some (V.int ns[k.toNat]):=by rw[List.getElem?_map,List.getElem?_eq_getElem h2];rfl
     have h4:k=((k.toNat:Nat):Int):=by omega
     refine⟨_,rfl,_,rfl,a,_,k,V.int ns[k.toNat],rfl,rfl,hS,?_,q _⟩
     have h5:=Qi h3
     rw[<-h4]at h5
     exact h5
   . exact⟨_,rfl,_,_,rfl,rfl,.inl ⟨by decide,by decide⟩,_,_,rfl,rfl,q _⟩
end
end Rh
set_option Elab.async false
set_option linter.all false
set_option maxRecDepth 100000
set_option maxHeartbeats 4000000
namespace Rh
open PySem L2 PyProof.Rows
def Fr (H:Hp) (d:Addr) (H':Hp):Prop:=∀b o,H b=some o->b≠d->H' b=some o
theorem Fr.refl {H:Hp} {d:Addr}:Fr H d H:=λ_ _ h _=>h
theorem Fr.at_d {H H':Hp} {d:Addr} {o:HO} (h:Fr H d H'):Fr H d (upd H' d o):=λb u hb hn=>by
 rw[qi hn]
 exact h b u hb hn
theorem Fr.new {H H':Hp} {d p:Addr} {o:HO} (h:Fr H d H') (hp:H' p=none):Fr H d (upd H' p o):=λb u hb hn=>qp (h b u hb hn) hp
theorem Fr.own {H H':Hp} {d p:Addr} {o:HO} (h:Fr H d H') (hp:H p=none):Fr H d (upd H' p o):=λb u hb hn=>by
 rw[qi (qw hb hp)]
 exact h b u hb hn
theorem Fr.trans {H H' H'':Hp} {d:Addr} (h:Fr H d H') (k:Fr H' d H''):Fr H d H'':=λb u hb hn=>k b u (h b u hb hn) hn
theorem Fr.fresh {H H':Hp} {d p:Addr} {o:HO} (h:Fr H d H') (hd:H' d=some o) (hp:H' p=none):H p=none:=by
 cases e:H p with
 | none=>rfl
 | some u=>
   by_cases n:p=d
   . subst n
     rw[hd]at hp
     cases hp
   . rw[h p u e n]at hp
     cases hp
def jC (c:Nat):Bool:=decide (97<=c)&&decide (c<=122)
def jc (z:Str):Bool:=(decide (1<=z.length)&&decide (z.length<=8))&&z.cps.toList.all jC
def UT:Str:="abcdefghijklmnopqrstuvwxyz"
theorem Xj:UT.cps.toList=[97,98,99,100,101,102,103,104,105,106,107,108,109,110,111,112,113,114,115,116,117,118,119,120,121,122]:=by decide+kernel
theorem xt:UT.cps.toList=(List.range 26).map (97+·):=by rw[Xj];rfl
theorem US:UT.length<=sizeLine:=by
 show UT.cps.size<=sizeLine
 rw[<-Array.length_toList,Xj]
 decide
theorem xu {r:Int} (h0:0<=r) (h1:r < 26):xq UT.cps.toList r=some (97+r.toNat):=by
 have h2:UT.cps.toList[r.toNat]?=some (97+r.toNat):=by
   rw[xt,List.getElem?_map,List.getElem?_range (by omega)]
   rfl
 have h4:=Qi h2
 have h5:r=((r.toNat:Nat):Int):=by omega
 rw[<-h5]at h4
 exact h4
theorem Y0 {r:Int} (h0:0<=r) (h1:r < 26):jC (97+r.toNat)=true:=by
 unfold jC
 rw[decide_eq_true (by omega:97<=97+r.toNat),decide_eq_true (by omega:97+r.toNat<=122)]
 rfl
theorem KY (ws:List Nat):(Txt.join (Str.ofString "") (ws.map λk=>(⟨#[k]⟩:Str))).cps.toList=ws:=by
 show (Builtin.Str.glued (Str.ofString "") _).cps.toList=_
 rw[StrLaws.glued_eq_join]
 have e:(Str.ofString "")=⟨#[]⟩:=by decide+kernel
 rw[e,PyProof.Rows.join_ones]
theorem vI {z:Str} {A B:List Nat} {c:Nat} (e:z.cps.toList=A++[c]++B) (hA:A.all jC=true) (hc:jC c=true) (hB:B.all jC=true) (hl:A.length+B.length<=7):jc z=true:=by
 have l:z.length=A.length+1+B.length:=by
   show z.cps.size=_
   rw[<-Array.length_toList,e]
   simp
   omega
 unfold jc
 rw[decide_eq_true (by omega:1<=z.length),decide_eq_true (by omega:z.length<=8),e,List.all_append,List.all_append,hA,hB]
 simp [hc]
def Uv (f s:Int) (k:Nat):Nat:=97+((f+s*(k:Int)) % 26).toNat
theorem wM:∀s∈[(1:Int),3,5,7,9,11],∀k,k < 14->∀j,j < 14->(s*((k:Nat):Int) - s*((j:Nat):Int)) % 26=0->k=j:=by decide+kernel
theorem wL {f s:Int} {k j:Nat} (hs:s=1\/s=3\/s=5\/s=7\/s=9\/s=11) (hk:k < 14) (hj:j < 14) (h:Uv f s k=Uv f s j):k=j:=by
 unfold Uv at h
 refine wM s (by simpa using hs) k hk j hj ?_
 generalize s*(k:Int)=x at h ⊢
 generalize s*(j:Int)=y at h ⊢
 omega
def QP (A:List Nat) (f s:Int) (zs:List Str):Prop:=∀j z,zs[j]?=some z->∃B,z.cps.toList=A++[Uv f s j]++B/\B.all jC=true/\A.length+B.length<=7
theorem QP.snoc {A:List Nat} {f s:Int} {zs:List Str} (h:QP A f s zs) {z:Str} {B:List Nat} (e:z.cps.toList=A++[Uv f s zs.length]++B) (hB:B.all jC=true) (hl:A.length+B.length<=7):QP A f s (zs++[z]):=by
 intro j y hy
 by_cases hj:j < zs.length
 . rw[List.getElem?_append_left hj]at hy
   exact h j y hy
 . have hj':j=zs.length:=by
     have:=(List.getElem?_eq_some_iff.mp hy).1
     rw[List.length_append,List.length_singleton]at this
     omega
   subst hj'
   rw[List.getElem?_append_right (Nat.le_refl _),Nat.sub_self]at hy
   obtain rfl:=(Option.some.inj hy).symm
   exact⟨B,e,hB,hl⟩
theorem QP.names {A:List Nat} {f s:Int} {zs:List Str} (h:QP A f s zs) (hA:A.all jC=true):∀z∈zs,jc z=true:=λz hz=>by
 obtain⟨j,hj⟩:=List.getElem?_of_mem hz
 obtain⟨B,e,hB,hl⟩:=h j z hj
 refine vI e hA ?_ hB hl
 unfold Uv
 exact Y0 (Int.emod_nonneg _ (by decide)) (Int.emod_lt_of_pos _ (by decide))
theorem QP.nodup {A:List Nat} {f s:Int} {zs:List Str} (h:QP A f s zs) (hs:s=1\/s=3\/s=5\/s=7\/s=9\/s=11) (hz:zs.length<=14):zs.Nodup:=by
 refine List.pairwise_iff_getElem.mpr λi j hi hj hij e=>?_
 obtain⟨B,b1,_⟩:=h j _ (List.getElem?_eq_getElem hj)
 obtain⟨C,c1,_⟩:=h i _ (List.getElem?_eq_getElem hi)
 rw[e]at c1
 have e2:(A++[Uv f s j]++B)[A.length]?=(A++[Uv f s i]++C)[A.length]?:=by rw[<-b1,<-c1]
 rw[List.append_assoc,List.append_assoc,List.getElem?_append_right (Nat.le_refl _),List.getElem?_append_right (Nat.le_refl _),Nat.sub_self]at e2
 have e3:Uv f s j=Uv f s i:=Option.some.inj e2
 exact absurd (wL hs (by omega) (by omega) e3) (by omega)
theorem W3 {A:List Nat} (h:A.all jC=true) (n:Nat):(A.take n).all jC=true:=by
 rw[List.all_eq_true]at h ⊢
 exact λx hx=>h x (List.mem_of_mem_take hx)
theorem Kk {r:Int} (h0:0<=r) (h1:r < 6):∃m:Int,(m=1\/m=3\/m=5\/m=7\/m=9\/m=11)/\xq [V.int 1,V.int 3,V.int 5,V.int 7,V.int 9,V.int 11] r=some (.int m):=by
 have:r=0\/r=1\/r=2\/r=3\/r=4\/r=5:=by omega
 rcases this with rfl | rfl | rfl | rfl | rfl | rfl
 . exact⟨1,by decide,rfl⟩
 . exact⟨3,by decide,rfl⟩
 . exact⟨5,by decide,rfl⟩
 . exact⟨7,by decide,rfl⟩
 . exact⟨9,by decide,rfl⟩
 . exact⟨11,by decide,rfl⟩
def V6:Sp:=λvs H Q _=>∃(d:Addr) (m:Nat) (n s t:Int),vs=[.ref d,.int m]/\H d=some (.dK (src n s t))/\m<=14/\
 ∀(l:Addr) (zs:List Str) (n' t':Int) (H':Hp),H l=none->H' l=some (.lst (zs.map V.str))->zs.length=m->(∀z∈zs,jc z=true)->zs.Nodup->H' d=some (.dK (src n' s t'))->Fr H d H'->Q (.ref l) H'
theorem Wm:∀zs:List Str,(zs.map λ_=>1).sum=zs.length
 | []=>rfl
 | z::zs=>by rw[List.map_cons,List.sum_cons,Wm zs,List.length_cons];omega
section
variable {P:Program} {w:World} {K:PySem.W.Frag} {mg:Str->Option Value} {base:Heap}
abbrev KH:List Str:=["_law_source_here","_law_many","_law_letters","_law_word","_law_ahead","_law_first","_law_step","_law_names_here","_law_k","_law_behind"]
theorem Qz:qu KH ["_law_source_here","_law_many"] (qm zO):=⟨rfl,rfl,rfl,by decide+kernel,rfl,by decide+kernel,by decide+kernel⟩
theorem yo {f fT:Addr} {fd fdT:FuncData} (F:j7 K "_law_names" "_law_names" zO f fd) (B:Jr mg) (hT:jG K mg "_law_take" zM ["_law_source_here","_law_many"] fT fdT):qv P w K mg base qV 2 f fd ["_law_source_here","_law_many"] V6:=by
 have GT:qv P w K mg base qV 1 fT fdT ["_law_source_here","_law_many"] zI:=zt hT.fn
 refine F.okJ Qz (λvs H Q E h=>?_) (λcdv A outer s H vs Q E hr h=>?_)
 . obtain⟨d,m,n,sd,t,rfl,_⟩:=h
   rfl
 . obtain⟨d,m,n,sd,t,rfl,hd,hm,q⟩:=h
   refine⟨_,qe (qx (i:=2) Qz.nd rfl (Or.inr rfl) qT)
     (qe (qx (i:=3) Qz.nd rfl (Or.inl rfl) (WN PySem.F.plainAttrs_str PySem.F.slot_str_join PySem.F.type_str_join wP qT (qb
       (jP (N':=["_law_k","_law_letters","_law_source_here"]) (ix:=[none,some 2,some 0]) rfl ⟨rfl,rfl,rfl,rfl,rfl⟩
         (ja (by rfl) B.rng (qb qj qf))
         (λC s2 H2 fp pins=>⟨ql (i:=0) (show (["_law_k","_law_letters","_law_source_here"]:List Str).Nodup by decide+kernel) rfl (Or.inl rfl),js,
           jA yS (jv 1) (qY hT GT hr (by rfl) (qb (jv 2) (qb qj qf))) (λ_ _=>rfl)⟩)) qf)))
     (qe (qx (i:=4) Qz.nd rfl (Or.inl rfl) (Zv kG (jv 3) zx (zw (qP Q0 (qY hT GT hr (by rfl) (qb (jv 0) (qb qj qf))) (qY hT GT hr (by rfl) (qb (jv 0) (qb qj qf)))))))
     (qe (qx (i:=5) Qz.nd rfl (Or.inl rfl) (qY hT GT hr (by rfl) (qb (jv 0) (qb qj qf))))
     (qe (qx (i:=6) Qz.nd rfl (Or.inl rfl) (jA Zw (QS (qb qj (qb qj (qb qj (qb qj (qb qj (qb qj qf))))))) (qY hT GT hr (by rfl) (qb (jv 0) (qb qj qf))) (λ_ _=>rfl)))
     (qe (qx (i:=7) Qz.nd rfl (Or.inl rfl) (QS qf))
     (qe (qW PassesOwn.never rfl (ja (by rfl) B.rng (qb (jv 1) qf)) (ql (i:=8) Qz.nd rfl (Or.inl rfl))
       (qe (qx (i:=9) Qz.nd rfl (Or.inl rfl) (Zv kG (jv 3) zx (zw (qY hT GT hr (by rfl) (qb (jv 0) (qb (qP Kv qj (qC Je (by rfl) B.len boot_len (qb (jv 4) qf))) qf))))))
       (qh (jT (WN PySem.F.plainAttrs_list PySem.F.slot_list_append PySem.F.type_list_append JR (jv 7) (qb
         (qP Yb (qP Yb (jv 4) (jA yS (jv 2) (qP Q3 (qP Q4 (jv 5) (qP Q0 (jv 6) (jv 8))) qj) (λ_ _=>rfl))) (jv 9)) qf))))))
     (qh (qB (jv 7))))))))),?_⟩
   refine⟨rfl,7,rfl,by decide,by decide,λD hD=>?_⟩
   have nDd:D≠d:=λe=>by rw[e,hd]at hD;cases hD
   refine QF (λi σ' H'=>∃(v:Option V) (n' t':Int) (ws:List Nat),σ'=[v,some (.str UT),some (.ref d)]/\H' d=some (.dK (src n' sd t'))/\H' D=some (.lst ((ws.map λk=>(⟨#[k]⟩:Str)).map V.str))/\ws.length=i/\ws.all jC=true/\Fr H d H')
     ⟨none,n,t,[],rfl,qp hd hD,qd,rfl,rfl,Fr.refl.new hD⟩ ?_ ?_
   . rintro i σ' H' hi ⟨v,n',t',ws,rfl,hd',hD',hl,ha,fr⟩
     refine⟨_,rfl,_,rfl,d,26,n',sd,t',rfl,hd',by decide,by decide,λr n3 t3 r0 r1=>?_⟩
     refine⟨UT,r,_,rfl,rfl,US,xu r0 r1,_,(by rw[qi nDd];exact hD'),?_,?_⟩
     . rw[List.length_map,List.length_map,hl]
       exact qk (by omega)
     . refine⟨_,n3,t3,ws++[97+r.toNat],rfl,?_,?_,?_,?_,?_⟩
       . rw[qi (Ne.symm nDd)];exact qd
       . rw[List.map_append,List.map_append];exact qd
       . rw[List.length_append,hl];rfl
       . rw[List.all_append,ha]
         simp [Y0 r0 r1]
       . exact(fr.at_d).own hD
   rintro σ' H1 ⟨v,n1,t1,ws,rfl,hd1,hD1,hl1,ha1,fr1⟩
   have hl1:ws.length=7:=hl1
   refine⟨Str.ofString "",D,_,rfl,rfl,.of hD1,?_,?_⟩
   . have e1:((ws.map λk=>(⟨#[k]⟩:Str)).map (·.length))=(ws.map λk=>(⟨#[k]⟩:Str)).map λ_=>1:=by
       refine List.map_congr_left λz hz=>?_
       obtain⟨c,_,rfl⟩:=List.mem_map.mp hz
       rfl
     have e2:(Str.ofString "").length=0:=by decide+kernel
     rw[e1,e2,Wm,List.length_map,hl1]
     decide
   generalize hw:Txt.join (Str.ofString "") (ws.map λk=>(⟨#[k]⟩:Str))=wd
   have hW:wd.cps.toList=ws:=by rw[<-hw];exact KY ws
   have hWl:wd.length=7:=by
     show wd.cps.size=7
     rw[<-Array.length_toList,hW,hl1]
   refine⟨_,rfl,_,rfl,d,2,n1,sd,t1,rfl,hd1,by decide,by decide,λr2 n2 t2 r20 r21=>?_⟩
   refine⟨_,rfl,d,5,n2,sd,t2,rfl,qd,by decide,by decide,λr3 n3 t3 r30 r31=>?_⟩
   rw[jE]
   have e4:∃j:Nat,r2*r3=(j:Int)/\j<=4:=by
     have h2:r2=0\/r2=1:=by omega
     rcases h2 with rfl | rfl
     . exact⟨0,by omega,by omega⟩
     . exact⟨r3.toNat,by omega,by omega⟩
   obtain⟨j,ej,hj⟩:=e4
   refine⟨_,_,rfl,rfl,.inl ⟨by omega,by omega⟩,_,rfl,wd,r2*r3,rfl,rfl,rfl,by omega,?_⟩
   rw[ej]
   generalize ha:Txt.slice wd none (some (j:Int))=ah
   have hA:ah.cps.toList=ws.take j:=by rw[<-ha,zJ,hW]
   have hAl:ah.length=j:=by
     show ah.cps.size=j
     rw[<-Array.length_toList,hA,List.length_take,hl1]
     omega
   refine⟨_,rfl,d,26,n3,sd,t3,rfl,qd,by decide,by decide,λf n4 t4 f0 f1=>?_⟩
   rw[jE]
   refine⟨by show 6<=sizeLine;decide,λp hp=>?_⟩
   have npd:p≠d:=λe=>by rw[e,qd]at hp;cases hp
   refine⟨_,rfl,d,6,n4,sd,t4,rfl,(by rw[qi (Ne.symm npd)];exact qd),by decide,by decide,λr5 n5 t5 r50 r51=>?_⟩
   obtain⟨st,hst,hsa⟩:=Kk r50 r51
   refine⟨p,_,r5,.int st,rfl,rfl,.of (by rw[qi npd];exact qd),hsa,?_⟩
   have fr5:Fr H d (upd (upd (upd H1 d (.dK (src n4 sd t4))) p (.lst [V.int 1,V.int 3,V.int 5,V.int 7,V.int 9,V.int 11])) d (.dK (src n5 sd t5))):=(fr1.at_d.new hp).at_d
   generalize hH5:upd (upd (upd H1 d (.dK (src n4 sd t4))) p (.lst [V.int 1,V.int 3,V.int 5,V.int 7,V.int 9,V.int 11])) d (.dK (src n5 sd t5))=H5 at fr5
   have hd5:H5 d=some (.dK (src n5 sd t5)):=by rw[<-hH5];exact qd
   refine⟨by show 0<=sizeLine;decide,λl hl=>⟨_,rfl,m,rfl,by omega,by omega,?_⟩⟩
   have hHl:H l=none:=fr5.fresh hd5 hl
   have nld:l≠d:=λe=>by rw[e,hd5]at hl;cases hl
   refine QE (lo:=0) (n:=m) (λi σ' H'=>∃(v1 v2:Option V) (n' t':Int) (zs:List Str),σ'=[some (.ref d),some (.int m),some (.str UT),some (.str wd),some (.str ah),some (.int f),some (.int st),some (.ref l),v1,v2]/\
     H' d=some (.dK (src n' sd t'))/\H' l=some (.lst (zs.map V.str))/\zs.length=i/\QP (ws.take j) f st zs/\Fr H d H')
     ⟨none,none,n5,t5,[],rfl,qp hd5 hl,qd,rfl,λj z hz=>(nomatch hz),fr5.new hl⟩ ?_ ?_
   . rintro i σ' H' hi ⟨v1,v2,n',t',zs,rfl,hd',hl',hz,hN,fr⟩
     rw[Int.zero_add]
     refine⟨_,rfl,_,rfl,_,rfl,ah,rfl,(by rw[hAl];exact Nat.le_of_lt (qk (by omega))),_,_,rfl,rfl,d,8 - (ah.length:Int),n',sd,t',rfl,hd',by omega,by omega,λr n6 t6 r0 r1=>?_⟩
     have er:r=((r.toNat:Nat):Int):=by omega
     refine⟨_,rfl,wd,r,rfl,rfl,rfl,by omega,?_⟩
     generalize hb:Txt.slice wd none (some r)=bh
     have hB:bh.cps.toList=ws.take r.toNat:=by rw[<-hb,er,zJ,hW];rfl
     have hBl:bh.length<=r.toNat:=by
       show bh.cps.size<=r.toNat
       rw[<-Array.length_toList,hB,List.length_take]
       omega
     refine⟨_,rfl,.inl ⟨rfl,_,.of (by rw[qi nld];exact hl')⟩,_,rfl,_,rfl,_,rfl,_,rfl,_,rfl,_,_,rfl,rfl,.inl ⟨by omega,by omega⟩,_,_,rfl,rfl,_,_,rfl,rfl,(by show (0:Int) < 26;decide),?_⟩
     refine⟨UT,_,_,rfl,rfl,US,xu (Int.emod_nonneg _ (by decide)) (Int.emod_lt_of_pos _ (by decide)),?_⟩
     have e26:97+((f+st*(i:Int)) % 26).toNat=Uv f st i:=rfl
     rw[e26]
     have l1:(ah++(⟨#[Uv f st i]⟩:Str)).length=j+1:=by
       show (ah++(⟨#[Uv f st i]⟩:Str)).cps.size=_
       rw[Str.cps_append,Array.size_append]
       show ah.length+1=_
       rw[hAl]
     refine⟨_,_,rfl,rfl,Nat.le_of_lt (qk (by show ah.length+1<=1000;omega)),_,rfl,_,_,rfl,rfl,Nat.le_of_lt (qk (by rw[l1];omega)),?_⟩
     refine⟨l,_,_,rfl,rfl,(by rw[qi nld];exact hl'),(by rw[List.length_map,hz];exact qk (by omega)),?_⟩
     refine⟨_,_,n6,t6,zs++[ah++(⟨#[Uv f st i]⟩:Str)++bh],rfl,?_,?_,?_,?_,?_⟩
     . rw[qi (Ne.symm nld)];exact qd
     . rw[List.map_append];exact qd
     . rw[List.length_append,hz];rfl
     . refine hN.snoc (B:=ws.take r.toNat) ?_ (W3 ha1 _) ?_
       . rw[Str.cps_append,Str.cps_append,Array.toList_append,Array.toList_append,hA,hB,hz]
       . rw[List.length_take,List.length_take]
         omega
     . exact fr.at_d.own hHl
   . rintro σ' H' ⟨v1,v2,n',t',zs,rfl,hd',hl',hz,hN,fr⟩
     exact⟨_,rfl,q l zs n' t' H' hHl hl' hz (hN.names (W3 ha1 _)) (hN.nodup hst (by omega)) hd' fr⟩
end
end Rh
set_option Elab.async false
set_option linter.all false
set_option maxRecDepth 100000
set_option maxHeartbeats 4000000
namespace Rh
open PySem L2 PyProof.Rows
def VM (t:TT) (σ:L2.St) (H:Hp):Prop:=∀Q:Bool->Hp->Prop,(∀b,Q b H)->t σ H Q
theorem VM.and {t u:TT} {σ:L2.St} {H:Hp} (h:VM t σ H) (k:VM u σ H):VM (xL t u) σ H:=λQ q=>h _ λb=>by
 cases b
 . exact jx (q false)
 . exact Qc (k _ q)
theorem VM.or {t u:TT} {σ:L2.St} {H:Hp} (h:VM t σ H) (k:VM u σ H):VM (tOr t u) σ H:=λQ q=>h _ λb=>by
 cases b
 . exact jx (k _ q)
 . exact Qc (q true)
theorem yZ {tc:TT} {tp:TS} {D:Ji} {σ:L2.St} {H0:Hp} (G:Hp->Prop) (h:G H0) (ht:VM tc σ H0) (hp:∀D:Ji,(∀H',G H'->D.nx σ H')->tp D σ H0) (k:∀H',G H'->D.nx σ H'):xI tc tp VW D σ H0:=
 ht _ λb=>by
   cases b
   . exact jx (k _ h)
   . exact Qc (hp D k)
theorem zA {tc:TT} {tp u:TS} {D:Ji} {σ:L2.St} {H0:Hp} (G:Hp->Prop) (h:G H0) (ht:VM tc σ H0) (hp:∀D:Ji,(∀H',G H'->D.nx σ H')->tp D σ H0) (k:∀H',G H'->u D σ H'):Ke (xI tc tp VW) u D σ H0:=yZ G h ht hp k
theorem Yo {i:Nat} {v:V} {σ:L2.St} {H:Hp} {Q:L2.St->Hp->Prop} (h:Q (σ.set i (some v)) H):Qx i v σ H Q:=h
abbrev up (k:Nat×Nat):Int×Int:=((k.1:Int),(k.2:Int))
def u6 (a b:Nat×Nat):Prop:=a.1 < b.1\/(a.1=b.1/\a.2 < b.2)
abbrev keysOf (ks:List (Nat×Nat)):List (List qA):=ks.map λk=>ZY (up k)
theorem vj {a b:Nat×Nat} (h:ZY (up a)=ZY (up b)):a=b:=by
 unfold ZY at h
 simp only[List.cons.injEq,Sum.inl.injEq,and_true]at h
 exact Prod.ext (by have:=h.1;omega) (by have:=h.2;omega)
structure Jp (m i j:Nat) (ks:List (Nat×Nat)):Prop where
 ord:ks.Pairwise u6
 lt:∀x∈ks,x.2 < m/\(x.1 < i\/(x.1=i/\x.2 < j))
 len:ks.length<=i*m+j
theorem Jp.more {m i j:Nat} {ks:List (Nat×Nat)} (h:Jp m i j ks):Jp m i (j+1) ks:=⟨h.ord,λx hx=>by have:=h.lt x hx;omega,by have:=h.len;omega⟩
theorem Jp.snoc {m i j:Nat} {ks:List (Nat×Nat)} (h:Jp m i j ks) (hj:j < m):Jp m i (j+1) (ks++[(i,j)]):=by
 refine⟨List.pairwise_append.mpr ⟨h.ord,List.pairwise_singleton _ _,λa ha b hb=>?_⟩,λx hx=>?_,?_⟩
 . rw[List.mem_singleton.mp hb]
   have:=h.lt a ha
   unfold u6
   omega
 . rcases List.mem_append.mp hx with hx | hx
   . have:=h.lt x hx
     omega
   . rw[List.mem_singleton.mp hx]
     exact⟨hj,.inr ⟨rfl,Nat.lt_succ_self _⟩⟩
 . rw[List.length_append]
   have:=h.len
   show ks.length+1<=_
   omega
theorem Jp.row {m i:Nat} {ks:List (Nat×Nat)} (h:Jp m i m ks):Jp m (i+1) 0 ks:=⟨h.ord,λx hx=>by have:=h.lt x hx;omega,by have:=h.len;rw[Nat.succ_mul];omega⟩
def GA (m i j:Nat) (kvs:List (List qA×V)):Prop:=∃ks,Jp m i j ks/\(kvs.map (·.1)=keysOf ks\/kvs.map (·.1)=keysOf (ks++[(i,j)]))
theorem UR (kvs:List (List qA×V)) (k:List qA):((kvs.any λkv=>decide (kv.1=k))=true)↔k∈kvs.map (·.1):=by
 rw[List.any_eq_true,List.mem_map]
 simp
theorem wW {kvs:List (List qA×V)} {k:List qA} (v:V) (h:k∈kvs.map (·.1)):(jp kvs k v).map (·.1)=kvs.map (·.1):=by
 unfold jp
 rw[if_pos ((UR kvs k).mpr h),List.map_map]
 refine List.map_congr_left λx _=>?_
 show (if x.1=k then (x.1,v) else x).1=x.1
 split<;>rfl
theorem yL {kvs:List (List qA×V)} {k:List qA} (v:V) (h:¬k∈kvs.map (·.1)):(jp kvs k v).map (·.1)=kvs.map (·.1)++[k]:=by
 unfold jp
 rw[if_neg (λz=>h ((UR kvs k).mp z)),List.map_append]
 rfl
theorem GA.put {m i j:Nat} {kvs:List (List qA×V)} (h:GA m i j kvs) (v:V):GA m i j (jp kvs (ZY (up (i,j))) v):=by
 obtain⟨ks,ha,h⟩:=h
 refine⟨ks,ha,.inr ?_⟩
 rcases h with h | h
 . rw[yL,h,keysOf,keysOf,List.map_append]
   . rfl
   . rw[h]
     intro z
     obtain⟨x,hx,e⟩:=List.mem_map.mp z
     have e':=vj e
     have:=ha.lt x hx
     rw[e']at this
     omega
 . rw[wW,h]
   rw[h]
   exact List.mem_map.mpr ⟨(i,j),by simp,rfl⟩
theorem GA.len {m i j:Nat} {kvs:List (List qA×V)} (h:GA m i j kvs):kvs.length<=i*m+j+1:=by
 obtain⟨ks,ha,h⟩:=h
 have hl:=ha.len
 rcases h with h | h
 . have:=congrArg List.length h
   simp only[List.length_map]at this
   omega
 . have:=congrArg List.length h
   simp only[List.length_map,List.length_append,List.length_singleton]at this
   omega
theorem uN {i m:Nat} (hi:i<=m) (hm:m<=14):i*m<=196:=Nat.le_trans (Nat.mul_le_mul (Nat.le_trans hi hm) hm) (by decide)
theorem RY (xs:List V):WY xs none (some 40)=xs.take 40:=by
 unfold WY
 have e1:HT.sIx xs.length 0 none=0:=rfl
 have e2:HT.sIx xs.length xs.length (some 40)=min 40 xs.length:=by
   simp [HT.sIx]
 rw[e1,e2,List.drop_zero,Nat.sub_zero]
 by_cases h:40<=xs.length
 . rw[Nat.min_eq_left h]
 . rw[Nat.min_eq_right (by omega),List.take_of_length_le (Nat.le_refl _),List.take_of_length_le (by omega)]
def JZ (H:Hp) (ps:List Addr) (ks:List (Nat×Nat)):Prop:=ps.length=ks.length/\∀(i:Nat) (p:Addr) (k:Nat×Nat),ps[i]?=some p->ks[i]?=some k->H p=some (.tup [.int (k.1:Nat),.int (k.2:Nat)])
def V7:Sp:=λvs H Q _=>∃(d:Addr) (m:Nat) (n s t sh lo:Int),vs=[.ref d,.int m,.int sh,.int lo]/\H d=some (.dK (src n s t))/\m<=14/\
 ∀(l:Addr) (ps:List Addr) (ks:List (Nat×Nat)) (n' t':Int) (H':Hp),H l=none->H' l=some (.lst (ps.map V.ref))->JZ H' ps ks->ks.Pairwise u6->(∀x∈ks,x.1 < m/\x.2 < m)->ks.length<=40->H' d=some (.dK (src n' s t'))->Fr H d H'->Q (.ref l) H'
section
variable {P:Program} {w:World} {K:PySem.W.Frag} {mg:Str->Option Value} {base:Heap}
abbrev KI:List Str:=["_law_source_here","_law_many","_law_shape","_law_low","_law_pairs","_law_k","_law_j","_law_way"]
abbrev z9:List Str:=["_law_source_here","_law_many","_law_shape","_law_low"]
theorem Zj:qu KI z9 (qm zR):=⟨rfl,rfl,rfl,by decide+kernel,rfl,by decide+kernel,by decide+kernel⟩
theorem yq {f fT:Addr} {fd fdT:FuncData} (F:j7 K "_law_leads" "_law_leads" zR f fd) (B:Jr mg) (hso:mg "sorted"=none) (hT:jG K mg "_law_take" zM ["_law_source_here","_law_many"] fT fdT):qv P w K mg base qV 2 f fd z9 V7:=by
 have GT:qv P w K mg base qV 1 fT fdT ["_law_source_here","_law_many"] zI:=zt hT.fn
 refine F.okJ Zj (λvs H Q E h=>?_) (λcdv A outer s H vs Q E hr h=>?_)
 . obtain⟨d,m,n,sd,t,sh,lo,rfl,_⟩:=h
   rfl
 . obtain⟨d,m,n,sd,t,sh,lo,rfl,hd,hm,q⟩:=h
   have hu:=jJ hr
   refine⟨_,qe (qx (i:=4) Zj.nd rfl (Or.inl rfl) Yl)
     (qe (qW PassesOwn.never rfl (ja (by rfl) B.rng (qb (jv 1) qf)) (ql (i:=5) Zj.nd rfl (Or.inl rfl))
       (qh (qW PassesOwn.never rfl (ja (by rfl) B.rng (qb (jv 1) qf)) (ql (i:=6) Zj.nd rfl (Or.inl rfl))
         (qe (qx (i:=7) Zj.nd rfl (Or.inl rfl) (qY hT GT hr (by rfl) (qb (jv 0) (qb qj qf))))
         (qe (q5 (jZ (qr QI (jv 2) qj (qz _)) (jO (Jm (jZ (qr Qw (jv 6) (jv 5) (qz _)) (jO (qr Qw (jv 7) qj (qz _)))).pt (Qu (jZ (qr ye (jv 6) (jv 5) (qz _)) (jO (qr Qw (jv 7) qj (qz _)))).pt)).pt)).pt
           (qh (qS hu (jv 4) (jl (qb (jv 5) (qb (jv 6) qf))) j3 rfl)) qE)
         (qe (q5 (jZ (qr QI (jv 2) qj (qz _)) (jO (qr Qw (jv 7) qj (qz _)))).pt
           (qh (qS hu (jv 4) (jl (qb (jv 5) (qb (jv 6) qf))) j3 rfl)) qE)
         (qe (q5 (jZ (qr QI (jv 2) qj (qz _)) (jO (Jm (jZ (qr QI (jv 6) (qP Q3 (qP Q4 (jv 5) qj) (jv 1)) (qz _)) (jO (qr Qw (jv 7) qj (qz _)))).pt (Qu (qr Qw (jv 7) qj (qz _)))).pt)).pt
           (qh (qS hu (jv 4) (jl (qb (jv 5) (qb (jv 6) qf))) j3 rfl)) qE)
         (qe (q5 (jZ (qr QI (jv 2) qj (qz _)) (jZ (qr Qw (jv 6) (jv 5) (qz _)) (jO (Jm (qr Qw (jv 6) (jv 3) (qz _)) (Qu (qr Qw (jv 7) qj (qz _)))).pt))).pt
           (qh (qS hu (jv 4) (jl (qb (jv 5) (qb (jv 6) qf))) j3 rfl)) qE)
         (qh (q5 (jZ (qr QI (jv 2) qj (qz _)) (jO (Jm (jZ (qr Qw (jv 6) (jv 3) (qz _)) (jO (qr Qw (jv 6) (jv 5) (qz _)))).pt (Qu (jZ (qr ye (jv 5) (jv 3) (qz _)) (jO (qr Qw (jv 7) qj (qz _)))).pt)).pt)).pt
           (qh (qS hu (jv 4) (jl (qb (jv 5) (qb (jv 6) qf))) j3 rfl)) qE)))))))))
       )
     (qh (qB (Zv Ub (qC (VJ rfl) (by rfl) hso boot_sorted (qb (jv 4) qf)) zx (zw qj))))),?_⟩
   intro D hD
   have nDd:D≠d:=λe=>by rw[e,hd]at hD;cases hD
   refine⟨_,rfl,m,rfl,by omega,by omega,?_⟩
   refine QE (lo:=0) (n:=m) (λi σ' H'=>∃(v1 v2 v3:Option V) (n' t':Int) (kvs:List (List qA×V)) (ks:List (Nat×Nat)),σ'=[some (.ref d),some (.int m),some (.int sh),some (.int lo),some (.ref D),v1,v2,v3]/\
     H' d=some (.dK (src n' sd t'))/\H' D=some (.dT kvs)/\kvs.map (·.1)=keysOf ks/\Jp m i 0 ks/\Fr H d H')
     ⟨none,none,none,n,t,[],[],rfl,qp hd hD,qd,rfl,⟨.nil,λx hx=>(nomatch hx),Nat.zero_le _⟩,Fr.refl.new hD⟩ ?_ ?_
   . rintro i σ' H' hi ⟨v1,v2,v3,n',t',kvs,ks,rfl,hd',hD',ek,ha,fr⟩
     rw[Int.zero_add]
     refine⟨_,rfl,m,rfl,by omega,by omega,?_⟩
     refine QE (lo:=0) (n:=m) (λj σ' H'=>∃(v2 v3:Option V) (n' t':Int) (kvs:List (List qA×V)) (ks:List (Nat×Nat)),σ'=[some (.ref d),some (.int m),some (.int sh),some (.int lo),some (.ref D),some (.int i),v2,v3]/\
       H' d=some (.dK (src n' sd t'))/\H' D=some (.dT kvs)/\kvs.map (·.1)=keysOf ks/\Jp m i j ks/\Fr H d H')
       ⟨_,_,n',t',kvs,ks,rfl,hd',hD',ek,ha,fr⟩ ?_ ?_
     . rintro j σ' H2 hj ⟨v2,v3,n2,t2,kvs,ks,rfl,hd2,hD2,ek,ha,fr⟩
       rw[Int.zero_add]
       refine⟨_,rfl,d,12,n2,sd,t2,rfl,hd2,by decide,by decide,λr n3 t3 r0 r1=>?_⟩
       have hsq:=uN (Nat.le_of_lt hi) hm
       let G:Hp->Prop:=λH'=>∃(kvs:List (List qA×V)),H' d=some (.dK (src n3 sd t3))/\H' D=some (.dT kvs)/\GA m i j kvs/\Fr H d H'
       have g0:G (upd H2 d (.dK (src n3 sd t3))):=⟨kvs,qd,(by rw[qi nDd];exact hD2),⟨ks,ha,.inl ek⟩,fr.at_d⟩
       have put:∀H',G H'->∀E:Ji,(∀H',G H'->E.nx [some (.ref d),some (.int m),some (.int sh),some (.int lo),some (.ref D),some (.int i),some (.int j),some (.int r)] H')->
           uW (qJ 4) (Xp (jr (qJ 5) (jr (qJ 6) QX))) (tC (.bl true)) E [some (.ref d),some (.int m),some (.int sh),some (.int lo),some (.ref D),some (.int i),some (.int j),some (.int r)] H':=by
         rintro H' ⟨kvs,h1,h2,h3,h4⟩ E k
         refine⟨_,rfl,_,rfl,_,rfl,by show 2<=sizeLine;decide,λp hp=>?_⟩
         have npd:p≠d:=λe=>by rw[e,h1]at hp;cases hp
         have npD:p≠D:=λe=>by rw[e,h2]at hp;cases hp
         refine⟨D,_,rfl,Qf.t (k:=ZY (up (i,j))) (kvs:=kvs) (by rw[qi (Ne.symm npD)];exact h2) qd (qk (by have:=h3.len;omega)),?_⟩
         refine k _ ⟨_,?_,qd,h3.put _,?_⟩
         . rw[qi (Ne.symm nDd),qi (Ne.symm npd)]
           exact h1
         . exact(h4.new hp).own hD
       refine Yo ?_
       dsimp only[List.set]
       refine zA G g0 ?_ (put _ g0) λH3 g3=>?_
       . exact VM.and (λQ q=>⟨_,rfl,rfl,_,rfl,q _⟩) (.or (.and (λQ q=>⟨_,rfl,_,rfl,_,_,rfl,rfl,_,rfl,q _⟩) (λQ q=>⟨_,rfl,_,_,rfl,rfl,_,rfl,q _⟩)) (.and (λQ q=>⟨_,rfl,_,rfl,_,_,rfl,rfl,_,rfl,q _⟩) (λQ q=>⟨_,rfl,_,_,rfl,rfl,_,rfl,q _⟩)))
       refine zA G g3 ?_ (put _ g3) λH4 g4=>?_
       . exact VM.and (λQ q=>⟨_,rfl,rfl,_,rfl,q _⟩) (λQ q=>⟨_,rfl,_,_,rfl,rfl,_,rfl,q _⟩)
       refine zA G g4 ?_ (put _ g4) λH5 g5=>?_
       . exact VM.and (λQ q=>⟨_,rfl,rfl,_,rfl,q _⟩) (.or (.and (λQ q=>⟨_,rfl,_,rfl,_,_,rfl,rfl,_,rfl,_,_,rfl,rfl,(by show (0:Int) < m;omega),rfl,_,rfl,q _⟩) (λQ q=>⟨_,rfl,_,_,rfl,rfl,_,rfl,q _⟩)) (λQ q=>⟨_,rfl,_,_,rfl,rfl,_,rfl,q _⟩))
       refine zA G g5 ?_ (put _ g5) λH6 g6=>?_
       . exact VM.and (λQ q=>⟨_,rfl,rfl,_,rfl,q _⟩) (.and (λQ q=>⟨_,rfl,_,rfl,_,_,rfl,rfl,_,rfl,q _⟩) (.or (λQ q=>⟨_,rfl,_,rfl,_,_,rfl,rfl,_,rfl,q _⟩) (λQ q=>⟨_,rfl,_,_,rfl,rfl,_,rfl,q _⟩)))
       refine yZ G g6 ?_ (put _ g6) λH7 g7=>?_
       . exact VM.and (λQ q=>⟨_,rfl,rfl,_,rfl,q _⟩) (.or (.and (λQ q=>⟨_,rfl,_,rfl,_,_,rfl,rfl,_,rfl,q _⟩) (λQ q=>⟨_,rfl,_,rfl,_,_,rfl,rfl,_,rfl,q _⟩)) (.and (λQ q=>⟨_,rfl,_,rfl,_,_,rfl,rfl,_,rfl,q _⟩) (λQ q=>⟨_,rfl,_,_,rfl,rfl,_,rfl,q _⟩)))
       obtain⟨kvs,h1,h2,⟨ks,ha,h3⟩,h4⟩:=g7
       rcases h3 with h3 | h3
       . exact⟨_,_,n3,t3,kvs,ks,rfl,h1,h2,h3,ha.more,h4⟩
       . exact⟨_,_,n3,t3,kvs,_,rfl,h1,h2,h3,ha.snoc hj,h4⟩
     . rintro σ' H2 ⟨v2,v3,n2,t2,kvs,ks,rfl,hd2,hD2,ek,ha,fr⟩
       exact⟨_,_,_,n2,t2,kvs,ks,rfl,hd2,hD2,ek,ha.row,fr⟩
   . rintro σ' H1 ⟨v1,v2,v3,n1,t1,kvs,ks,rfl,hd1,hD1,ek,ha,fr⟩
     have hl:kvs.length=ks.length:=by simpa using congrArg List.length ek
     have hsq:=uN (Nat.le_refl m) hm
     have hal:=ha.len
     refine⟨_,rfl,D,kvs,ks.map up,rfl,hD1,?_,?_,by omega,λl ps hfl lps tup=>?_⟩
     . rw[ek,List.map_map]
       rfl
     . intro i k k' e1 e2
       rw[List.getElem?_map]at e1 e2
       cases e3:ks[i]? with
       | none=>rw[e3]at e1;cases e1
       | some a=>
         cases e4:ks[i+1]? with
         | none=>rw[e4]at e2;cases e2
         | some b=>
           rw[e3]at e1
           rw[e4]at e2
           obtain rfl:=(Option.some.inj e1).symm
           obtain rfl:=(Option.some.inj e2).symm
           have h5:=List.pairwise_iff_getElem.mp ha.ord i (i+1) (List.getElem?_eq_some_iff.mp e3).1 (List.getElem?_eq_some_iff.mp e4).1 (Nat.lt_succ_self _)
           rw[(List.getElem?_eq_some_iff.mp e3).2,(List.getElem?_eq_some_iff.mp e4).2]at h5
           unfold u6 at h5
           show Yf _ _
           unfold Yf
           show (a.1:Int) < b.1\/((a.1:Int)=b.1/\(a.2:Int) < b.2)
           omega
     . refine⟨40,rfl,l,_,rfl,.of qd,λl2 hl2=>?_⟩
       rw[RY,<-List.map_take]
       have n2d:l2≠d:=λe=>by
         rw[e,qp hd1 hfl]at hl2
         cases hl2
       have hl1:H1 l2=none:=by
         by_cases e:l2=l
         . rw[e];exact hfl
         . rw[qi e]at hl2;exact hl2
       have fr2:=(fr.new (o:=.lst (ps.map V.ref)) hfl).new (o:=.lst ((ps.take 40).map V.ref)) hl2
       refine q l2 (ps.take 40) (ks.take 40) n1 t1 _ (fr.fresh hd1 hl1) qd ⟨?_,λi p k e1 e2=>?_⟩ ?_ ?_ ?_ ?_ fr2
       . rw[List.length_take,List.length_take,lps,List.length_map]
       . have i40:i < 40:=by
           have:=(List.getElem?_eq_some_iff.mp e1).1
           rw[List.length_take]at this
           omega
         rw[List.getElem?_take_of_lt i40]at e1 e2
         have h1:=tup i p (up k) e1 (by rw[List.getElem?_map,e2];rfl)
         exact qp (qp h1 hfl) hl2
       . exact ha.ord.sublist (List.take_sublist _ _)
       . intro x hx
         have:=ha.lt x (List.mem_of_mem_take hx)
         omega
       . rw[List.length_take]
         omega
       . exact qp (qp hd1 hfl) hl2
end
end Rh
set_option Elab.async false
set_option linter.all false
set_option maxRecDepth 100000
set_option maxHeartbeats 4000000
namespace Rh
open PySem L2 PyProof.Rows
structure qt (rs:List (Str×List Str)):Prop where
 nm:∀r∈rs,jc r.1=true
 nd:(rs.map (·.1)).Nodup
 to:∀r∈rs,∀z∈r.2,z∈rs.map (·.1)
 rd:∀r∈rs,r.2.Nodup
 few:(rs.map λr=>r.2.length).sum<=40
def X7 (zs:List Str) (j:Nat):Str:=zs.getD j ⟨#[]⟩
theorem xD {zs:List Str} {j:Nat} (h:j < zs.length):X7 zs j∈zs:=by
 unfold X7
 rw[List.getD_eq_getElem?_getD,List.getElem?_eq_getElem h]
 exact List.getElem_mem h
theorem Xk {zs:List Str} {j:Nat} (h:j < zs.length):zs[j]?=some (X7 zs j):=by
 unfold X7
 rw[List.getD_eq_getElem?_getD,List.getElem?_eq_getElem h]
 rfl
theorem VQ {zs:List Str} (hn:zs.Nodup) {i j:Nat} (hi:i < zs.length) (hj:j < zs.length) (h:X7 zs i=X7 zs j):i=j:=by
 have h1:=Xk hi
 have h2:=Xk hj
 rw[h,<-h2,List.getElem?_eq_getElem hi,List.getElem?_eq_getElem hj]at h1
 have e:zs[i]=zs[j]:=Option.some.inj h1
 rcases Nat.lt_trichotomy i j with l | l | l
 . exact absurd e (List.pairwise_iff_getElem.mp hn i j hi hj l)
 . exact l
 . exact absurd e.symm (List.pairwise_iff_getElem.mp hn j i hj hi l)
theorem jN {α β:Type} {f:α->β}:∀{l:List α},l.Nodup->(∀a∈l,∀b∈l,f a=f b->a=b)->(l.map f).Nodup
 | [],_,_=>List.nodup_nil
 | a::l,h,k=>by
   rw[List.map_cons,List.nodup_cons]
   rw[List.nodup_cons]at h
   refine⟨λz=>?_,jN h.2 λx hx y hy=>k x (List.mem_cons_of_mem _ hx) y (List.mem_cons_of_mem _ hy)⟩
   obtain⟨b,hb,e⟩:=List.mem_map.mp z
   have:=k b (List.mem_cons_of_mem _ hb) a (List.mem_cons_self) e
   subst this
   exact h.1 hb
def YL (ks:List (Nat×Nat)) (k:Nat):List Nat:=(ks.filter λx=>decide (x.1=k)).map (·.2)
theorem U3 {ks:List (Nat×Nat)} (h:ks.Pairwise u6) (k:Nat):(YL ks k).Nodup:=by
 have h1:(ks.filter λx=>decide (x.1=k)).Pairwise u6:=h.sublist (List.filter_sublist)
 refine List.pairwise_map.mpr (List.Pairwise.imp_of_mem (λ{a b} ha hb r=>?_) h1)
 have e1:a.1=k:=of_decide_eq_true (List.mem_filter.mp ha).2
 have e2:b.1=k:=of_decide_eq_true (List.mem_filter.mp hb).2
 unfold u6 at r
 omega
theorem Vc {ks:List (Nat×Nat)} {m:Nat} (h:∀x∈ks,x.1 < m/\x.2 < m) (k:Nat):∀j∈YL ks k,j < m:=λj hj=>by
 obtain⟨x,hx,e⟩:=List.mem_map.mp hj
 have:=(h x (List.mem_filter.mp hx).1).2
 omega
theorem xN (os:List Nat) (f g:Nat->Nat):(os.map λk=>f k+g k).sum=(os.map f).sum+(os.map g).sum:=by
 induction os with
 | nil=>rfl
 | cons a os ih=>
   simp only[List.map_cons,List.sum_cons,ih]
   omega
theorem xM {os:List Nat} (h:os.Nodup) (a:Nat):(os.map λk=>if a=k then 1 else 0).sum<=1:=by
 induction os with
 | nil=>exact Nat.zero_le _
 | cons b os ih=>
   rw[List.nodup_cons]at h
   rw[List.map_cons,List.sum_cons]
   by_cases e:a=b
   . subst e
     have z:(os.map λk=>if a=k then 1 else 0)=os.map λ_=>0:=List.map_congr_left λk hk=>by
       rw[if_neg]
       intro e
       subst e
       exact h.1 hk
     rw[z,if_pos rfl]
     have:(os.map λ_=>0).sum=0:=by
       clear z ih h
       induction os with
       | nil=>rfl
       | cons c os ih=>rw[List.map_cons,List.sum_cons,ih]
     omega
   . rw[if_neg e]
     have:=ih h.2
     omega
theorem VU {os:List Nat} (h:os.Nodup):∀ks:List (Nat×Nat),(os.map λk=>(YL ks k).length).sum<=ks.length
 | []=>by
   have:(os.map λk=>(YL [] k).length).sum=0:=by
     clear h
     induction os with
     | nil=>rfl
     | cons c os ih=>rw[List.map_cons,List.sum_cons,ih];rfl
   omega
 | x::ks=>by
   have e:(os.map λk=>(YL (x::ks) k).length)=os.map λk=>(if x.1=k then 1 else 0)+(YL ks k).length:=List.map_congr_left λk _=>by
     unfold YL
     rw[List.filter_cons]
     by_cases z:x.1=k
     . rw[if_pos (decide_eq_true z),if_pos z]
       simp only[List.map_cons,List.length_cons]
       omega
     . rw[if_neg (by simpa using z),if_neg z,Nat.zero_add]
   rw[e,xN,List.length_cons]
   have:=xM h x.1
   have:=VU h ks
   omega
def QV (zs:List Str) (ks:List (Nat×Nat)) (ab:Bool) (k:Nat):Str×List Str:=
 (X7 zs k,if ab=true then ((YL ks k).map (X7 zs)).reverse else (YL ks k).map (X7 zs))
theorem vc {zs:List Str} {ks:List (Nat×Nat)} {ab:Bool} {k:Nat} {z:Str}:z∈(QV zs ks ab k).2↔z∈(YL ks k).map (X7 zs):=by
 unfold QV
 cases ab
 . rw[if_neg Bool.false_ne_true]
 . rw[if_pos rfl,List.mem_reverse]
theorem vd {zs:List Str} {ks:List (Nat×Nat)} {ab:Bool} {k:Nat}:(QV zs ks ab k).2.length=(YL ks k).length:=by
 unfold QV
 cases ab
 . rw[if_neg Bool.false_ne_true,List.length_map]
 . rw[if_pos rfl,List.length_reverse,List.length_map]
structure W4 (m:Nat) (os:List Nat):Prop where
 len:os.length=m
 nd:os.Nodup
 lt:∀k∈os,k < m
 all:∀j,j < m->j∈os
theorem vN {zs:List Str} {ks:List (Nat×Nat)} {os:List Nat} {m:Nat} (ab:Bool) (hz:zs.length=m) (hN:∀z∈zs,jc z=true) (hd:zs.Nodup) (hk:ks.Pairwise u6) (hl:∀x∈ks,x.1 < m/\x.2 < m) (h40:ks.length<=40) (ho:W4 m os):
   qt (os.map (QV zs ks ab)):=by
 have e1:(os.map (QV zs ks ab)).map (·.1)=os.map (X7 zs):=by rw[List.map_map];rfl
 have inj:∀a∈os,∀b∈os,X7 zs a=X7 zs b->a=b:=λa ha b hb e=>VQ hd (by rw[hz];exact ho.lt a ha) (by rw[hz];exact ho.lt b hb) e
 refine⟨λr hr=>?_,?_,λr hr z hz'=>?_,λr hr=>?_,?_⟩
 . obtain⟨k,hk',rfl⟩:=List.mem_map.mp hr
   exact hN _ (xD (by rw[hz];exact ho.lt k hk'))
 . rw[e1]
   exact jN ho.nd inj
 . obtain⟨k,hk',rfl⟩:=List.mem_map.mp hr
   rw[vc]at hz'
   obtain⟨j,hj,rfl⟩:=List.mem_map.mp hz'
   rw[e1]
   exact List.mem_map.mpr ⟨j,ho.all j (Vc hl k j hj),rfl⟩
 . obtain⟨k,hk',rfl⟩:=List.mem_map.mp hr
   have h1:((YL ks k).map (X7 zs)).Nodup:=jN (U3 hk k) λa ha b hb e=>VQ hd (by rw[hz];exact Vc hl k a ha) (by rw[hz];exact Vc hl k b hb) e
   show (if ab=true then _ else _:List Str).Nodup
   cases ab
   . rw[if_neg Bool.false_ne_true]
     exact h1
   . rw[if_pos rfl]
     exact List.pairwise_reverse.mpr (h1.imp λh=>Ne.symm h)
 . have e2:((os.map (QV zs ks ab)).map λr=>r.2.length)=os.map λk=>(YL ks k).length:=by
     rw[List.map_map]
     exact List.map_congr_left λk _=>vd
   rw[e2]
   exact Nat.le_trans (VU ho.nd ks) h40
theorem ya (m:Nat):W4 m (List.range m):=⟨List.length_range,List.nodup_range,λk h=>List.mem_range.mp h,λj h=>List.mem_range.mpr h⟩
theorem Vl (m:Nat):W4 m (ZC m):=⟨by rw[ZC,List.length_reverse,List.length_range],List.pairwise_reverse.mpr (List.nodup_range.imp λh=>Ne.symm h),λk h=>List.mem_range.mp (List.mem_reverse.mp h),λj h=>List.mem_reverse.mpr (List.mem_range.mpr h)⟩
def Z4 (m:Nat):List Nat:=(List.range m).map λk=>k*5 % m
theorem vS:∀m,m < 15->(Z4 m).Nodup->∀j,j < m->j∈Z4 m:=by decide+kernel
theorem Wz {m:Nat} (hm:m<=14) (h0:0 < m) (h:(Z4 m).Nodup):W4 m (Z4 m):=
 ⟨by rw[Z4,List.length_map,List.length_range],h,λk hk=>by obtain⟨x,_,rfl⟩:=List.mem_map.mp hk;exact Nat.mod_lt _ h0,vS m (by omega) h⟩
theorem YY (val:Nat->Int):∀i,(firstMet val i).length=i->((List.range i).map val).Nodup
 | 0,_=>List.nodup_nil
 | i+1,h=>by
   have h1:=firstMet_any val i (val i)
   have h2:=firstMet_length_le val i
   rw[firstMet_succ]at h
   unfold step_dedup at h
   split at h
   . omega
   . rename_i z
     rw[List.length_append,List.length_singleton]at h
     rw[List.range_succ,List.map_append,List.nodup_append]
     refine⟨YY val i (by omega),by simp,λa ha b hb e=>?_⟩
     have eb:b=val i:=by simpa using hb
     subst eb
     subst e
     refine z ?_
     rw[h1,List.any_eq_true]
     exact⟨_,ha,by simp⟩
theorem KL {os:List Nat} (h:¬(firstMet (λi=>(os.map λk=>((k:Nat):Int)).getD i 0) (os.map λk=>((k:Nat):Int)).length).length < os.length):os.Nodup:=by
 have h1:=firstMet_length_le (λi=>(os.map λk=>((k:Nat):Int)).getD i 0) (os.map λk=>((k:Nat):Int)).length
 have h2:=YY (λi=>(os.map λk=>((k:Nat):Int)).getD i 0) (os.map λk=>((k:Nat):Int)).length (by rw[List.length_map]at h1 h ⊢;omega)
 have e:(List.range (os.map λk=>((k:Nat):Int)).length).map (λi=>(os.map λk=>((k:Nat):Int)).getD i 0)=os.map λk=>((k:Nat):Int):=by
   refine List.ext_getElem? λi=>?_
   rw[List.getElem?_map]
   by_cases hi:i < (os.map λk=>((k:Nat):Int)).length
   . rw[List.getElem?_range hi,List.getElem?_eq_getElem hi]
     simp only[Option.map_some,List.getD_eq_getElem?_getD,List.getElem?_eq_getElem hi,Option.getD_some]
   . rw[List.getElem?_eq_none (by rw[List.length_range];omega),List.getElem?_eq_none (by omega)]
     rfl
 rw[e]at h2
 refine(List.pairwise_map.mp h2).imp λh e=>h (by rw[e])
end Rh
set_option Elab.async false
set_option linter.all false
set_option maxRecDepth 100000
set_option maxHeartbeats 4000000
namespace Rh
open PySem L2 PyProof.Rows
def qU (H:Hp) (ps:List Addr) (rs:List (Str×List Str)):Prop:=ps.length=rs.length/\∀(i:Nat) (p:Addr) (r:Str×List Str),ps[i]?=some p->rs[i]?=some r->∃q,H p=some (.tup [.str r.1,.ref q])/\H q=some (.tup (r.2.map V.str))
def kA:Sp:=λvs H Q _=>∃(d:Addr) (mo:Nat) (n s t:Int),vs=[.ref d,.int mo]/\H d=some (.dK (src n s t))/\0 < mo/\mo<=14/\
 ∀(l:Addr) (ps:List Addr) (rs:List (Str×List Str)) (n' t':Int) (H':Hp),H l=none->H' l=some (.lst (ps.map V.ref))->qU H' ps rs->qt rs->0 < rs.length->rs.length<=mo->H' d=some (.dK (src n' s t'))->Fr H d H'->Q (.ref l) H'
structure QK (mg:Str->Option Value):Prop where
 srt:mg "sorted"=none
 lst:mg "list"=none
 rev:mg "reversed"=none
 set:mg "set"=none
 tup:mg "tuple"=none
theorem qU.mono {H H':Hp} {ps:List Addr} {rs:List (Str×List Str)} (h:qU H ps rs) (s:qo H H'):qU H' ps rs:=⟨h.1,λi p r e1 e2=>let ⟨q,a,b⟩:=h.2 i p r e1 e2;⟨q,s _ _ a,s _ _ b⟩⟩
theorem JZ.mono {H H':Hp} {ps:List Addr} {ks:List (Nat×Nat)} (h:JZ H ps ks) (s:qo H H'):JZ H' ps ks:=⟨h.1,λi p k e1 e2=>s _ _ (h.2 i p k e1 e2)⟩
theorem Fr.same {H H' H'':Hp} {d:Addr} (h:Fr H d H') (s:qo H' H''):Fr H d H'':=λb u hb hn=>s _ _ (h b u hb hn)
theorem qU.snoc {H:Hp} {ps:List Addr} {rs:List (Str×List Str)} (h:qU H ps rs) {p q:Addr} {r:Str×List Str} (hp:H p=some (.tup [.str r.1,.ref q])) (hq:H q=some (.tup (r.2.map V.str))):qU H (ps++[p]) (rs++[r]):=by
 refine⟨by rw[List.length_append,List.length_append,h.1];rfl,λi p' r' e1 e2=>?_⟩
 by_cases hi:i < ps.length
 . rw[List.getElem?_append_left hi]at e1
   rw[List.getElem?_append_left (by rw[<-h.1];exact hi)]at e2
   exact h.2 i p' r' e1 e2
 . have hi':i=ps.length:=by
     have:=(List.getElem?_eq_some_iff.mp e1).1
     rw[List.length_append,List.length_singleton]at this
     omega
   subst hi'
   rw[List.getElem?_append_right (Nat.le_refl _),Nat.sub_self]at e1
   rw[h.1,List.getElem?_append_right (Nat.le_refl _),Nat.sub_self]at e2
   obtain rfl:=(Option.some.inj e1).symm
   obtain rfl:=(Option.some.inj e2).symm
   exact⟨q,hp,hq⟩
theorem qU.upd_lst {H:Hp} {ps:List Addr} {rs:List (Str×List Str)} {l:Addr} {xs:List V} {o:HO} (h:qU H ps rs) (hl:H l=some (.lst xs)):qU (upd H l o) ps rs:=by
 refine⟨h.1,λi p r e1 e2=>?_⟩
 obtain⟨q,a,b⟩:=h.2 i p r e1 e2
 refine⟨q,?_,?_⟩
 . rw[qi (λe=>by rw[e,hl]at a;cases a)]
   exact a
 . rw[qi (λe=>by rw[e,hl]at b;cases b)]
   exact b
theorem Vy {tc:TT} {tp u:TS} {D:Ji} {σ:L2.St} {H0:Hp} (R:Bool->Hp->Prop) (G:L2.St->Hp->Prop) (ht:∀Q:Bool->Hp->Prop,(∀b H1,R b H1->Q b H1)->tc σ H0 Q)
   (hT:∀H1,R true H1->∀D':Ji,(∀σ' H',G σ' H'->D'.nx σ' H')->tp D' σ H1) (hF:∀H1,R false H1->G σ H1) (k:∀σ' H',G σ' H'->u D σ' H'):Ke (xI tc tp VW) u D σ H0:=
 ht _ λb H1 r=>by
   cases b
   . exact jx (k _ _ (hF _ r))
   . exact Qc (hT _ r _ k)
theorem uG {zs:List Str} {j:Nat} (h:j < zs.length):xq (zs.map V.str) ((j:Nat):Int)=some (V.str (X7 zs j)):=Qi (by rw[List.getElem?_map,Xk h];rfl)
theorem kq {ks:List (Nat×Nat)} {j:Nat} {x:Nat×Nat} (k:Nat) (h:ks[j]?=some x):YL (ks.take (j+1)) k=YL (ks.take j) k++if x.1=k then [x.2] else []:=by
 unfold YL
 rw[List.take_add_one,h,List.filter_append,List.map_append]
 congr 1
 by_cases e:x.1=k
 . rw[if_pos e]
   simp [e]
 . rw[if_neg e]
   simp [e]
abbrev oL (os:List Nat):List V:=os.map λk=>V.int ((k:Nat):Int)
theorem wK (os:List Nat):oL os=(os.map λk=>((k:Nat):Int)).map V.int:=by rw[List.map_map];rfl
section
variable {P:Program} {w:World} {K:PySem.W.Frag} {mg:Str->Option Value} {base:Heap}
abbrev RC:List Str:=["_law_source_here","_law_most","_law_many","_law_names_here","_law_shape","_law_pairs","_law_about","_law_order","_law_rows_here","_law_k","_law_leads_here"]
theorem Qs:qu RC ["_law_source_here","_law_most"] (qm Ug):=⟨rfl,rfl,rfl,by decide+kernel,rfl,by decide+kernel,by decide+kernel⟩
abbrev R4:List Str:=["_law_one","_law_j","_law_k","_law_names_here"]
theorem UM:R4.Nodup:=by decide+kernel
theorem wA {f fT fN fL:Addr} {fd fdT fdN fdL:FuncData} (F:j7 K "_law_rows" "_law_rows" Ug f fd) (B:Jr mg) (G:QK mg) (hT:jG K mg "_law_take" zM ["_law_source_here","_law_many"] fT fdT)
   (hN:jG K mg "_law_names" zO ["_law_source_here","_law_many"] fN fdN) (hL:jG K mg "_law_leads" zR z9 fL fdL):qv P w K mg base qV 3 f fd ["_law_source_here","_law_most"] kA:=by
 have GT:qv P w K mg base qV 1 fT fdT ["_law_source_here","_law_many"] zI:=zt hT.fn
 have GN:qv P w K mg base qV 2 fN fdN ["_law_source_here","_law_many"] V6:=yo hN.fn B hT
 have GL:qv P w K mg base qV 2 fL fdL z9 V7:=yq hL.fn B G.srt hT
 refine F.okJ Qs (λvs H Q E h=>?_) (λcdv A outer s H vs Q E hr h=>?_)
 . obtain⟨d,m,n,sd,t,rfl,_⟩:=h
   rfl
 . obtain⟨d,mo,n,sd,t,rfl,hd,hmo,hm14,q⟩:=h
   have r1:jg 1 _:=hr.mono (by decide)
   refine⟨_,qe (qx (i:=2) Qs.nd rfl (Or.inr rfl) (qP Q4 qj (qY hT GT r1 (by rfl) (qb (jv 0) (qb (jv 1) qf)))))
     (qe (qx (i:=3) Qs.nd rfl (Or.inr rfl) (qY hN GN hr (by rfl) (qb (jv 0) (qb (jv 2) qf))))
     (qe (qx (i:=4) Qs.nd rfl (Or.inl rfl) (qY hT GT r1 (by rfl) (qb (jv 0) (qb qj qf))))
     (qe (qx (i:=5) Qs.nd rfl (Or.inl rfl) (qY hL GL hr (by rfl) (qb (jv 0) (qb (jv 2) (qb (jv 4) (qb (qP Q4 qj (qY hT GT r1 (by rfl) (qb (jv 0) (qb qj qf)))) qf))))))
     (qe (qx (i:=6) Qs.nd rfl (Or.inl rfl) (QC QI (qY hT GT r1 (by rfl) (qb (jv 0) (qb qj qf))) qj (qz _)))
     (qe (qx (i:=7) Qs.nd rfl (Or.inl rfl) (RN rfl (by rfl) G.lst (by rfl) B.rng (jv 2)))
     (qe (q5 (Qb (jv 6)) (qh (Qo (i:=7) (N':=["_law_k","_law_many"]) (ix:=[none,some 2]) Qs.nd rfl (Or.inl rfl) rfl ⟨rfl,rfl,rfl,rfl,rfl⟩ (ja (by rfl) B.rng (qb (jv 2) qf))
         (λC s2 H2 fp pins=>⟨ql (i:=0) (show (["_law_k","_law_many"]:List Str).Nodup by decide+kernel) rfl (Or.inl rfl),js,qP Q3 (qP Q0 (jv 0) qj) (jv 1)⟩))) qE)
     (qe (q5 (qr Qw (qC W2 (by rfl) B.len boot_len (qb (ji (vW rfl) (by rfl) G.set boot_set (qb (jv 7) qf)) qf)) (jv 2) (qz _))
         (qh (qx (i:=7) Qs.nd rfl (Or.inl rfl) (K1 rfl (by rfl) G.lst (by rfl) G.rev (by rfl) B.rng (jv 2)))) qE)
     (qe (qx (i:=8) Qs.nd rfl (Or.inl rfl) (QS qf))
     (qe (qW PassesOwn.never rfl (qL (jv 7)) (ql (i:=9) Qs.nd rfl (Or.inr rfl))
       (qe (Qo (i:=10) (N':=R4) (ix:=[none,none,some 9,some 3]) (g:=K5 K 2 (WQ (Qx 0) (WQ (Qx 1) K7))) (te:=YA (Rp K) (qJ 3) (qJ 1)) Qs.nd rfl (Or.inl rfl) rfl ⟨rfl,rfl,rfl,rfl,rfl⟩ (qL (jv 5))
           (λC s2 H2 fp pins=>⟨QJ rfl (qN (ql (i:=0) UM rfl (Or.inl rfl)) (qN (ql (i:=1) UM rfl (Or.inl rfl)) j2)),
             jF (qr QI (jv 0) (jv 2) (qz _)),jA Zw (jv 3) (jv 1) (λ_ _=>rfl)⟩))
       (qe (q5 (Qb (jv 6)) (qh (jT (Vw PySem.F.plainAttrs_list PySem.F.slot_list_reverse PySem.F.type_list_reverse Vq (jv 10)))) qE)
       (qh (jT (WN PySem.F.plainAttrs_list PySem.F.slot_list_append PySem.F.type_list_append JR (jv 8) (qb
         (jl (qb (jA Zw (jv 3) (jv 9) (λ_ _=>rfl)) (qb (ji Qh (by rfl) G.tup boot_tuple (qb (jv 10) qf)) qf))) qf)))))))
     (qh (qB (jv 8)))))))))))),?_⟩
   refine⟨_,rfl,_,rfl,d,mo,n,sd,t,rfl,hd,by omega,by omega,λr n1 t1 r0 r1=>⟨_,_,rfl,rfl,?_⟩⟩
   obtain⟨m,em,m0,m1⟩:∃m:Nat,1+r=(m:Int)/\0 < m/\m<=mo:=⟨(1+r).toNat,by omega,by omega,by omega⟩
   have em':(λi j:Int=>V.int (i+j)) 1 r=V.int (m:Int):=congrArg V.int em
   rw[em']
   refine⟨_,rfl,_,rfl,d,m,n1,sd,t1,rfl,qd,by omega,λlz zs n2 t2 H2 hlz hlz' zl zn znd hd2 fr2=>?_⟩
   have fr2:Fr H d H2:=Fr.refl.at_d.trans fr2
   refine⟨_,rfl,d,5,n2,sd,t2,rfl,hd2,by decide,by decide,λsh n3 t3 _ _=>?_⟩
   refine⟨_,rfl,_,rfl,_,rfl,_,rfl,d,5,n3,sd,t3,rfl,qd,by decide,by decide,λlw n4 t4 _ _=>⟨_,_,rfl,rfl,d,m,n4,sd,t4,sh,1+lw,rfl,qd,by omega,λlp ps ks n5 t5 H5 hlp hlp' pat kord klt k40 hd5 fr5=>?_⟩⟩
   have nzd:lz≠d:=λe=>by rw[e,qd]at hlz;cases hlz
   have hz5:H5 lz=some (.lst (zs.map V.str)):=fr5 _ _ (by rw[qi nzd,qi nzd];exact hlz') nzd
   have fr5:Fr H d H5:=fr2.at_d.at_d.trans fr5
   refine⟨_,rfl,d,2,n5,sd,t5,rfl,hd5,by decide,by decide,λab n6 t6 _ _=>⟨rfl,?_⟩⟩
   generalize decide (V.int ab=V.int 1)=b
   have npd:lp≠d:=λe=>by rw[e,qd]at hlp;cases hlp
   have fr6:Fr H d (upd H5 d (.dK (src n6 sd t6))):=fr5.at_d
   have hd6:upd H5 d (.dK (src n6 sd t6)) d=some (.dK (src n6 sd t6)):=qd
   have hz6:upd H5 d (.dK (src n6 sd t6)) lz=some (.lst (zs.map V.str)):=by rw[qi nzd];exact hz5
   have hp6:upd H5 d (.dK (src n6 sd t6)) lp=some (.lst (ps.map V.ref)):=by rw[qi npd];exact hlp'
   have pat6:JZ (upd H5 d (.dK (src n6 sd t6))) ps ks:=⟨pat.1,λi p k e1 e2=>by
     have h1:=pat.2 i p k e1 e2
     have:p≠d:=λe=>by rw[e,hd5]at h1;cases h1
     rw[qi this]
     exact h1⟩
   generalize upd H5 d (.dK (src n6 sd t6))=H6 at fr6 hd6 hz6 hp6 pat6
   refine⟨_,rfl,m,rfl,by omega,λlo hlo=>?_⟩
   refine Yo ?_
   dsimp only[List.set]
   refine Vy (λc H'=>c=b/\H'=upd H6 lo (.lst (uM m))) (λσ' H'=>∃lo os,σ'=[some (.ref d),some (.int mo),some (.int m),some (.ref lz),some (.int sh),some (.ref lp),some (.bl b),some (.ref lo),none,none,none]/\qo H6 H'/\H6 lo=none/\H' lo=some (.lst (oL os))/\(os=List.range m\/os=Z4 m))
     (λQ k=>⟨_,rfl,b,rfl,k _ _ ⟨rfl,rfl⟩⟩) ?_ ?_ ?_
   . rintro H1 ⟨rfl,rfl⟩ D' k
     refine⟨_,rfl,m,rfl,by omega,by omega,λD hD=>?_⟩
     refine QF (λi σ' H'=>∃v:Option V,σ'=[v,some (.int m)]/\H'=upd (upd H6 lo (.lst (uM m))) D (.lst (oL ((List.range i).map λk=>k*5 % m)))) ⟨none,rfl,rfl⟩ ?_ ?_
     . rintro i σ' H' hi ⟨v,rfl,rfl⟩
       rw[Int.zero_add]
       have hi:i < m:=by simpa using hi
       refine⟨_,rfl,_,_,rfl,rfl,.inl ⟨by omega,by omega⟩,_,rfl,_,_,rfl,rfl,(by show (0:Int) < m;omega),_,qd,?_,_,rfl,?_⟩
       . rw[List.length_map,List.length_map,List.length_range]
         exact qk (by omega)
       . rw[jE,List.range_succ,List.map_append,oL,oL,List.map_append]
         rfl
     . rintro σ' H' ⟨v,rfl,rfl⟩
       have hD6:H6 D=none:=by
         by_cases e:D=lo
         . rw[e];exact hlo
         . rw[qi e]at hD;exact hD
       exact k _ _ ⟨D,Z4 m,rfl,λa u h=>qp (qp h hlo) hD,hD6,qd,.inr rfl⟩
   . rintro H1 ⟨rfl,rfl⟩
     exact⟨lo,List.range m,rfl,qg hlo,hlo,qd,.inl rfl⟩
   rintro σ' H7 ⟨lo,os,rfl,s7,hlo6,hlo7,hos⟩
   have los:os.length=m:=by
     rcases hos with rfl | rfl
     . exact List.length_range
     . rw[Z4,List.length_map,List.length_range]
   refine Vy (λc H'=>qo H7 H'/\(c=true\/os.Nodup)) (λσ' H'=>∃lo os,σ'=[some (.ref d),some (.int mo),some (.int m),some (.ref lz),some (.int sh),some (.ref lp),some (.bl b),some (.ref lo),none,none,none]/\qo H6 H'/\H' lo=some (.lst (oL os))/\W4 m os)
     ?_ ?_ ?_ ?_
   . intro Q k
     refine⟨_,rfl,lo,os.map (λk=>((k:Nat):Int)),rfl,.of (by rw[<-wK];exact hlo7),by rw[List.length_map,los];omega,λl S hl=>?_⟩
     refine⟨l,S,_,rfl,qd,_,rfl,_,_,rfl,rfl,_,rfl,k _ _ ⟨qg hl,?_⟩⟩
     by_cases h:(((firstMet (λi=>(os.map λk=>((k:Nat):Int)).getD i 0) (os.map λk=>((k:Nat):Int)).length).length:Nat):Int) < (m:Int)
     . exact .inl (decide_eq_true h)
     . exact .inr (KL (by rw[los];omega))
   . rintro H1 ⟨s1,_⟩ D' k
     refine⟨_,rfl,m,rfl,by omega,λl hl=>?_⟩
     exact k _ _ ⟨l,ZC m,rfl,λa u h=>qp (s1 _ _ (s7 _ _ h)) hl,qd,Vl m⟩
   . rintro H1 ⟨s1,h⟩
     have h:os.Nodup:=h.resolve_left (by decide)
     refine⟨lo,os,rfl,λa u h=>s1 _ _ (s7 _ _ h),s1 _ _ hlo7,?_⟩
     rcases hos with rfl | rfl
     . exact ya m
     . exact Wz (by omega) m0 h
   rintro σ' H8 ⟨lo,os,rfl,s8,hlo8,ho⟩
   refine⟨by show 0<=sizeLine;decide,λlr hlr=>⟨_,rfl,lo,rfl,⟨_,.of (qp hlo8 hlr)⟩,?_⟩⟩
   refine jo (K:=K) (a:=lo) (xs:=oL os) (λi σ' H'=>∃(v9 v10:Option V) (qs:List Addr),σ'=[some (.ref d),some (.int mo),some (.int m),some (.ref lz),some (.int sh),some (.ref lp),some (.bl b),some (.ref lo),some (.ref lr),v9,v10]/\
     qo H8 H'/\H' lr=some (.lst (qs.map V.ref))/\qU H' qs ((os.take i).map (QV zs ks b)))
     ⟨none,none,[],rfl,qg hlr,qd,rfl,λi p r e=>(nomatch e)⟩ (λi σ' H' _ ⟨_,_,_,_,s,_⟩=>.of (s _ _ hlo8)) ?_ ?_
   . rintro i x σ' H' hx ⟨v9,v10,qs,rfl,s9,hlr9,rat⟩
     have hix:i < os.length:=by
       have:=(List.getElem?_eq_some_iff.mp hx).1
       rwa [List.length_map]at this
     obtain⟨k,hk⟩:∃k,os[i]?=some k:=⟨_,List.getElem?_eq_getElem hix⟩
     have ex:x=V.int ((k:Nat):Int):=by
       rw[List.getElem?_map,hk]at hx
       exact(Option.some.inj hx).symm
     subst ex
     have hkm:k < m:=ho.lt k (List.mem_of_getElem? hk)
     refine⟨_,rfl,lp,rfl,⟨_,.of (s9 _ _ (s8 _ _ hp6))⟩,λD hD=>?_⟩
     have nDr:D≠lr:=λe=>by rw[e,hlr9]at hD;cases hD
     have hz9:H' lz=some (.lst (zs.map V.str)):=s9 _ _ (s8 _ _ hz6)
     have pat9:JZ H' ps ks:=pat6.mono λa u h=>s9 _ _ (s8 _ _ h)
     refine jS (K:=K) (a:=lp) (xs:=ps.map V.ref) (λj σ'' H''=>∃v0 v1:Option V,σ''=[v0,v1,some (.int k),some (.ref lz)]/\H''=upd H' D (.lst (((YL (ks.take j) k).map (X7 zs)).map V.str))) ⟨none,none,rfl,rfl⟩
       (λj σ'' G _ ⟨_,_,_,e⟩=>e▸.of (qp (s9 _ _ (s8 _ _ hp6)) hD)) ?_ ?_
     . rintro j y σ'' G hy ⟨v0,v1,rfl,rfl⟩
       have hj:j < ps.length:=by
         have:=(List.getElem?_eq_some_iff.mp hy).1
         rwa [List.length_map]at this
       obtain⟨p,hp⟩:∃p,ps[j]?=some p:=⟨_,List.getElem?_eq_getElem hj⟩
       obtain⟨kk,hkk⟩:∃p,ks[j]?=some p:=⟨_,List.getElem?_eq_getElem (by rw[<-pat9.1];exact hj)⟩
       have ey:y=V.ref p:=by
         rw[List.getElem?_map,hp]at hy
         exact(Option.some.inj hy).symm
       subst ey
       have hpt:=pat9.2 j p kk hp hkk
       have hk2:kk.2 < zs.length:=by rw[zl];exact(klt kk (List.mem_of_getElem? hkk)).2
       refine⟨p,_,rfl,.of (qp hpt hD),rfl,_,_,rfl,_,_,rfl,rfl,_,rfl,_,rfl,rfl,_,rfl,?_⟩
       rw[kq k hkk]
       by_cases e:kk.1=k
       . have e1:decide (V.int ((kk.1:Nat):Int)=V.int ((k:Nat):Int))=true:=decide_eq_true (by rw[e])
         rw[e1,if_pos e]
         refine Qc ⟨_,rfl,_,rfl,lz,_,_,_,rfl,rfl,.of (qp hz9 hD),uG hk2,_,qd,?_,_,_,rfl,?_⟩
         . rw[List.length_map,List.length_map]
           refine qk ?_
           have h1:(YL (ks.take j) k).length<=(ks.take j).length:=by
             unfold YL
             rw[List.length_map]
             exact List.length_filter_le _ _
           rw[List.length_take]at h1
           omega
         . rw[jE,List.map_append,List.map_append]
           rfl
       . have e1:decide (V.int ((kk.1:Nat):Int)=V.int ((k:Nat):Int))=false:=decide_eq_false (by
           intro z
           have:=V.int.inj z
           omega)
         rw[e1,if_neg e,List.append_nil]
         exact jx ⟨_,_,rfl,rfl⟩
     . rintro σ'' G ⟨v0,v1,rfl,rfl⟩
       rw[List.length_map,pat9.1,List.take_of_length_le (Nat.le_refl _)]
       refine Yo ?_
       dsimp only[List.set]
       refine Vy (λc G=>c=b/\G=upd H' D (.lst (((YL ks k).map (X7 zs)).map V.str)))
         (λσ' G=>σ'=[some (.ref d),some (.int mo),some (.int m),some (.ref lz),some (.int sh),some (.ref lp),some (.bl b),some (.ref lo),some (.ref lr),some (.int k),some (.ref D)]/\G=upd H' D (.lst ((QV zs ks b k).2.map V.str)))
         (λQ k=>⟨_,rfl,b,rfl,k _ _ ⟨rfl,rfl⟩⟩) ?_ ?_ ?_
       . rintro H1 ⟨rfl,rfl⟩ D' kk
         refine⟨_,rfl,.inl ⟨rfl,_,.of qd⟩,D,_,rfl,rfl,qd,?_⟩
         refine kk _ _ ⟨rfl,?_⟩
         rw[jE,QV,if_pos rfl,List.map_reverse]
       . rintro H1 ⟨rfl,rfl⟩
         exact⟨rfl,rfl⟩
       rintro σ' G ⟨rfl,rfl⟩
       have hlrG:upd H' D (.lst ((QV zs ks b k).2.map V.str)) lr=some (.lst (qs.map V.ref)):=by rw[qi (Ne.symm nDr)];exact hlr9
       have sG:qo H' (upd H' D (.lst ((QV zs ks b k).2.map V.str))):=qg hD
       refine⟨_,rfl,.inl ⟨rfl,_,.of hlrG⟩,_,rfl,_,rfl,lz,_,_,_,rfl,rfl,.of (sG _ _ hz9),uG (by rw[zl];exact hkm),_,rfl,D,_,rfl,.inl ⟨.of qd,λlq hq=>⟨by show 2<=sizeLine;decide,λlt hlt=>?_⟩⟩⟩
       have hqlr:=qp (o':=HO.tup ((QV zs ks b k).2.map V.str)) hlrG hq
       have htlr:=qp (o':=HO.tup [V.str (X7 zs k),V.ref lq]) hqlr hlt
       refine⟨lr,_,_,rfl,rfl,htlr,?_,_,_,qs++[lt],rfl,?_,?_,?_⟩
       . rw[List.length_map,rat.1,List.length_map,List.length_take]
         refine qk ?_
         have:=ho.len
         omega
       . exact qo.upd (λa u h=>qp (qp (sG _ _ (s9 _ _ h)) hq) hlt) hlr
       . rw[List.map_append]
         exact qd
       . have e:os.take (i+1)=os.take i++[k]:=by rw[List.take_add_one,hk];rfl
         rw[e,List.map_append]
         refine qU.upd_lst ?_ htlr
         exact qU.snoc (q:=lq) (rat.mono λa u h=>qp (qp (sG _ _ h) hq) hlt) qd (qp qd hlt)
   . rintro σ' H' ⟨v9,v10,qs,rfl,s9,hlr9,rat⟩
     have e:(oL os).length=os.length:=List.length_map ..
     rw[e,List.take_of_length_le (Nat.le_refl _)]at rat
     have h8:H6 lr=none:=by
       cases z:H6 lr with
       | none=>rfl
       | some u=>rw[s8 _ _ z]at hlr;cases hlr
     refine⟨_,rfl,q lr qs _ n6 t6 H' (fr6.fresh hd6 h8) hlr9 rat (vN b zl zn znd kord klt k40 ho) ?_ ?_ (s9 _ _ (s8 _ _ hd6)) (fr6.same λa u h=>s9 _ _ (s8 _ _ h))⟩
     . rw[List.length_map,ho.len];exact m0
     . rw[List.length_map,ho.len];exact m1
end
end Rh
set_option Elab.async false
set_option linter.all false
set_option maxRecDepth 100000
set_option maxHeartbeats 4000000
namespace Rh
open PySem L2 PyProof.Rows
abbrev YT:Stmt:=top 20
abbrev zU:Stmt:=top 21
abbrev Ui:Stmt:=top 22
abbrev x9:Stmt:=top 23
abbrev Uj:Stmt:=top 24
abbrev wg:Stmt:=top 25
abbrev Wu:Stmt:=top 26
theorem RB (x:Str):[x].Nodup:=by simp
structure Jh (K:PySem.W.Frag) (mg:Str->Option Value):Prop where
 isi:mg "isinstance"=none
 str:mg "str"=none
 all:mg "all"=none
 enu:mg "enumerate"=none
 sum:mg "sum"=none
 lets:∃t,mg "LETTERS"=some (.str UT t)
 lgst:∃t,mg "LONGEST_NAME"=some (.int 8 t)
 mp:∃t,mg "MOST_PLACES"=some (.int 14 t)
 mr:∃t,mg "MOST_ROADS"=some (.int 40 t)
 kss:PySem.W.kitOne K (.type "str") (.type "str")=some true
 ktt:PySem.W.kitOne K (.type "tuple") (.type "tuple")=some true
 kll:PySem.W.kitOne K (.type "list") (.type "list")=some true
theorem K2 (c:Nat):(!(Builtin.Str.occurrences UT ⟨#[c]⟩ 0 UT.length 1).isEmpty)=jC c:=by
 rw[StrLaws.found_one,xt]
 unfold jC
 rw[Bool.eq_iff_iff]
 simp only[decide_eq_true_eq,Bool.and_eq_true,List.mem_map,List.mem_range]
 constructor
 . rintro⟨k,hk,rfl⟩
   omega
 . intro h
   exact⟨c - 97,by omega,by omega⟩
theorem xr (f:Nat->Bool) (l:List Nat) (i c:Nat) (h:l[i]?=some c):(l.take i).map f++[f c]=(l.take (i+1)).map f:=by
 rw[List.take_add_one,h]
 simp
def xP:Sp:=λvs H Q _=>∃z,vs=[.str z]/\jc z=true/\∀H',qo H H'->Q (.bl true) H'
def G9:Sp:=λvs H Q _=>∃(q:Addr) (zs:List Str),vs=[.ref q]/\H q=some (.tup (zs.map V.str))/\(∀z∈zs,jc z=true)/\zs.length<=1000/\∀H',qo H H'->Q (.bl true) H'
def uP:Sp:=λvs H Q _=>∃(p q:Addr) (r:Str×List Str),vs=[.ref p]/\H p=some (.tup [.str r.1,.ref q])/\H q=some (.tup (r.2.map V.str))/\jc r.1=true/\(∀z∈r.2,jc z=true)/\r.2.length<=1000/\∀H',qo H H'->Q (.bl true) H'
structure Qe (H:Hp) (l:Addr) (ps:List Addr) (rs:List (Str×List Str)):Prop where
 at_:H l=some (.lst (ps.map V.ref))
 rows:qU H ps rs
 good:qt rs
 pos:0 < rs.length
 le:rs.length<=14
theorem Qe.mono {H H':Hp} {l:Addr} {ps:List Addr} {rs:List (Str×List Str)} (h:Qe H l ps rs) (s:qo H H'):Qe H' l ps rs:=⟨s _ _ h.at_,h.rows.mono s,h.good,h.pos,h.le⟩
theorem qt.names {rs:List (Str×List Str)} (h:qt rs):∀r∈rs,∀z∈r.2,jc z=true:=λr hr z hz=>by
 obtain⟨r',hr',rfl⟩:=List.mem_map.mp (h.to r hr z hz)
 exact h.nm r' hr'
theorem qt.len {rs:List (Str×List Str)} (h:qt rs):∀r∈rs,r.2.length<=40:=λr hr=>by
 refine Nat.le_trans ?_ h.few
 have:∀(rs:List (Str×List Str)),r∈rs->r.2.length<=(rs.map λr=>r.2.length).sum:=by
   intro rs
   induction rs with
   | nil=>intro h;cases h
   | cons a rs ih=>
     intro h
     rw[List.map_cons,List.sum_cons]
     rcases List.mem_cons.mp h with rfl | h
     . omega
     . have:=ih h
       omega
 exact this rs hr
theorem qU.item {H:Hp} {ps:List Addr} {rs:List (Str×List Str)} (h:qU H ps rs) {i:Nat} {x:V} (hx:(ps.map V.ref)[i]?=some x):∃p q r,x=.ref p/\rs[i]?=some r/\r∈rs/\H p=some (.tup [.str r.1,.ref q])/\H q=some (.tup (r.2.map V.str)):=by
 rw[List.getElem?_map]at hx
 cases e:ps[i]? with
 | none=>rw[e]at hx;cases hx
 | some p=>
   rw[e]at hx
   have hi:i < rs.length:=by
     have:=(List.getElem?_eq_some_iff.mp e).1
     rw[h.1]at this
     exact this
   obtain⟨q,a,b⟩:=h.2 i p _ e (List.getElem?_eq_getElem hi)
   exact⟨p,q,_,(Option.some.inj hx).symm,List.getElem?_eq_getElem hi,List.getElem_mem hi,a,b⟩
def ZJ:Sp:=λvs H Q _=>∃(l:Addr) (ps:List Addr) (rs:List (Str×List Str)),vs=[.ref l]/\Qe H l ps rs/\∀H',qo H H'->Q .non H'
def uQ:Sp:=λvs H Q _=>∃(l:Addr) (zs:List Str),vs=[.ref l]/\H l=some (.lst (zs.map V.str))/\zs.Nodup/\zs.length<=1000/\∀H',qo H H'->Q .non H'
def kE:Sp:=λvs H Q _=>∃(q l:Addr) (es zs:List Str),vs=[.ref q,.ref l]/\H q=some (.tup (es.map V.str))/\H l=some (.lst (zs.map V.str))/\es.Nodup/\(∀z∈es,z∈zs)/\es.length<=900/\∀H',qo H H'->Q .non H'
theorem Qj {kvs:List (qA×V)} {k:qA} (h:¬k∈kvs.map (·.1)):qM kvs k=none:=by
 cases e:qM kvs k with
 | none=>rfl
 | some v=>exact absurd (xF e) h
theorem Y7 (zs:List Str):(zs.map V.str).all Jn=true:=by
 rw[List.all_map,List.all_eq_true]
 intro z _
 rfl
theorem UB {z:Str} {zs:List Str} (h:z∈zs):zc (.str z) (zs.map V.str)=true:=by
 unfold zc
 rw[List.any_eq_true]
 exact⟨.str z,List.mem_map.mpr ⟨z,h,rfl⟩,by show (z==z)=true;simp⟩
section
variable {P:Program} {w:World} {K:PySem.W.Frag} {mg:Str->Option Value} {base:Heap}
theorem Kn:qu ["thing"] ["thing"] (qm Zn):=⟨rfl,rfl,rfl,by decide+kernel,rfl,by decide+kernel,by decide+kernel⟩
theorem XJ {f:Addr} {fd:FuncData} (F:j7 K "is_name" "is_name" Zn f fd) (B:Jr mg) (T:Jh K mg):qv P w K mg base qV 1 f fd ["thing"] xP:=by
 refine F.okJ Kn (λvs H Q E h=>?_) (λcdv A outer s H vs Q E hr h=>?_)
 . obtain⟨x,rfl,_⟩:=h
   rfl
 . obtain⟨z,rfl,hz,q⟩:=h
   obtain⟨tl,hlets⟩:=T.lets
   obtain⟨tg,hlg⟩:=T.lgst
   refine⟨_,qe (q5 (JD (Qb (qC jK (by rfl) T.isi boot_isinstance (qb (jv 0) (qb (Q8 (v:=.ty "str") (by rfl) T.str boot_str rfl) qf))))) (qh (qB j3)) qE)
     (qe (q5 (Jm (qr Qw (qC Je (by rfl) B.len boot_len (qb (jv 0) qf)) qj (qz _))
         (Qu (qr YW (qC Je (by rfl) B.len boot_len (qb (jv 0) qf)) (JX (v:=.int 8) (by rfl) hlg ⟨_,rfl⟩) (qz _)))).pt (qh (qB j3)) qE)
     (qh (qB (qC (ZT rfl) (by rfl) T.all boot_all (qb (jP (N':=["sign"]) (ix:=[none]) rfl ⟨rfl,rfl,rfl,rfl,rfl⟩ (KZ (jv 0)) (λC s2 H2 fp pins=>
       ⟨ql (i:=0) (RB _) rfl (Or.inl rfl),js,QC vk (jv 0) (JX (v:=.str UT) (by rfl) hlets ⟨_,rfl⟩) (by with_unfolding_all rfl)⟩)) qf))))),?_⟩
   have hn:=hz
   unfold jc at hn
   simp only[Bool.and_eq_true,decide_eq_true_eq]at hn
   obtain⟨⟨n1,n8⟩,na⟩:=hn
   have hz':z.length<=sizeLine:=Nat.le_of_lt (qk (by omega))
   refine⟨_,rfl,_,_,_,_,rfl,rfl,.str z,T.kss,_,rfl,jx ?_⟩
   refine⟨_,rfl,z,rfl,hz',_,_,rfl,rfl,_,rfl,?_⟩
   refine vG (λh=>?_) (λh=>?_)
   . exact absurd (of_decide_eq_true h) (by omega)
   . refine⟨_,rfl,z,rfl,hz',_,_,rfl,rfl,_,rfl,?_⟩
     refine vG (λh2=>?_) (λh2=>?_)
     . exact absurd (of_decide_eq_true h2) (by show ¬(8:Int) < (z.length:Int);omega)
     . refine⟨_,rfl,z,rfl,λD hD=>?_⟩
       refine uv (λi σ' H'=>∃v,σ'=[v]/\H'=upd H D (.lst (((z.cps.toList.take i).map jC).map V.bl))) ⟨none,rfl,rfl⟩ ?_ ?_
       . rintro i c σ' H' hc ⟨v,rfl,rfl⟩
         refine⟨_,rfl,_,_,rfl,rfl,_,qd,?_,?_⟩
         . rw[List.length_map,List.length_map,List.length_take]
           exact Nat.lt_of_le_of_lt (Nat.min_le_right _ _) (qk (show z.cps.toList.length<=1000 by rw[Array.length_toList];exact Nat.le_trans n8 (by decide)))
         . refine⟨_,rfl,?_⟩
           rw[jE,K2]
           have hc':z.cps.toList[i]?=some c:=by simpa using hc
           rw[<-xr jC z.cps.toList i c hc',List.map_append]
           rfl
       . rintro σ' H' ⟨v,rfl,rfl⟩
         refine⟨D,_,rfl,.of qd,?_⟩
         have e0:z.cps.toList.take z.cps.size=z.cps.toList:=List.take_of_length_le (by simp)
         have e1:(z.cps.toList.map jC).all id=true:=by rw[List.all_map];exact na
         rw[e0,e1]
         exact q _ (qg hD)
theorem Km:qu ["thing"] ["thing"] (qm YT):=⟨rfl,rfl,rfl,by decide+kernel,rfl,by decide+kernel,by decide+kernel⟩
theorem wz {f fN:Addr} {fd fdN:FuncData} (F:j7 K "is_tuple_of_names" "is_tuple_of_names" YT f fd) (B:Jr mg) (G:QK mg) (T:Jh K mg) (hN:jG K mg "is_name" Zn ["thing"] fN fdN):qv P w K mg base qV 2 f fd ["thing"] G9:=by
 have GN:qv P w K mg base qV 1 fN fdN ["thing"] xP:=XJ hN.fn B T
 refine F.okJ Km (λvs H Q E h=>?_) (λcdv A outer s H vs Q E hr h=>?_)
 . obtain⟨x,zs,rfl,_⟩:=h
   rfl
 . obtain⟨x,zs,rfl,hx,hz,hl,q⟩:=h
   refine⟨_,qh (qB (J8 (qC jK (by rfl) T.isi boot_isinstance (qb (jv 0) (qb (Q8 (v:=.ty "tuple") (by rfl) G.tup boot_tuple rfl) qf)))
     (Yj (qC (ZT rfl) (by rfl) T.all boot_all (qb (jP (N':=["part"]) (ix:=[none]) rfl ⟨rfl,rfl,rfl,rfl,rfl⟩ (ZQ (jv 0)) (λC s2 H2 fp pins=>
       ⟨ql (i:=0) (RB _) rfl (Or.inl rfl),js,qY hN GN hr (by rfl) (qb (jv 0) qf)⟩)) qf))))),?_⟩
   refine⟨_,rfl,_,_,_,_,rfl,rfl,.tup hx,T.ktt,_,rfl,Qc ⟨_,rfl,x,rfl,⟨_,.of hx⟩,λD hD=>?_⟩⟩
   refine UN (K:=K) (a:=x) (xs:=zs.map V.str) (λi σ' H'=>∃v,σ'=[v]/\qo H H'/\H' D=some (.lst ((List.replicate i true).map V.bl))) ⟨none,rfl,qg hD,qd⟩ (λi σ' H' _ ⟨_,_,s,_⟩=>.of (s _ _ hx)) ?_ ?_
   . rintro i y σ' H' hy ⟨v,rfl,s1,hD1⟩
     rw[List.getElem?_map]at hy
     cases e:zs[i]? with
     | none=>rw[e]at hy;cases hy
     | some z=>
       rw[e]at hy
       obtain rfl:=(Option.some.inj hy).symm
       have hi:=(List.getElem?_eq_some_iff.mp e).1
       refine⟨_,rfl,z,rfl,hz z (List.mem_of_getElem? e),λH2 s2=>⟨_,s2 _ _ hD1,?_,_,rfl,?_,?_⟩⟩
       . rw[List.length_map,List.length_replicate]
         exact qk (by omega)
       . exact qo.upd (s1.trans s2) hD
       . rw[qd,List.replicate_succ',List.map_append]
         rfl
   . rintro σ' H' ⟨v,rfl,s1,hD1⟩
     refine⟨D,_,rfl,.of hD1,?_⟩
     have e:(List.replicate (zs.map V.str).length true).all id=true:=by simp
     rw[e]
     exact q _ s1
theorem x3:qu ["thing"] ["thing"] (qm zU):=⟨rfl,rfl,rfl,by decide+kernel,rfl,by decide+kernel,by decide+kernel⟩
theorem yt {f fN fP:Addr} {fd fdN fdP:FuncData} (F:j7 K "is_row" "is_row" zU f fd) (B:Jr mg) (G:QK mg) (T:Jh K mg) (hN:jG K mg "is_name" Zn ["thing"] fN fdN) (hP:jG K mg "is_tuple_of_names" YT ["thing"] fP fdP):qv P w K mg base qV 3 f fd ["thing"] uP:=by
 have GN:qv P w K mg base qV 1 fN fdN ["thing"] xP:=XJ hN.fn B T
 have GP:qv P w K mg base qV 2 fP fdP ["thing"] G9:=wz hP.fn B G T hN
 refine F.okJ x3 (λvs H Q E h=>?_) (λcdv A outer s H vs Q E hr h=>?_)
 . obtain⟨p,x,r,rfl,_⟩:=h
   rfl
 . obtain⟨p,x,r,rfl,hp,hx,hn,hz,hl,q⟩:=h
   refine⟨_,qe (q5 (Jm (JD (Qb (qC jK (by rfl) T.isi boot_isinstance (qb (jv 0) (qb (Q8 (v:=.ty "tuple") (by rfl) G.tup boot_tuple rfl) qf)))))
       (Qu (qr uZ (qC jf (by rfl) B.len boot_len (qb (jv 0) qf)) qj (qz _)))).pt ju qE)
     (qh (qB (J8 (qY hN GN (hr.mono (by decide)) (by rfl) (qb (jA jD (jv 0) qj (λ_ _=>rfl)) qf)) (Yj (qY hP GP hr (by rfl) (qb (jA jD (jv 0) qj (λ_ _=>rfl)) qf)))))),?_⟩
   refine⟨_,rfl,_,_,_,_,rfl,rfl,.tup hp,T.ktt,_,rfl,jx ⟨_,rfl,p,_,rfl,.inr (.of hp),rfl,_,rfl,jx ?_⟩⟩
   refine⟨_,rfl,p,_,0,_,rfl,rfl,.of hp,rfl,r.1,rfl,hn,λH1 s1=>⟨_,rfl,Qc ?_⟩⟩
   exact⟨_,rfl,p,_,1,_,rfl,rfl,.of (s1 _ _ hp),rfl,x,r.2,rfl,s1 _ _ hx,hz,hl,λH2 s2=>q H2 (s1.trans s2)⟩
end
end Rh
set_option Elab.async false
set_option linter.all false
set_option maxRecDepth 100000
set_option maxHeartbeats 4000000
namespace Rh
open PySem L2 PyProof.Rows
section
variable {P:Program} {w:World} {K:PySem.W.Frag} {mg:Str->Option Value} {base:Heap}
abbrev RG:List Str:=["rows","number","row"]
theorem Vh:qu RG ["rows"] (qm Ui):=⟨rfl,rfl,rfl,by decide+kernel,rfl,by decide+kernel,by decide+kernel⟩
theorem wG {f fN fP fR:Addr} {fd fdN fdP fdR:FuncData} (F:j7 K "need_form" "need_form" Ui f fd) (B:Jr mg) (G:QK mg) (T:Jh K mg) (hN:jG K mg "is_name" Zn ["thing"] fN fdN) (hP:jG K mg "is_tuple_of_names" YT ["thing"] fP fdP)
   (hR:jG K mg "is_row" zU ["thing"] fR fdR):qv P w K mg base qV 4 f fd ["rows"] ZJ:=by
 have GR:qv P w K mg base qV 3 fR fdR ["thing"] uP:=yt hR.fn B G T hN hP
 obtain⟨tm,hmp⟩:=T.mp
 refine F.okJ Vh (λvs H Q E h=>?_) (λcdv A outer s H vs Q E hr h=>?_)
 . obtain⟨l,ps,rs,rfl,_⟩:=h
   rfl
 . obtain⟨l,ps,rs,rfl,g,q⟩:=h
   refine⟨_,qe (q5 (Jm (JD (Qb (qC jK (by rfl) T.isi boot_isinstance (qb (jv 0) (qb (Q8 (v:=.ty "list") (by rfl) G.lst boot_list rfl) qf)))))
       (Qu (qr QI (qC jf (by rfl) B.len boot_len (qb (jv 0) qf)) qj (qz _)))).pt ju qE)
     (qe (q5 (qr YW (qC jf (by rfl) B.len boot_len (qb (jv 0) qf)) (JX (v:=.int 14) (by rfl) hmp ⟨_,rfl⟩) (qz _)) ju qE)
     (qh (qW PassesOwn.never rfl (UA (by rfl) T.enu (qb (jv 0) qf)) (QJ rfl (qN (ql (i:=1) Vh.nd rfl (Or.inl rfl)) (qN (ql (i:=2) Vh.nd rfl (Or.inl rfl)) j2)))
       (qh (q5 (JD (Qb (qY hR GR hr (by rfl) (qb (jv 2) qf)))) ju qE))))),?_⟩
   have lp:(ps.map V.ref).length=rs.length:=by rw[List.length_map,g.rows.1]
   refine⟨_,rfl,_,_,_,_,rfl,rfl,.lst g.at_,T.kll,_,rfl,jx ⟨_,rfl,l,_,rfl,.inl (.of g.at_),rfl,_,rfl,?_⟩⟩
   have e0:decide (V.int (((ps.map V.ref).length:Nat):Int)=V.int 0)=false:=decide_eq_false (by
     intro z
     have:=V.int.inj z
     have:=g.pos
     omega)
   rw[e0]
   refine jx ⟨_,rfl,l,_,rfl,.inl (.of g.at_),_,_,rfl,rfl,_,rfl,?_⟩
   have e1:decide ((14:Int) < (((ps.map V.ref).length:Nat):Int))=false:=decide_eq_false (by
     have:=g.le
     omega)
   refine vG (λz=>absurd z (by rw[e1];decide)) (λ_=>?_)
   refine⟨_,rfl,l,rfl,⟨_,.of g.at_⟩,?_⟩
   refine WT (K:=K) (a:=l) (xs:=ps.map V.ref) (λi σ' H'=>∃v1 v2,σ'=[some (.ref l),v1,v2]/\qo H H') ⟨none,none,rfl,qo.refl H⟩ (λi σ' H' _ ⟨_,_,_,s⟩=>.of (s _ _ g.at_)) ?_ ?_
   . rintro i x σ' H' p hx hp ⟨v1,v2,rfl,s1⟩
     have g1:=g.mono (s1.trans (qg (o:=.tup [.int (i:Nat),x]) hp))
     obtain⟨p',q',r,rfl,_,hr',a,b⟩:=g1.rows.item hx
     refine⟨p,_,rfl,.of qd,rfl,_,_,rfl,_,_,rfl,rfl,_,rfl,p',q',r,rfl,a,b,g.good.nm r hr',g.good.names r hr',Nat.le_trans (g.good.len r hr') (by decide),λH2 s2=>⟨_,rfl,jx ⟨_,_,rfl,?_⟩⟩⟩
     exact(s1.trans (qg hp)).trans s2
   . rintro σ' H' ⟨v1,v2,rfl,s1⟩
     exact q H' s1
abbrev NQ:List Str:=["order","ahead","name"]
theorem kJ:qu NQ ["order"] (qm x9):=⟨rfl,rfl,rfl,by decide+kernel,rfl,by decide+kernel,by decide+kernel⟩
theorem jM {zs:List Str} (hn:zs.Nodup) {i:Nat} {z:Str} (e:zs[i]?=some z):¬(Sum.inr z:qA)∈(zs.take i).map Sum.inr:=λh=>by
 obtain⟨y,hy,ey⟩:=List.mem_map.mp h
 have ey':y=z:=Sum.inr.inj ey
 subst ey'
 obtain⟨j,hj⟩:=List.getElem?_of_mem hy
 have hj1:=(List.getElem?_eq_some_iff.mp hj).1
 rw[List.length_take]at hj1
 have hji:j < i:=by omega
 rw[List.getElem?_take_of_lt hji]at hj
 have h1:=(List.getElem?_eq_some_iff.mp hj)
 have h2:=(List.getElem?_eq_some_iff.mp e)
 exact absurd (h1.2.trans h2.2.symm) (List.pairwise_iff_getElem.mp hn j i h1.1 h2.1 hji)
theorem XG {kvs:List (qA×V)} {k:qA} (v:V) (h:qM kvs k=none):(jp kvs k v).map (·.1)=kvs.map (·.1)++[k]:=by
 rw[jW v h,List.map_append]
 rfl
theorem Ky {f:Addr} {fd:FuncData} (F:j7 K "need_own_names" "need_own_names" x9 f fd):qv P w K mg base qV 1 f fd ["order"] uQ:=by
 refine F.okJ kJ (λvs H Q E h=>?_) (λcdv A outer s H vs Q E hr h=>?_)
 . obtain⟨l,zs,rfl,_⟩:=h
   rfl
 . obtain⟨l,zs,rfl,hl,hn,hz,q⟩:=h
   have hu:=jJ hr
   refine⟨_,qe (qx (i:=1) kJ.nd rfl (Or.inl rfl) jw)
     (qh (qW PassesOwn.never rfl (qL (jv 0)) (ql (i:=2) kJ.nd rfl (Or.inl rfl))
       (qe (q5 (j1 (JF hu (jv 2) (jv 1))) ju qE) (qh (qS hu (jv 1) (jv 2) j3 rfl))))),?_⟩
   intro D hD
   refine⟨_,rfl,l,rfl,⟨_,.of (qp hl hD)⟩,?_⟩
   refine jo (K:=K) (a:=l) (xs:=zs.map V.str) (λi σ' H'=>∃v kvs,σ'=[some (.ref l),some (.ref D),v]/\qo H H'/\H' D=some (.dK kvs)/\kvs.map (·.1)=(zs.take i).map Sum.inr) ⟨none,[],rfl,qg hD,qd,rfl⟩ (λi σ' H' _ ⟨_,_,_,s,_⟩=>.of (s _ _ hl)) ?_ ?_
   . rintro i x σ' H' hx ⟨v,kvs,rfl,s1,hD1,ek⟩
     rw[List.getElem?_map]at hx
     cases e:zs[i]? with
     | none=>rw[e]at hx;cases hx
     | some z=>
       rw[e]at hx
       obtain rfl:=(Option.some.inj hx).symm
       have hi:=(List.getElem?_eq_some_iff.mp e).1
       have ez:qM kvs (Sum.inr z:qA)=none:=Qj (by rw[ek];exact jM hn e)
       have gz:jm H' D (.str z) none:=by
         have:=jm.k (k:=(Sum.inr z:qA)) hD1
         rw[ez]at this
         exact this
       have lk:kvs.length < sizeLine:=by
         have:=congrArg List.length ek
         rw[List.length_map,List.length_map,List.length_take]at this
         exact qk (by omega)
       refine⟨_,rfl,_,rfl,D,none,rfl,gz,_,rfl,jx ?_⟩
       refine⟨_,rfl,_,rfl,D,_,rfl,Qf.k (k:=(Sum.inr z:qA)) hD1 lk,_,_,rfl,qo.upd s1 hD,qd,?_⟩
       rw[XG _ ez,ek,List.take_add_one,e,List.map_append]
       rfl
   . rintro σ' H' ⟨v,kvs,rfl,s1,_⟩
     exact q H' s1
abbrev RH:List Str:=["ends","order","ahead","name"]
theorem Vi:qu RH ["ends","order"] (qm Uj):=⟨rfl,rfl,rfl,by decide+kernel,rfl,by decide+kernel,by decide+kernel⟩
theorem wH {f:Addr} {fd:FuncData} (F:j7 K "need_ends" "need_ends" Uj f fd):qv P w K mg base qV 1 f fd ["ends","order"] kE:=by
 refine F.okJ Vi (λvs H Q E h=>?_) (λcdv A outer s H vs Q E hr h=>?_)
 . obtain⟨x,l,es,zs,rfl,_⟩:=h
   rfl
 . obtain⟨x,l,es,zs,rfl,hx,hl,hn,hin,hz,q⟩:=h
   have hu:=jJ hr
   refine⟨_,qe (qx (i:=2) Vi.nd rfl (Or.inl rfl) jw)
     (qh (qW PassesOwn.never rfl (ZQ (jv 0)) (ql (i:=3) Vi.nd rfl (Or.inl rfl))
       (qe (q5 (qr QZ (jv 3) (jv 1) (by with_unfolding_all rfl)) ju qE)
       (qe (q5 (j1 (JF hu (jv 3) (jv 2))) ju qE) (qh (qS hu (jv 2) (jv 3) j3 rfl)))))),?_⟩
   intro D hD
   refine⟨_,rfl,x,rfl,⟨_,.of (qp hx hD)⟩,?_⟩
   refine UH (K:=K) (a:=x) (xs:=es.map V.str) (λi σ' H'=>∃v kvs,σ'=[some (.ref x),some (.ref l),some (.ref D),v]/\qo H H'/\H' D=some (.dK kvs)/\kvs.map (·.1)=(es.take i).map Sum.inr) ⟨none,[],rfl,qg hD,qd,rfl⟩ (λi σ' H' _ ⟨_,_,_,s,_⟩=>.of (s _ _ hx)) ?_ ?_
   . rintro i y σ' H' hy ⟨v,kvs,rfl,s1,hD1,ek⟩
     rw[List.getElem?_map]at hy
     cases e:es[i]? with
     | none=>rw[e]at hy;cases hy
     | some z=>
       rw[e]at hy
       obtain rfl:=(Option.some.inj hy).symm
       have hi:=(List.getElem?_eq_some_iff.mp e).1
       have ez:qM kvs (Sum.inr z:qA)=none:=Qj (by rw[ek];exact jM hn e)
       have gz:jm H' D (.str z) none:=by
         have:=jm.k (k:=(Sum.inr z:qA)) hD1
         rw[ez]at this
         exact this
       have lk:kvs.length < sizeLine:=by
         have:=congrArg List.length ek
         rw[List.length_map,List.length_map,List.length_take]at this
         exact qk (by omega)
       refine⟨_,rfl,_,rfl,l,_,rfl,.inl (.of (s1 _ _ hl)),rfl,Y7 zs,_,rfl,?_⟩
       rw[UB (hin z (List.mem_of_getElem? e))]
       refine jx ⟨_,rfl,_,rfl,D,none,rfl,gz,_,rfl,jx ?_⟩
       refine⟨_,rfl,_,rfl,D,_,rfl,Qf.k (k:=(Sum.inr z:qA)) hD1 lk,_,_,rfl,qo.upd s1 hD,qd,?_⟩
       rw[XG _ ez,ek,List.take_add_one,e,List.map_append]
       rfl
   . rintro σ' H' ⟨v,kvs,rfl,s1,_⟩
     exact q H' s1
abbrev NX:List Str:=["rows","many"]
theorem uU:qu NX ["rows"] (qm wg):=⟨rfl,rfl,rfl,by decide+kernel,rfl,by decide+kernel,by decide+kernel⟩
theorem KD {f:Addr} {fd:FuncData} (F:j7 K "need_few_roads" "need_few_roads" wg f fd) (B:Jr mg) (T:Jh K mg):qv P w K mg base qV 1 f fd ["rows"] ZJ:=by
 obtain⟨tm,hmr⟩:=T.mr
 refine F.okJ uU (λvs H Q E h=>?_) (λcdv A outer s H vs Q E hr h=>?_)
 . obtain⟨l,ps,rs,rfl,_⟩:=h
   rfl
 . obtain⟨l,ps,rs,rfl,g,q⟩:=h
   refine⟨_,qe (qx (i:=1) uU.nd rfl (Or.inl rfl) (qC (Xa rfl) (by rfl) T.sum boot_sum (qb (jP (N':=["row"]) (ix:=[none]) (te:=Nf (λxs H Q=>∃p ys,xs=[.ref p]/\(SqL K H p ys\/zE K H p ys)/\Q (.int ys.length) H) (jr (YA (Wx K) (qJ 0) (tC (.int 1))) QX)) rfl ⟨rfl,rfl,rfl,rfl,rfl⟩ (qL (jv 0)) (λC s2 H2 fp pins=>
       ⟨ql (i:=0) (RB _) rfl (Or.inl rfl),js,qC jf (by rfl) B.len boot_len (qb (jA jD (jv 0) qj (λ_ _=>rfl)) qf)⟩)) qf)))
     (qh (q5 (qr YW (jv 1) (JX (v:=.int 40) (by rfl) hmr ⟨_,rfl⟩) (qz _)) ju qE)),?_⟩
   refine⟨_,rfl,l,rfl,⟨_,.of g.at_⟩,λD hD=>?_⟩
   refine jS (K:=K) (a:=l) (xs:=ps.map V.ref) (λi σ' H'=>∃v,σ'=[v]/\H'=upd H D (.lst (((rs.take i).map λr=>r.2.length).map λn=>V.int ((n:Nat):Int)))) ⟨none,rfl,rfl⟩ (λi σ' H' _ ⟨_,_,e⟩=>e▸.of (qp g.at_ hD)) ?_ ?_
   . rintro i x σ' H' hx ⟨v,rfl,rfl⟩
     obtain⟨p',q',r,rfl,er,hr',a,b⟩:=g.rows.item hx
     have hi:=(List.getElem?_eq_some_iff.mp er).1
     refine⟨_,rfl,p',_,1,_,rfl,rfl,.of (qp a hD),rfl,q',_,rfl,.inr (.of (qp b hD)),_,qd,?_,_,rfl,?_⟩
     . rw[List.length_map,List.length_map,List.length_take]
       have:=g.le
       exact qk (by omega)
     . rw[jE,List.take_add_one,er,List.map_append,List.map_append,List.length_map]
       rfl
   . rintro σ' H' ⟨v,rfl,rfl⟩
     have e:rs.take (ps.map V.ref).length=rs:=List.take_of_length_le (by rw[List.length_map,g.rows.1];exact Nat.le_refl _)
     rw[e]
     refine⟨D,_,rfl,.of qd,Nat.lt_of_le_of_lt g.good.few (by decide),?_⟩
     refine⟨_,rfl,_,_,rfl,rfl,_,rfl,?_⟩
     have:=g.good.few
     refine vG (λz=>absurd (of_decide_eq_true z) ?_) (λ_=>q _ (qg hD))
     show ¬(40:Int) < _
     omega
abbrev RD:List Str:=["rows","order","row"]
theorem Vg:qu RD ["rows"] (qm Wu):=⟨rfl,rfl,rfl,by decide+kernel,rfl,by decide+kernel,by decide+kernel⟩
structure xw (K:PySem.W.Frag) (mg:Str->Option Value):Prop where
 nm:∃f fd,jG K mg "is_name" Zn ["thing"] f fd
 tn:∃f fd,jG K mg "is_tuple_of_names" YT ["thing"] f fd
 rw:∃f fd,jG K mg "is_row" zU ["thing"] f fd
 fo:∃f fd,jG K mg "need_form" Ui ["rows"] f fd
 ow:∃f fd,jG K mg "need_own_names" x9 ["order"] f fd
 en:∃f fd,jG K mg "need_ends" Uj ["ends","order"] f fd
 fw:∃f fd,jG K mg "need_few_roads" wg ["rows"] f fd
theorem wB {f:Addr} {fd:FuncData} (F:j7 K "need_rows" "need_rows" Wu f fd) (B:Jr mg) (G:QK mg) (T:Jh K mg) (N:xw K mg):qv P w K mg base qV 5 f fd ["rows"] ZJ:=by
 obtain⟨fN,fdN,hN⟩:=N.nm
 obtain⟨fP,fdP,hP⟩:=N.tn
 obtain⟨fR,fdR,hR⟩:=N.rw
 obtain⟨fF,fdF,hF⟩:=N.fo
 obtain⟨fO,fdO,hO⟩:=N.ow
 obtain⟨fE,fdE,hE⟩:=N.en
 obtain⟨fW,fdW,hW⟩:=N.fw
 have GF:qv P w K mg base qV 4 fF fdF ["rows"] ZJ:=wG hF.fn B G T hN hP hR
 have GO:qv P w K mg base qV 1 fO fdO ["order"] uQ:=Ky hO.fn
 have GE:qv P w K mg base qV 1 fE fdE ["ends","order"] kE:=wH hE.fn
 have GW:qv P w K mg base qV 1 fW fdW ["rows"] ZJ:=KD hW.fn B T
 refine F.okJ Vg (λvs H Q E h=>?_) (λcdv A outer s H vs Q E hr h=>?_)
 . obtain⟨l,ps,rs,rfl,_⟩:=h
   rfl
 . obtain⟨l,ps,rs,rfl,g,q⟩:=h
   refine⟨_,qe (jT (qY hF GF hr (by rfl) (qb (jv 0) qf)))
     (qe (Qo (i:=1) (N':=["row"]) (ix:=[none]) (te:=YA (Wx K) (qJ 0) (tC (.int 0))) Vg.nd rfl (Or.inl rfl) rfl ⟨rfl,rfl,rfl,rfl,rfl⟩ (qL (jv 0)) (λC s2 H2 fp pins=>
       ⟨ql (i:=0) (RB _) rfl (Or.inl rfl),js,jA jD (jv 0) qj (λ_ _=>rfl)⟩))
     (qe (jT (qY hO GO (hr.mono (by decide)) (by rfl) (qb (jv 1) qf)))
     (qe (qW PassesOwn.never rfl (qL (jv 0)) (ql (i:=2) Vg.nd rfl (Or.inl rfl))
       (qh (jT (qY hE GE (hr.mono (by decide)) (by rfl) (qb (jA jD (jv 2) qj (λ_ _=>rfl)) (qb (jv 1) qf))))))
     (qh (jT (qY hW GW (hr.mono (by decide)) (by rfl) (qb (jv 0) qf))))))),?_⟩
   refine⟨_,rfl,l,ps,rs,rfl,g,λH1 s1=>?_⟩
   have g1:=g.mono s1
   refine⟨_,rfl,l,rfl,⟨_,.of g1.at_⟩,λD hD=>?_⟩
   refine jS (K:=K) (a:=l) (xs:=ps.map V.ref) (λi σ' H'=>∃v,σ'=[v]/\H'=upd H1 D (.lst (((rs.take i).map (·.1)).map V.str))) ⟨none,rfl,rfl⟩ (λi σ' H' _ ⟨_,_,e⟩=>e▸.of (qp g1.at_ hD)) ?_ ?_
   . rintro i x σ' H' hx ⟨v,rfl,rfl⟩
     obtain⟨p',q',r,rfl,er,hr',a,b⟩:=g1.rows.item hx
     have hi:=(List.getElem?_eq_some_iff.mp er).1
     refine⟨_,rfl,p',_,0,_,rfl,rfl,.of (qp a hD),rfl,_,qd,?_,_,rfl,?_⟩
     . rw[List.length_map,List.length_map,List.length_take]
       have:=g.le
       exact qk (by omega)
     . rw[jE,List.take_add_one,er,List.map_append,List.map_append]
       rfl
   . rintro σ' H' ⟨v,rfl,rfl⟩
     have e:rs.take (ps.map V.ref).length=rs:=List.take_of_length_le (by rw[List.length_map,g.rows.1];exact Nat.le_refl _)
     rw[e]
     refine⟨_,rfl,D,rs.map (·.1),rfl,qd,g.good.nd,by rw[List.length_map];have:=g.le;omega,λH2 s2=>?_⟩
     have sD:qo H1 H2:=(qg hD).trans s2
     have hD2:H2 D=some (.lst ((rs.map (·.1)).map V.str)):=s2 _ _ qd
     have g2:=g1.mono sD
     refine⟨_,rfl,l,rfl,⟨_,.of g2.at_⟩,?_⟩
     refine jo (K:=K) (a:=l) (xs:=ps.map V.ref) (λi σ' H'=>∃v,σ'=[some (.ref l),some (.ref D),v]/\qo H2 H') ⟨none,rfl,qo.refl H2⟩ (λi σ' H' _ ⟨_,_,s⟩=>.of (s _ _ g2.at_)) ?_ ?_
     . rintro i x σ' H' hx ⟨v,rfl,s3⟩
       obtain⟨p',q',r,rfl,er,hr',a,b⟩:=(g2.mono s3).rows.item hx
       refine⟨_,rfl,p',_,1,_,rfl,rfl,.of a,rfl,_,rfl,q',D,r.2,rs.map (·.1),rfl,b,s3 _ _ hD2,g.good.rd r hr',g.good.to r hr',Nat.le_trans (g.good.len r hr') (by decide),λH4 s4=>⟨_,rfl,s3.trans s4⟩⟩
     . rintro σ' H' ⟨v,rfl,s3⟩
       exact⟨_,rfl,l,ps,rs,rfl,g2.mono s3,λH4 s4=>q H4 (((s1.trans sD).trans s3).trans s4)⟩
end
end Rh
set_option Elab.async false
set_option linter.all false
set_option maxRecDepth 100000
set_option maxHeartbeats 4000000
namespace Rh
open PySem L2 PyProof.Rows
abbrev Vk:Stmt:=QM (top 27) 0
abbrev Zp:Stmt:=QM (top 27) 1
abbrev zW:Stmt:=QM (top 27) 2
def j6 (rs:List (Str×List Str)) (r:Str×List Str):List Str:=(rs.map (·.1)).filter λz=>zc (.str z) (r.2.map V.str)
def Qq (CG:Addr) (H:Hp) (a:Addr) (rs:List (Str×List Str)):Prop:=∃(dx lo rd:Addr) (kvs:List (qA×V)),H a=some (.ins CG dx [("order",.ref lo),("roads",.ref rd)])/\H lo=some (.lst ((rs.map (·.1)).map V.str))/\H rd=some (.dK kvs)/\
 ∀r∈rs,∃q,qM kvs (Sum.inr r.1)=some (.ref q)/\H q=some (.lst ((j6 rs r).map V.str))
theorem Qq.mono {CG:Addr} {H H':Hp} {a:Addr} {rs:List (Str×List Str)} (h:Qq CG H a rs) (s:qo H H'):Qq CG H' a rs:=by
 obtain⟨dx,lo,rd,kvs,h1,h2,h3,h4⟩:=h
 exact⟨dx,lo,rd,kvs,s _ _ h1,s _ _ h2,s _ _ h3,λr hr=>let ⟨q,a,b⟩:=h4 r hr;⟨q,a,s _ _ b⟩⟩
theorem Qe.fr {H H':Hp} {l x C dx:Addr} {fs:List (Str×V)} {ps:List Addr} {rs:List (Str×List Str)} (h:Qe H l ps rs) (hx:H x=some (.ins C dx fs)) (s:Fr H x H'):Qe H' l ps rs:=by
 refine⟨s _ _ h.at_ (λe=>?_),⟨h.rows.1,λi p r e1 e2=>?_⟩,h.good,h.pos,h.le⟩
 . have:=h.at_
   rw[e,hx]at this
   cases this
 . obtain⟨q,a,b⟩:=h.rows.2 i p r e1 e2
   exact⟨q,s _ _ a (λe=>by rw[e,hx]at a;cases a),s _ _ b (λe=>by rw[e,hx]at b;cases b)⟩
structure GD (K:PySem.W.Frag) (mg:Str->Option Value) (CG f:Addr) (fd:FuncData):Prop where
 cl:YB K CG
 mkr:Mk K CG f
 ns:mg "Ground"=some (.ref CG)
 no:Qd K CG "order"
 nr:Qd K CG "roads"
 fn:j7 K "__init__" "Ground.__init__" Vk f fd
 bi:j8 K fd ["self","rows"] []
theorem nor:¬(Str.ofString "order")=Str.ofString "roads":=by decide+kernel
theorem NL (v:V):QY (Str.ofString "order") v []=[(Str.ofString "order",v)]:=rfl
theorem NK (v u:V):QY (Str.ofString "roads") u [(Str.ofString "order",v)]=[(Str.ofString "order",v),(Str.ofString "roads",u)]:=by
 unfold QY
 rw[if_neg nor]
 rfl
theorem NZ (v u:V):([(Str.ofString "order",v),(Str.ofString "roads",u)]:List (Str×V)).lookup (Str.ofString "order")=some v:=by simp [List.lookup]
theorem Nj (v u:V):([(Str.ofString "order",v),(Str.ofString "roads",u)]:List (Str×V)).lookup (Str.ofString "roads")=some u:=by
 have e:((Str.ofString "roads")==(Str.ofString "order"))=false:=by decide+kernel
 simp [List.lookup,e]
def zo (CG:Addr):Sp:=λvs H Q _=>∃(x dx l:Addr) (ps:List Addr) (rs:List (Str×List Str)),vs=[.ref x,.ref l]/\Qe H l ps rs/\H x=some (.ins CG dx [])/\∀H',Qq CG H' x rs->Fr H x H'->Q .non H'
def Ju (CG:Addr):Sp:=λvs H Q _=>∃(a:Addr) (rs:List (Str×List Str)),vs=[.ref a]/\Qq CG H a rs/\∀l,H l=none->Q (.ref l) (upd H l (.lst ((rs.map (·.1)).map V.str)))
def Xv (CG:Addr):Sp:=λvs H Q _=>∃(a:Addr) (rs:List (Str×List Str)) (r:Str×List Str),vs=[.ref a,.str r.1]/\Qq CG H a rs/\r∈rs/\jc r.1=true/\∀H1 l,qo H H1->H1 l=none->Q (.ref l) (upd H1 l (.lst ((j6 rs r).map V.str)))
section
variable {P:Program} {w:World} {K:PySem.W.Frag} {mg:Str->Option Value} {base:Heap}
abbrev nGI:List Str:=["self","rows","row"]
theorem Ri:qu nGI ["self","rows"] (qm Vk):=⟨rfl,rfl,rfl,by decide+kernel,rfl,by decide+kernel,by decide+kernel⟩
theorem WC {f fW CG:Addr} {fd fdW:FuncData} (C:GD K mg CG f fd) (B:Jr mg) (G:QK mg) (T:Jh K mg) (N:xw K mg) (hW:jG K mg "need_rows" Wu ["rows"] fW fdW):qv P w K mg base qV 6 f fd ["self","rows"] (zo CG):=by
 have GW:qv P w K mg base qV 5 fW fdW ["rows"] ZJ:=wB hW.fn B G T N
 refine C.fn.okJ Ri (λvs H Q E h=>?_) (λcdv A outer s H vs Q E hr h=>?_)
 . obtain⟨x,dx,l,ps,rs,rfl,_⟩:=h
   rfl
 . obtain⟨x,dx,l,ps,rs,rfl,g,hx,q⟩:=h
   have hu:=jJ hr
   refine⟨_,qe (jT (qY hW GW hr (by rfl) (qb (jv 1) qf)))
     (qe (XQ (jv 0) (jP (N':=["row"]) (ix:=[none]) (te:=YA (Wx K) (qJ 0) (tC (.int 0))) rfl ⟨rfl,rfl,rfl,rfl,rfl⟩ (qL (jv 1)) (λC s2 H2 fp pins=>
       ⟨ql (i:=0) (RB _) rfl (Or.inl rfl),js,jA jD (jv 0) qj (λ_ _=>rfl)⟩)) rfl)
     (qe (XQ (jv 0) jw rfl)
     (qh (qW PassesOwn.never rfl (qL (jv 1)) (ql (i:=2) Ri.nd rfl (Or.inr rfl))
       (qh (qS hu (Q7 (jv 0) rfl) (jA jD (jv 2) qj (λ_ _=>rfl))
         (jP (N':=["name","row"]) (ix:=[none,some 2]) (tt:=zF (YA (Gv K false) (qJ 0) (YA (Wx K) (qJ 1) (tC (.int 1))))) rfl ⟨rfl,rfl,rfl,rfl,rfl⟩ (qL (Q7 (jv 0) rfl)) (λC s2 H2 fp pins=>
           ⟨ql (i:=0) (show (["name","row"]:List Str).Nodup by decide+kernel) rfl (Or.inl rfl),jF (qr JP (jv 0) (jA jD (jv 1) qj (λ_ _=>rfl)) (by with_unfolding_all rfl)),jv 0⟩)) rfl)))))),?_⟩
   refine⟨_,rfl,l,ps,rs,rfl,g,λH1 s1=>?_⟩
   have g1:=g.mono s1
   have fr1:Fr H x H1:=λb u h _=>s1 _ _ h
   have hx1:=s1 _ _ hx
   refine⟨_,rfl,l,rfl,⟨_,.of g1.at_⟩,λlo hlo=>?_⟩
   have nlx:lo≠x:=λe=>by rw[e,hx1]at hlo;cases hlo
   refine jS (K:=K) (a:=l) (xs:=ps.map V.ref) (λi σ' H'=>∃v,σ'=[v]/\H'=upd H1 lo (.lst (((rs.take i).map (·.1)).map V.str))) ⟨none,rfl,rfl⟩ (λi σ' H' _ ⟨_,_,e⟩=>e▸.of (qp g1.at_ hlo)) ?_ ?_
   . rintro i y σ' H' hy ⟨v,rfl,rfl⟩
     obtain⟨p',q',r,rfl,er,hr',a,b⟩:=g1.rows.item hy
     have hi:=(List.getElem?_eq_some_iff.mp er).1
     refine⟨_,rfl,p',_,0,_,rfl,rfl,.of (qp a hlo),rfl,_,qd,?_,_,rfl,?_⟩
     . rw[List.length_map,List.length_map,List.length_take]
       have:=g.le
       exact qk (by omega)
     . rw[jE,List.take_add_one,er,List.map_append,List.map_append]
       rfl
   rintro σ' H' ⟨v,rfl,rfl⟩
   have e:rs.take (ps.map V.ref).length=rs:=List.take_of_length_le (by rw[List.length_map,g.rows.1];exact Nat.le_refl _)
   rw[e]
   have fr2:Fr H x (upd H1 lo (.lst ((rs.map (·.1)).map V.str))):=fr1.new hlo
   have hlo2:upd H1 lo (.lst ((rs.map (·.1)).map V.str)) lo=some (.lst ((rs.map (·.1)).map V.str)):=qd
   have hx2:upd H1 lo (.lst ((rs.map (·.1)).map V.str)) x=some (.ins CG dx []):=qp hx1 hlo
   generalize upd H1 lo (.lst ((rs.map (·.1)).map V.str))=H2 at fr2 hlo2 hx2
   refine⟨_,rfl,x,CG,dx,[],rfl,hx2,C.cl,C.no,by decide,?_⟩
   rw[NL]
   intro rd hrd
   have nrx:rd≠x:=λe=>by rw[e,qd]at hrd;cases hrd
   have hrd2:H2 rd=none:=by rw[qi nrx]at hrd;exact hrd
   have nrl:rd≠lo:=λe=>by rw[e,hlo2]at hrd2;cases hrd2
   have hHr:H rd=none:=fr2.fresh hx2 hrd2
   refine⟨_,rfl,x,CG,dx,_,rfl,qp qd hrd,C.cl,C.nr,by show 1 < 1000;decide,?_⟩
   rw[NK]
   have fr5:Fr H x (upd (upd (upd H2 x (.ins CG dx [("order",.ref lo)])) rd (.dK [])) x (.ins CG dx [("order",.ref lo),("roads",.ref rd)])):=((fr2.at_d).own hHr).at_d
   have g5:=g.fr hx fr5
   refine⟨_,rfl,l,rfl,⟨_,.of g5.at_⟩,?_⟩
   refine jo (K:=K) (a:=l) (xs:=ps.map V.ref) (λi σ' H'=>∃v kvs,σ'=[some (.ref x),some (.ref l),v]/\H' x=some (.ins CG dx [("order",.ref lo),("roads",.ref rd)])/\H' lo=some (.lst ((rs.map (·.1)).map V.str))/\H' rd=some (.dK kvs)/\
     kvs.map (·.1)=((rs.map (·.1)).take i).map Sum.inr/\(∀r∈rs.take i,∃q,qM kvs (Sum.inr r.1)=some (.ref q)/\H' q=some (.lst ((j6 rs r).map V.str)))/\Fr H x H')
     ⟨none,[],rfl,qd,?_,?_,rfl,λr h=>(nomatch h),fr5⟩ (λi σ' H' _ ⟨_,_,_,_,_,_,_,_,fr⟩=>.of (g.fr hx fr).at_) ?_ ?_
   . rw[qi nlx,qi (Ne.symm nrl),qi nlx]
     exact hlo2
   . rw[qi nrx]
     exact qd
   . rintro i y σ' H' hy ⟨v,kvs,rfl,hx',hlo',hrd',ek,hv,fr⟩
     have g':=g.fr hx fr
     obtain⟨p,qq,r,rfl,er,hr',a,b⟩:=g'.rows.item hy
     have hi:=(List.getElem?_eq_some_iff.mp er).1
     have hle:=g.le
     refine⟨_,rfl,x,CG,dx,_,_,rfl,hx',C.cl,C.no,NZ _ _,lo,rfl,⟨_,.of hlo'⟩,λD hD=>?_⟩
     refine jS (K:=K) (a:=lo) (xs:=(rs.map (·.1)).map V.str) (λj σ'' H''=>∃v0,σ''=[v0,some (.ref p)]/\H''=upd H' D (.lst ((((rs.map (·.1)).take j).filter λz=>zc (.str z) (r.2.map V.str)).map V.str))) ⟨none,rfl,rfl⟩
       (λj σ'' H'' _ ⟨_,_,e⟩=>e▸.of (qp hlo' hD)) ?_ ?_
     . rintro j y σ'' H'' hy ⟨v0,rfl,rfl⟩
       rw[List.getElem?_map]at hy
       cases e:(rs.map (·.1))[j]? with
       | none=>rw[e]at hy;cases hy
       | some z=>
         rw[e]at hy
         obtain rfl:=(Option.some.inj hy).symm
         refine⟨_,rfl,_,rfl,p,_,1,_,rfl,rfl,.of (qp a hD),rfl,qq,_,rfl,.inr (.of (qp b hD)),rfl,Y7 _,_,rfl,?_⟩
         have et:((rs.map (·.1)).take (j+1)).filter (λz=>zc (.str z) (r.2.map V.str))=((rs.map (·.1)).take j).filter (λz=>zc (.str z) (r.2.map V.str))++if zc (.str z) (r.2.map V.str)=true then [z] else []:=by
           rw[List.take_add_one,e,List.filter_append]
           congr 1
           cases ei:zc (.str z) (r.2.map V.str)
           . simp [ei]
           . simp [ei]
         rw[et]
         show if zc (.str z) (r.2.map V.str)=true then _ else _
         cases ei:zc (.str z) (r.2.map V.str) with
         | true=>
           refine Qc ⟨_,rfl,_,qd,?_,_,rfl,?_⟩
           . rw[List.length_map]
             refine qk (Nat.le_trans (List.length_filter_le _ _) ?_)
             rw[List.length_take,List.length_map]
             omega
           . rw[jE,if_pos rfl,List.map_append]
             rfl
         | false=>
           refine jx ⟨_,rfl,?_⟩
           rw[if_neg Bool.false_ne_true,List.append_nil]
     . rintro σ'' H'' ⟨v0,rfl,rfl⟩
       have ed:((rs.map (·.1)).take ((rs.map (·.1)).map V.str).length).filter (λz=>zc (.str z) (r.2.map V.str))=j6 rs r:=by
         rw[List.length_map,List.take_of_length_le (Nat.le_refl _)]
         rfl
       rw[ed]
       have nD:∀{c:Addr} {o:HO},H' c=some o->c≠D:=λh e=>by rw[e,hD]at h;cases h
       have en:(rs.map (·.1))[i]?=some r.1:=by rw[List.getElem?_map,er];rfl
       have ez:qM kvs (Sum.inr r.1:qA)=none:=Qj (by rw[ek];exact jM g.good.nd en)
       have lk:kvs.length < sizeLine:=by
         have:=congrArg List.length ek
         rw[List.length_map,List.length_map,List.length_take,List.length_map]at this
         exact qk (by omega)
       refine⟨_,rfl,x,CG,dx,_,_,rfl,qp hx' hD,C.cl,C.nr,Nj _ _,_,rfl,p,_,0,_,rfl,rfl,.of (qp a hD),rfl,rd,_,rfl,Qf.k (k:=(Sum.inr r.1:qA)) (qp hrd' hD) lk,?_⟩
       refine⟨_,jp kvs (Sum.inr r.1) (.ref D),rfl,?_,?_,qd,?_,λr' hr2=>?_,?_⟩
       . rw[qi (Ne.symm nrx)];exact qp hx' hD
       . rw[qi (Ne.symm nrl)];exact qp hlo' hD
       . rw[XG _ ez,ek,List.take_add_one,en,List.map_append]
         rfl
       . rw[List.take_add_one,er]at hr2
         rcases List.mem_append.mp hr2 with h | h
         . obtain⟨q1,a1,b1⟩:=hv r' h
           refine⟨q1,?_,?_⟩
           . rw[jz,if_neg]
             . exact a1
             . intro z
               rw[z,ez]at a1
               cases a1
           . have n1:q1≠rd:=λe=>by rw[e,hrd']at b1;cases b1
             rw[qi n1]
             exact qp b1 hD
         . have er':r'=r:=by simpa using h
           subst er'
           refine⟨D,?_,?_⟩
           . rw[jz,if_pos rfl]
           . rw[qi (Ne.symm (nD hrd'))]
             exact qd
       . exact(fr.new hD).own hHr
   . rintro σ' H' ⟨v,kvs,rfl,hx',hlo',hrd',ek,hv,fr⟩
     have e:rs.take (ps.map V.ref).length=rs:=List.take_of_length_le (by rw[List.length_map,g.rows.1];exact Nat.le_refl _)
     rw[e]at hv
     exact q H' ⟨dx,lo,rd,kvs,hx',hlo',hrd',hv⟩ fr
theorem NC:qu ["self"] ["self"] (qm Zp):=⟨rfl,rfl,rfl,by decide+kernel,rfl,by decide+kernel,by decide+kernel⟩
theorem JQ {f fI CG:Addr} {fd fdI:FuncData} (F:j7 K "names" "Ground.names" Zp f fd) (C:GD K mg CG fI fdI) (G:QK mg):qv P w K mg base qV 1 f fd ["self"] (Ju CG):=by
 refine F.okJ NC (λvs H Q E h=>?_) (λcdv A outer s H vs Q E hr h=>?_)
 . obtain⟨a,rs,rfl,_⟩:=h
   rfl
 . obtain⟨a,rs,rfl,⟨dx,lo,rd,kvs,h1,h2,h3,h4⟩,q⟩:=h
   refine⟨_,qh (qB (ji Jd (by rfl) G.lst boot_list (qb (Q7 (jv 0) rfl) qf))),?_⟩
   exact⟨_,rfl,a,CG,dx,_,_,rfl,h1,C.cl,C.no,NZ _ _,lo,_,rfl,.inl (.of h2),q⟩
abbrev NW:List Str:=["self","name"]
theorem ND:qu NW NW (qm zW):=⟨rfl,rfl,rfl,by decide+kernel,rfl,by decide+kernel,by decide+kernel⟩
theorem WD {f fI fN CG:Addr} {fd fdI fdN:FuncData} (F:j7 K "roads_from" "Ground.roads_from" zW f fd) (C:GD K mg CG fI fdI) (B:Jr mg) (G:QK mg) (T:Jh K mg) (hN:jG K mg "is_name" Zn ["thing"] fN fdN):qv P w K mg base qV 2 f fd NW (Xv CG):=by
 have GN:qv P w K mg base qV 1 fN fdN ["thing"] xP:=XJ hN.fn B T
 refine F.okJ ND (λvs H Q E h=>?_) (λcdv A outer s H vs Q E hr h=>?_)
 . obtain⟨a,rs,r,rfl,_⟩:=h
   rfl
 . obtain⟨a,rs,r,rfl,gr,hr',hn,q⟩:=h
   have hu:=jJ hr
   refine⟨_,qe (q5 (Jm (JD (Qb (qY hN GN hr (by rfl) (qb (jv 1) qf)))) (Qu (j1 (QD hu (jv 1) (Q7 (jv 0) rfl))))).pt ju qE)
     (qh (qB (ji Jd (by rfl) G.lst boot_list (qb (qG hu (Q7 (jv 0) rfl) (jv 1) (λ_ _=>rfl)) qf)))),?_⟩
   refine⟨_,rfl,r.1,rfl,hn,λH1 s1=>⟨_,rfl,jx ?_⟩⟩
   obtain⟨dx,lo,rd,kvs,h1,h2,h3,h4⟩:=gr.mono s1
   obtain⟨qq,hv,hq⟩:=h4 r hr'
   have gz:jm H1 rd (.str r.1) (some (.ref qq)):=by
     have:=jm.k (k:=(Sum.inr r.1:qA)) h3
     rw[hv]at this
     exact this
   refine⟨_,rfl,_,rfl,a,CG,dx,_,_,rfl,h1,C.cl,C.nr,Nj _ _,rd,_,rfl,gz,_,rfl,jx ?_⟩
   exact⟨_,rfl,a,CG,dx,_,_,rfl,h1,C.cl,C.nr,Nj _ _,_,rfl,rd,_,rfl,gz,qq,_,rfl,.inl (.of hq),λl hl=>q H1 l s1 hl⟩
end
end Rh
set_option Elab.async false
set_option linter.all false
set_option maxRecDepth 100000
set_option maxHeartbeats 4000000
namespace Rh
open PySem L2 PyProof.Rows
abbrev Ql:Stmt:=top 2
abbrev XA:Stmt:=top 3
abbrev jk:=List (Str×List Str)
def QW (rs:jk) (z:Str):List Str:=match rs.find? (λr=>decide (r.1=z)) with
 | some r=>j6 rs r
 | none=>[]
theorem Yq:∀{rs:jk} {r:Str×List Str},(rs.map (·.1)).Nodup->r∈rs->rs.find? (λq=>decide (q.1=r.1))=some r
 | a::rs,r,hn,h=>by
   rw[List.map_cons,List.nodup_cons]at hn
   rcases List.mem_cons.mp h with rfl | h
   . simp [List.find?_cons]
   . have:¬a.1=r.1:=λe=>hn.1 (e▸List.mem_map.mpr ⟨r,h,rfl⟩)
     simp only[List.find?_cons,decide_eq_false this]
     exact Yq hn.2 h
theorem zB {rs:jk} {r:Str×List Str} (hn:(rs.map (·.1)).Nodup) (h:r∈rs):QW rs r.1=j6 rs r:=by
 unfold QW
 rw[Yq hn h]
theorem kO {rs:jk} {r:Str×List Str} {y:Str} (h:y∈j6 rs r):∃r'∈rs,r'.1=y:=by
 obtain⟨r',h1,h2⟩:=List.mem_map.mp (List.mem_filter.mp h).1
 exact⟨r',h1,h2⟩
theorem ug {z:Str} {zs:List Str}:zc (.str z) (zs.map V.str)=true↔z∈zs:=by
 refine⟨λh=>?_,UB⟩
 unfold zc at h
 obtain⟨y,hy,e⟩:=List.any_eq_true.mp h
 obtain⟨x,hx,rfl⟩:=List.mem_map.mp hy
 have e':(x==z)=true:=e
 rw[beq_iff_eq]at e'
 exact e'▸hx
theorem z6 {rs:jk} (g:qt rs) {r:Str×List Str} (h:r∈rs) {y:Str}:y∈j6 rs r↔y∈r.2:=by
 unfold j6
 rw[List.mem_filter,ug]
 exact⟨λz=>z.2,λz=>⟨g.to r h y z,z⟩⟩
theorem QT {rs:jk} (hn:(rs.map (·.1)).Nodup):∀z∈rs.map (·.1),∀y∈QW rs z,y∈rs.map (·.1):=λz hz y hy=>by
 obtain⟨r,hr,rfl⟩:=List.mem_map.mp hz
 rw[zB hn hr]at hy
 obtain⟨r',h1,rfl⟩:=kO hy
 exact List.mem_map.mpr ⟨r',h1,rfl⟩
theorem QB {α:Type}:∀{l m:List α},l.Nodup->(∀z∈l,z∈m)->l.length<=m.length
 | [],m,_,_=>Nat.zero_le _
 | a::l,m,hn,h=>by
   classical
   rw[List.nodup_cons]at hn
   have ha:=h a List.mem_cons_self
   have:=QB (m:=m.erase a) hn.2 λz hz=>(List.mem_erase_of_ne (λ(e:z=a)=>hn.1 (e▸hz))).mpr (h z (List.mem_cons_of_mem _ hz))
   rw[List.length_erase_of_mem ha]at this
   have:=List.length_pos_of_mem ha
   rw[List.length_cons]
   omega
theorem JU:∀{more kvs:List (qA×V)},(more.map (·.1)).Nodup->(∀k∈more.map (·.1),¬k∈kvs.map (·.1))->Qt kvs more=kvs++more
 | [],kvs,_,_=>(List.append_nil _).symm
 | p::more,kvs,hn,h=>by
   rw[List.map_cons,List.nodup_cons]at hn
   have e:qM kvs p.1=none:=Qj (h p.1 (by simp))
   show Qt (jp kvs p.1 p.2) more=_
   rw[jW p.2 e,JU hn.2]
   . rw[List.append_assoc]
     rfl
   . intro k hk m
     rw[List.map_append]at m
     rcases List.mem_append.mp m with m | m
     . exact h k (by rw[List.map_cons];exact List.mem_cons_of_mem _ hk) m
     . have:k=p.1:=by simpa using m
       subst this
       exact hn.1 hk
structure kc (K:PySem.W.Frag) (C:Addr) (m qual:Str) (st:Stmt) (ps:List Str) (f:Addr) (fd:FuncData):Prop where
 fn:j7 K m qual st f fd
 me:W5 K C m f
 bi:j8 K fd ps []
theorem Yk {X:Cx} {C f:Addr} {fd:FuncData} {m qual:Str} {st:Stmt} {ps:List Str} {k:Nat} {sp:Sp} {o:Expr} {ta:TE} {apos pos:Pos} {pl:Sem Bool} (h:kc X.K C m qual st ps f fd) (c:YB X.K C) (G:qv X.prog X.w X.K X.mg X.base qV k f fd ps sp) (hr:jg k X.A) (he:JE X o ta)
   (ht:eval (.Call (.Attribute o m apos) [] [] pos) X.env=(do
     let ov <-eval o X.env
     standAt apos.atName
     let (f,first) <-holding [ov] (getMethod ov m pl)
     callWith pos f first (backTo pos (starEach [] X.env)) (backToKw pos (keywordEach [] X.env))):=by rfl):
   JE X (.Call (.Attribute o m apos) [] [] pos) (YN C m sp [] E0 ta QX):=yO he c h.me G hr h.bi .nil Zs ht
theorem u7 {X:Cx} {C f:Addr} {fd:FuncData} {m qual:Str} {st:Stmt} {ps:List Str} {k:Nat} {sp:Sp} {o e:Expr} {es:List Expr} {ta:TE} {t:TA} {apos pos:Pos} {pl:Sem Bool} (h:kc X.K C m qual st ps f fd) (c:YB X.K C) (G:qv X.prog X.w X.K X.mg X.base qV k f fd ps sp) (hr:jg k X.A) (he:JE X o ta) (ha:JA X (e::es) t)
   (hst:starEach (e::es) X.env=(false,eval e X.env)::starEach es X.env:=by rfl) (hpl:(backTo pos (starEach es X.env)).any (·.1)=false:=by rfl)
   (ht:eval (.Call (.Attribute o m apos) (e::es) [] pos) X.env=(do
     let ov <-eval o X.env
     standAt apos.atName
     let (f,first) <-holding [ov] (getMethod ov m pl)
     callWith pos f first (backTo pos (starEach (e::es) X.env)) (backToKw pos (keywordEach [] X.env))):=by rfl):
   JE X (.Call (.Attribute o m apos) (e::es) [] pos) (YN C m sp [] E0 ta t):=ua he c h.me G hr h.bi .nil Zs ha hst hpl ht
structure GM (K:PySem.W.Frag) (mg:Str->Option Value) (CG:Addr):Prop where
 cls:∃f fd,GD K mg CG f fd
 nm:∃f fd,kc K CG "names" "Ground.names" Zp ["self"] f fd
 fr:∃f fd,kc K CG "roads_from" "Ground.roads_from" zW ["self","name"] f fd
 isn:∃f fd,jG K mg "is_name" Zn ["thing"] f fd
theorem Qq.ins {CG:Addr} {H:Hp} {a:Addr} {rs:jk} (h:Qq CG H a rs):∃dx fs,H a=some (.ins CG dx fs)/\fs.lookup (Str.ofString "names")=none/\fs.lookup (Str.ofString "roads_from")=none:=by
 obtain⟨dx,lo,rd,kvs,h1,_⟩:=h
 refine⟨dx,_,h1,?_,?_⟩
 . have e1:((Str.ofString "names")==(Str.ofString "order"))=false:=by decide+kernel
   have e2:((Str.ofString "names")==(Str.ofString "roads"))=false:=by decide+kernel
   simp only[List.lookup]
   rw[e1,e2]
 . have e1:((Str.ofString "roads_from")==(Str.ofString "order"))=false:=by decide+kernel
   have e2:((Str.ofString "roads_from")==(Str.ofString "roads"))=false:=by decide+kernel
   simp only[List.lookup]
   rw[e1,e2]
theorem yz {rs:jk} {i:Nat} {y:V} (h:((rs.map (·.1)).map V.str)[i]?=some y):∃r,rs[i]?=some r/\r∈rs/\y=.str r.1:=by
 rw[List.getElem?_map,List.getElem?_map]at h
 cases e:rs[i]? with
 | none=>rw[e]at h;cases h
 | some r=>rw[e]at h;exact⟨r,rfl,List.mem_of_getElem? e,(Option.some.inj h).symm⟩
theorem zm {zs:List Str} {i:Nat} {y:V} (h:(zs.map V.str)[i]?=some y):∃z,zs[i]?=some z/\z∈zs/\y=.str z:=by
 rw[List.getElem?_map]at h
 cases e:zs[i]? with
 | none=>rw[e]at h;cases h
 | some z=>rw[e]at h;exact⟨z,rfl,List.mem_of_getElem? e,(Option.some.inj h).symm⟩
theorem XD {rs:jk} (r:Str×List Str):(j6 rs r).length<=rs.length:=by
 have:=List.length_filter_le (λz=>zc (.str z) (r.2.map V.str)) (rs.map (·.1))
 rwa [List.length_map]at this
theorem Ja {c:Bool} {A B:Prop} (hc:c=false) (h:B):if c=true then A else B:=by
 rw[hc]
 exact jx h
theorem Q9 {c:Bool} {A B:Prop} (hc:c=true) (h:A):if c=true then A else B:=by
 rw[if_pos hc]
 exact h
theorem zi {kvs:List (qA×V)}:∀{i:Nat} {k:qA} {v:V},(kvs.map (·.1)).Nodup->kvs[i]?=some (k,v)->qM kvs k=some v:=by
 induction kvs with
 | nil=>intro i k v _ e;simp at e
 | cons p r ih=>
   intro i k v hn e
   rw[List.map_cons,List.nodup_cons]at hn
   cases i with
   | zero=>
     rw[List.getElem?_cons_zero]at e
     obtain rfl:=Option.some.inj e
     exact je rfl
   | succ i=>
     rw[List.getElem?_cons_succ]at e
     have:¬p.1=k:=λz=>hn.1 (z▸List.mem_map.mpr ⟨_,List.mem_of_getElem? e,rfl⟩)
     rw[qZ this]
     exact ih hn.2 e
theorem Um {H:Hp}:∀(ps:List Addr) (rs:jk),qU H ps rs->∃qs:List Addr,qs.length=rs.length/\∀(i:Nat) (p q:Addr) (r:Str×List Str),ps[i]?=some p->rs[i]?=some r->qs[i]?=some q->H p=some (.tup [.str r.1,.ref q])/\H q=some (.tup (r.2.map V.str))
 | [],[],_=>⟨[],rfl,λi p q r e=>by simp at e⟩
 | [],_::_,h=>by cases h.1
 | _::_,[],h=>by cases h.1
 | p::ps,r::rs,h=>by
   obtain⟨qs,l,k⟩:=Um ps rs ⟨Nat.succ.inj h.1,λi a b e1 e2=>h.2 (i+1) a b (by simpa using e1) (by simpa using e2)⟩
   obtain⟨q,a,b⟩:=h.2 0 p r rfl rfl
   refine⟨q::qs,by simp [l],λi p' q' r' e1 e2 e3=>?_⟩
   cases i with
   | zero=>cases e1;cases e2;cases e3;exact⟨a,b⟩
   | succ i=>exact k i p' q' r' (by simpa using e1) (by simpa using e2) (by simpa using e3)
def WL (rs:jk) (qs:List Addr):List (qA×V):=List.zipWith (λr q=>((Sum.inr r.1:qA),V.ref q)) rs qs
theorem JV:∀{rs:jk} {qs:List Addr},qs.length=rs.length->(WL rs qs).map (·.1)=(rs.map (·.1)).map Sum.inr
 | [],[],_=>rfl
 | [],_::_,h=>by cases h
 | _::_,[],h=>by cases h
 | r::rs,q::qs,h=>by
   show Sum.inr r.1::(WL rs qs).map (·.1)=_
   rw[JV (Nat.succ.inj h)]
   rfl
theorem Yh {rs:jk} {qs:List Addr} (h:qs.length=rs.length):(WL rs qs).length=rs.length:=by
 have:=congrArg List.length (JV h)
 simpa using this
theorem Uy {rs:jk} {qs:List Addr} (h:qs.length=rs.length) {i:Nat} {r:Str×List Str} (e:rs[i]?=some r):∃q,qs[i]?=some q/\(WL rs qs)[i]?=some (Sum.inr r.1,.ref q):=by
 have hi:i < qs.length:=by rw[h];exact(List.getElem?_eq_some_iff.mp e).1
 refine⟨qs[i],List.getElem?_eq_getElem hi,?_⟩
 unfold WL
 rw[List.getElem?_zipWith,e,List.getElem?_eq_getElem hi]
theorem yK {rs:jk} {qs:List Addr} (h:qs.length=rs.length) {i:Nat} {kv:qA×V} (e:(WL rs qs)[i]?=some kv):∃r q,rs[i]?=some r/\qs[i]?=some q/\kv=(Sum.inr r.1,.ref q):=by
 have hi:i < rs.length:=by rw[<-Yh h];exact(List.getElem?_eq_some_iff.mp e).1
 obtain⟨q,e1,e2⟩:=Uy h (List.getElem?_eq_getElem hi)
 rw[e2]at e
 exact⟨_,q,List.getElem?_eq_getElem hi,e1,(Option.some.inj e).symm⟩
theorem UE {rs:jk} (g:qt rs) {r:Str×List Str} (h:r∈rs) {y:Str}:y∈QW rs r.1↔y∈r.2:=by
 rw[zB g.nd h]
 exact z6 g h
theorem yF:∀{l:List Nat} {x:Nat},x∈l->x<=l.sum
 | a::l,x,h=>by
   rw[List.sum_cons]
   rcases List.mem_cons.mp h with e | h
   . omega
   . have:=yF h
     omega
theorem qt.two {rs:jk} (g:qt rs) {r:Str×List Str} (h:r∈rs):r.2.length<=40:=by
 refine Nat.le_trans ?_ g.few
 exact yF (List.mem_map.mpr ⟨r,h,rfl⟩)
theorem KF {σ:L2.St} {H:Hp} {Q:List V->Hp->Prop} (h:Q [] H):QX σ H Q:=h
theorem jt {H H':Hp} {a:Addr} (s:qo H H') (h:H' a=none):H a=none:=by
 cases z:H a with
 | none=>rfl
 | some u=>rw[s _ _ z]at h;cases h
theorem Vp {z:Str} (h:jc z=true):(∀c∈z.cps.toList,c<=122)/\z.length<=8/\1<=z.length:=by
 unfold jc at h
 simp only[Bool.and_eq_true,decide_eq_true_eq]at h
 refine⟨λc hc=>?_,h.1.2,h.1.1⟩
 have:=List.all_eq_true.mp h.2 c hc
 unfold jC at this
 simp only[Bool.and_eq_true,decide_eq_true_eq]at this
 exact this.2
theorem XL {z:Str} (h:jc z=true):PyData.strOk z=true:=by
 unfold PyData.strOk
 rw[Array.all_eq_true_iff_forall_mem]
 intro c hc
 have:=(Vp h).1 c (by simpa using hc)
 exact decide_eq_true (by omega)
def dL (zs:List Str):PyData:=.list (zs.map PyData.str)
theorem Yy {K:PySem.W.Frag} {H:Hp}:∀zs:List Str,DVs K H (zs.map V.str) (zs.map PyData.str)
 | []=>.nil
 | z::zs=>.cons (.str z) (Yy zs)
theorem uF {K:PySem.W.Frag} {H:Hp} {p:Addr} {zs:List Str} (h:H p=some (.lst (zs.map V.str))):DV K H (.ref p) (dL zs):=.lst (.of h) (Yy zs)
theorem Gf:∀{zs:List Str},(∀z∈zs,jc z=true)->PyData.canLayAll0 (zs.map PyData.str)=true
 | [],_=>rfl
 | z::zs,h=>by
   rw[List.map_cons,PyData.canLayAll0,Gf λy hy=>h y (List.mem_cons_of_mem _ hy),Bool.and_true]
   exact XL (h z List.mem_cons_self)
theorem Gc:∀zs:List Str,PyData.depthAll (zs.map PyData.str)=0
 | []=>rfl
 | z::zs=>by
   rw[List.map_cons]
   simp only[PyData.depthAll,PyData.depth,Gc zs]
   rfl
theorem shL {zs:List Str} (h:∀z∈zs,jc z=true):PySem.SeqAt.shaped (dL zs)=true:=by
 unfold PySem.SeqAt.shaped
 rw[Bool.and_eq_true]
 refine⟨Gf h,decide_eq_true ?_⟩
 unfold dL
 simp only[PyData.depth,Gc zs]
 decide
theorem xk {K:PySem.W.Frag} {H:Hp} {l:Addr} {ps:List Addr} {rs:jk} (g:Qe H l ps rs) {Q:VK}
   (q:∀dd kvs,H dd=none->kvs.map (·.1)=(rs.map (·.1)).map Sum.inr->(∀r∈rs,∃t,qM kvs (Sum.inr r.1:qA)=some (.ref t)/\H t=some (.tup (r.2.map V.str)))->Q (.ref dd) (upd H dd (.dK kvs))):kZ K [.ref l] H Q:=by
 obtain⟨qs,lq,hqs⟩:=Um ps rs g.rows
 have le:=g.le
 refine⟨l,ps,WL rs qs,rfl,.of g.at_,by rw[Yh lq,g.rows.1],λi a kv e1 e2=>?_,by rw[Yh lq];omega,λdd hdd=>?_⟩
 . obtain⟨r',q',f1,f2,rfl⟩:=yK lq e2
   exact .of (hqs i a q' r' e1 f1 f2).1
 have nk:((WL rs qs).map (·.1)).Nodup:=by
   rw[JV lq]
   exact jN g.good.nd λa _ b _ e=>Sum.inr.inj e
 rw[JU nk (λk _ m=>by simp at m),List.nil_append]
 refine q dd _ hdd (JV lq) λr hr=>?_
 obtain⟨i0,hi0⟩:=List.getElem?_of_mem hr
 obtain⟨q0,eq0,ekv⟩:=Uy lq hi0
 have hi0':=(List.getElem?_eq_some_iff.mp hi0).1
 exact⟨q0,zi nk ekv,(hqs i0 _ q0 r (List.getElem?_eq_getElem (by rw[g.rows.1];exact hi0')) hi0 eq0).2⟩
section
variable {P:Program} {w:World} {K:PySem.W.Frag} {mg:Str->Option Value} {base:Heap}
theorem xm (x:Int):Builtin.bitNot (Builtin.bitNot x)=x:=by unfold Builtin.bitNot;omega
theorem bo (a b:Nat):Builtin.bitOr a b=((a ||| b:Nat):Int):=by
 have na:¬(0:Int)<=Builtin.bitNot a:=by unfold Builtin.bitNot;omega
 have nb:¬(0:Int)<=Builtin.bitNot b:=by unfold Builtin.bitNot;omega
 have e:Builtin.bitAnd (Builtin.bitNot a) (Builtin.bitNot b)=Builtin.bitNot (((Builtin.bitNot (Builtin.bitNot a)).toNat ||| (Builtin.bitNot (Builtin.bitNot b)).toNat:Nat):Int):=by
   unfold Builtin.bitAnd
   rw[decide_eq_false na,decide_eq_false nb]
 unfold Builtin.bitOr
 rw[e,xm,xm,xm,Int.toNat_natCast,Int.toNat_natCast]
theorem ba (a b:Nat):Builtin.bitAnd a b=((a&&& b:Nat):Int):=by
 unfold Builtin.bitAnd
 rw[decide_eq_true (Int.natCast_nonneg a),decide_eq_true (Int.natCast_nonneg b)]
 rfl
def JH (ns:List Nat):List V:=ns.map λn=>V.int (n:Nat)
theorem XS (ns:List Nat):(JH ns).length=ns.length:=List.length_map ..
theorem UC {ns:List Nat} {i:Nat} {x:V} (h:(JH ns)[i]?=some x):∃n:Nat,ns[i]?=some n/\x=.int n:=by
 unfold JH at h
 rw[List.getElem?_map]at h
 cases e:ns[i]? with
 | none=>rw[e]at h;cases h
 | some n=>rw[e]at h;exact⟨n,rfl,(Option.some.inj h).symm⟩
theorem YM {ns:List Nat} {i n:Nat} (h:ns[i]?=some n):ns.take (i+1)=ns.take i++[n]:=by
 rw[List.take_add_one,h]
 rfl
theorem y3 (ns:List Nat) (n:Nat):JH ns++[V.int (n:Nat)]=JH (ns++[n]):=by unfold JH;rw[List.map_append];rfl
theorem Zx (ns:List Nat):(JH ns).all Jn=true:=by
 unfold JH
 rw[List.all_map]
 exact List.all_eq_true.mpr λ_ _=>rfl
theorem Ym (ns:List Nat) (n:Nat):zc (.int (n:Nat)) (JH ns)=decide (n∈ns):=by
 unfold zc JH
 rw[List.any_map,Bool.eq_iff_iff,List.any_eq_true,decide_eq_true_iff]
 constructor
 . rintro⟨y,hy,e⟩
   have e':((y:Int)==(n:Int))=true:=e
   have:y=n:=by
     have:=eq_of_beq e'
     omega
   exact this▸hy
 . intro h
   refine⟨n,h,?_⟩
   show ((n:Int)==(n:Int))=true
   simp
def YQ (K:PySem.W.Frag):Sp:=λvs H Q _=>∃(a:Addr) (ns:List Nat),vs=[.ref a]/\SqL K H a (JH ns)/\ns.length<=1000/\∀H',qo H H'->Q (.int (Rb.lackN ns:Nat)) H'
def V3 (K:PySem.W.Frag):Sp:=λvs H Q _=>∃(a:Addr) (ns:List Nat),vs=[.ref a]/\SqL K H a (JH ns)/\(∀x∈ns,x < 1000)/\Q (.int (Rb.setN ns:Nat)) H
theorem zp:qu ["numbers","bits","number"] ["numbers"] (qm XA):=⟨rfl,rfl,rfl,by decide+kernel,rfl,by decide+kernel,by decide+kernel⟩
theorem yi {f:Addr} {fd:FuncData} (F:j7 K "set_of" "set_of" XA f fd):qv P w K mg base qV 1 f fd ["numbers"] (V3 K):=by
 refine F.okJ zp (λvs H Q E h=>?_) (λcdv A outer s H vs Q E hr h=>?_)
 . obtain⟨a,ns,rfl,_⟩:=h
   rfl
 . obtain⟨a,ns,rfl,hS,hb,q⟩:=h
   refine⟨_,qe (qx (i:=1) zp.nd rfl (Or.inl rfl) qj)
     (qe (qW PassesOwn.never rfl (qL (jv 0)) (ql (i:=2) zp.nd rfl (Or.inl rfl)) (qh (qx (i:=1) zp.nd rfl (Or.inl rfl) (qP Rw (jv 1) (qP yc qj (jv 2))))))
     (qh (qB (jv 1)))),?_⟩
   refine⟨_,rfl,a,rfl,⟨_,hS⟩,?_⟩
   refine jo (K:=K) (a:=a) (xs:=JH ns) (λi σ H'=>∃v,σ=[some (.ref a),some (.int ((Rb.setN (ns.take i):Nat):Int)),v]/\H'=H) ⟨none,rfl,rfl⟩ (λi σ H' _ ⟨_,_,e⟩=>e▸hS) ?_ ?_
   . rintro i x σ H' hx ⟨v,rfl,rfl⟩
     obtain⟨n,hn,rfl⟩:=UC hx
     have n1:=hb n (List.mem_of_getElem? hn)
     have e1:(1:Int)*2^ ((n:Nat):Int).toNat=((2^n:Nat):Int):=by rw[Int.toNat_natCast,Int.one_mul];push_cast;rfl
     have e:((Rb.setN (ns.take (i+1)):Nat):Int)=Builtin.bitOr (Rb.setN (ns.take i):Nat) ((1:Int)*2^ ((n:Nat):Int).toNat):=by rw[e1,bo,YM hn,Rb.setN_snoc]
     refine⟨_,rfl,_,rfl,_,_,rfl,rfl,⟨by omega,by omega,by decide⟩,_,_,rfl,rfl,some (.int n),?_,rfl⟩
     rw[e]
     rfl
   . rintro σ H' ⟨v,rfl,rfl⟩
     refine⟨_,rfl,?_⟩
     rw[XS,List.take_of_length_le (Nat.le_refl _)]
     exact q
theorem QU:qu ["numbers","there","number","least"] ["numbers"] (qm Ql):=⟨rfl,rfl,rfl,by decide+kernel,rfl,by decide+kernel,by decide+kernel⟩
theorem Vn {f:Addr} {fd:FuncData} (F:j7 K "lacking" "lacking" Ql f fd):qv P w K mg base qV 1 f fd ["numbers"] (YQ K):=by
 refine F.okJ QU (λvs H Q E h=>?_) (λcdv A outer s H vs Q E hr h=>?_)
 . obtain⟨a,ns,rfl,_⟩:=h
   rfl
 . obtain⟨a,ns,rfl,hS,hl,q⟩:=h
   have hu:=jJ hr
   refine⟨_,qe (qx (i:=1) QU.nd rfl (Or.inl rfl) jw)
     (qe (qW PassesOwn.never rfl (qL (jv 0)) (ql (i:=2) QU.nd rfl (Or.inl rfl)) (qh (qS hu (jv 1) (jv 2) j3 rfl)))
     (qe (qx (i:=3) QU.nd rfl (Or.inl rfl) qj)
     (qe (Zu PassesOwn.never (j1 (JF hu (jv 3) (jv 1)) (by with_unfolding_all rfl)) (qh (yN (i:=3) QU.nd rfl (Or.inl rfl) qj yU)))
     (qh (qB (jv 3)))))),?_⟩
   intro D hD
   refine⟨_,rfl,a,rfl,⟨_,(qg hD).seq hS⟩,?_⟩
   refine jo (K:=K) (a:=a) (xs:=JH ns) (λi σ H'=>∃v kvs,σ=[some (.ref a),some (.ref D),v,none]/\H'=upd H D (.dK kvs)/\kvs.length<=i/\∀x:Nat,(qM kvs (Sum.inl (x:Int):qA)).isSome=decide (x∈ns.take i)) ⟨none,[],rfl,rfl,Nat.le_refl _,λx=>by simp [qM]⟩
     (λi σ H' _ ⟨_,_,_,e,_⟩=>e▸(qg hD).seq hS) ?_ ?_
   . rintro i x σ H' hx ⟨v,kvs,rfl,rfl,hk,hv⟩
     obtain⟨n,hn,rfl⟩:=UC hx
     have hi:i < ns.length:=(List.getElem?_eq_some_iff.mp hn).1
     refine⟨_,rfl,_,rfl,D,_,rfl,Qf.k (k:=(Sum.inl (n:Int):qA)) qd (qk (by omega)),?_⟩
     refine⟨some (.int n),jp kvs (Sum.inl (n:Int)) (.bl true),rfl,jE,?_,λx=>?_⟩
     . have:=Qm kvs (Sum.inl (n:Int):qA) (.bl true)
       omega
     . rw[jz,YM hn]
       by_cases e:x=n
       . subst e;simp
       . have e':¬(Sum.inl (x:Int):qA)=Sum.inl (n:Int):=λz=>e (by have:=Sum.inl.inj z;omega)
         rw[if_neg e',hv x,Bool.eq_iff_iff]
         simp [e]
   . rintro σ H' ⟨v,kvs,rfl,rfl,hk,hv⟩
     rw[XS,List.take_of_length_le (Nat.le_refl _)]at hv
     refine Zg (λσ H'=>∃r:Nat,σ=[some (.ref a),some (.ref D),v,some (.int r)]/\H'=upd H D (.dK kvs)/\∀x,x < r->x∈ns) (λσ _=>match σ with | [_,_,_,some (.int r)]=>ns.length - r.toNat | _=>0) ⟨0,rfl,rfl,λx hx=>absurd hx (Nat.not_lt_zero _)⟩ ?_ ?_
     . rintro σ H' ⟨r,rfl,rfl,hr'⟩
       refine⟨_,rfl,_,rfl,D,_,rfl,jm.k (k:=(Sum.inl (r:Int):qA)) qd,_,rfl,?_⟩
       rw[hv r]
       by_cases hm:r∈ns
       . rw[decide_eq_true hm]
         have hp:=Rb.pigeon (r+1) ns λx hx=>by
           by_cases e:x=r
           . rw[e];exact hm
           . exact hr' x (by omega)
         refine Qc ⟨_,rfl,_,_,rfl,rfl,⟨r+1,rfl,rfl,λx hx=>?_⟩,?_⟩
         . by_cases e:x=r
           . rw[e];exact hm
           . exact hr' x (by omega)
         . show ns.length - ((r:Int)+1).toNat < ns.length - (r:Int).toNat
           omega
       . rw[decide_eq_false hm]
         refine jx ⟨_,rfl,?_⟩
         have e:=Rb.lackN_eq (r:=r) (ns:=ns) ⟨hm,hr'⟩
         have:=q _ (qg (o:=.dK kvs) hD)
         rw[<-e]at this
         exact this
     . rintro σ H Q Q' h1 ⟨v,e,w,e2,a,o,e3,g,k,e4,q⟩
       exact⟨v,e,w,e2,a,o,e3,g,k,e4,h1 _ _ q⟩
end
end Rh
set_option Elab.async false
set_option linter.all false
set_option maxRecDepth 100000
set_option maxHeartbeats 4000000
namespace Rh
open PySem L2 PyProof.Rows MLab
abbrev uV:Stmt:=top 37
abbrev zV:Stmt:=top 38
abbrev ZK:Stmt:=top 39
abbrev Wv:Stmt:=top 40
abbrev XB:Stmt:=top 41
abbrev zr:Stmt:=top 42
structure qO (N:List Str) (H:Hp) (d:Addr) (f:Str->Option Nat):Prop where
 at_:∃kvs:List (qA×V),H d=some (.dK kvs)/\(∀z:Str,qM kvs (Sum.inr z:qA)=(f z).map λn=>V.int (n:Nat))/\(kvs.map (·.1)).Nodup/\∀k∈kvs.map (·.1),k∈N.map (Sum.inr:Str->qA)
theorem qO.mono {N:List Str} {H H':Hp} {d:Addr} {f:Str->Option Nat} (h:qO N H d f) (s:qo H H'):qO N H' d f:=⟨let ⟨kvs,a,b⟩:=h.at_;⟨kvs,s _ _ a,b⟩⟩
theorem qO.get {N:List Str} {H:Hp} {d:Addr} {f:Str->Option Nat} (h:qO N H d f) (z:Str):jm H d (.str z) ((f z).map λn=>V.int (n:Nat)):=by
 obtain⟨kvs,a,b,_⟩:=h.at_
 rw[<-b z]
 exact jm.k (k:=(Sum.inr z:qA)) a
theorem qO.isd {N:List Str} {H:Hp} {d:Addr} {f:Str->Option Nat} (h:qO N H d f):∃kvs:List (qA×V),H d=some (.dK kvs):=let ⟨kvs,a,_⟩:=h.at_;⟨kvs,a⟩
theorem qO.put {N:List Str} {H:Hp} {d:Addr} {f:Str->Option Nat} (h:qO N H d f) {z:Str} {n:Nat} (hz:z∈N) (hf:f z=none) (le:N.length<=14):∃H',Qf H d (.str z) (.int (n:Nat)) H'/\qO N H' d (λy=>if y=z then some n else f y)/\∃o,H'=upd H d o:=by
 obtain⟨kvs,a,b,nd,sub⟩:=h.at_
 have ln:kvs.length<=14:=by
   have:=QB nd sub
   rw[List.length_map,List.length_map]at this
   omega
 refine⟨_,Qf.k (k:=(Sum.inr z:qA)) a (qk (by omega)),⟨jp kvs (Sum.inr z) (.int (n:Nat)),qd,λy=>?_,?_,?_⟩,_,rfl⟩
 . rw[jz]
   by_cases e:y=z
   . subst e;rw[if_pos rfl,if_pos rfl];rfl
   . rw[if_neg e,if_neg (λq=>e (Sum.inr.inj q))];exact b y
 . rw[jW _ (by rw[b z,hf];rfl),List.map_append]
   refine List.nodup_append.mpr ⟨nd,List.pairwise_singleton _ _,λx hx y hy e=>?_⟩
   have ey:y=Sum.inr z:=by simpa using hy
   subst ey
   subst e
   have:(qM kvs (Sum.inr z:qA)).isSome=true:=by
     obtain⟨p,hp,ep⟩:=List.mem_map.mp hx
     have an:(kvs.any λkv=>decide (kv.1=(Sum.inr z:qA)))=true:=List.any_eq_true.mpr ⟨p,hp,decide_eq_true ep⟩
     rw[Qk]at an
     exact an
   rw[b z,hf]at this
   cases this
 . rw[jW _ (by rw[b z,hf];rfl),List.map_append]
   intro k hk
   rcases List.mem_append.mp hk with hk | hk
   . exact sub k hk
   . have:k=Sum.inr z:=by simpa using hk
     rw[this]
     exact List.mem_map.mpr ⟨z,hz,rfl⟩
def YG (rs:jk) (f:Str->Option Nat) (z:Str):List Nat:=(QW rs z).filterMap f
theorem jY {rs:jk} {f:Str->Option Nat} {z:Str} {n:Nat}:n∈YG rs f z↔∃y∈QW rs z,f y=some n:=List.mem_filterMap
theorem UD {rs:jk} (z:Str):(QW rs z).length<=rs.length:=by
 unfold QW
 split
 . exact XD _
 . exact Nat.zero_le _
def Xi (rs:jk) (f:Str->Option Nat) (z:Str):List Str:=(QW rs z).filter λy=>(f y).isNone
def Zz (rs:jk) (f:Str->Option Nat) (z:Str) (n:Nat):Bool:=decide (Rb.lackN (YG rs f z)=n)&&(Xi rs f z).all λy=>decide (n∈YG rs f y)
theorem vQ {rs:jk} {f:Str->Option Nat} {z:Str} {n:Nat}:Zz rs f z n=true↔Zd (QW rs) f z n:=by
 unfold Zz Zd Xi
 rw[Bool.and_eq_true,decide_eq_true_iff,List.all_eq_true]
 have lk:Rb.Lacks (Rb.lackN (YG rs f z)) (YG rs f z):=Rb.lackI_lacks _
 constructor
 . rintro⟨rfl,h⟩
   refine⟨λj hj=>jY.mp (lk.2 j hj),λy hy e=>lk.1 (jY.mpr ⟨y,hy,e⟩),λy hy e=>?_⟩
   exact jY.mp (of_decide_eq_true (h y (List.mem_filter.mpr ⟨hy,by rw[e];rfl⟩)))
 . rintro⟨h1,h2,h3⟩
   refine⟨(Rb.lackN_eq ⟨λm=>?_,λx hx=>jY.mpr (h1 x hx)⟩).symm,λy hy=>decide_eq_true ?_⟩
   . obtain⟨y,hy,e⟩:=jY.mp m
     exact h2 y hy e
   . obtain⟨hy1,hy2⟩:=List.mem_filter.mp hy
     exact jY.mpr (h3 y hy1 (by simpa using hy2))
def kN (rs:jk) (f:Str->Option Nat) (n:Nat):List Str:=((rs.map (·.1)).filter λz=>(f z).isNone).filter λz=>Zz rs f z n
theorem wk (rs:jk) (R:Rs Str) (n:Nat):X5 (QW rs) (rs.map (·.1)) R n (kN rs (qD R) n):=⟨λx=>by
 unfold kN
 rw[List.mem_filter,List.mem_filter,vQ]
 constructor
 . rintro⟨⟨a,b⟩,c⟩
   exact⟨a,by simpa using b,c⟩
 . rintro⟨a,b,c⟩
   exact⟨⟨a,by rw[b];rfl⟩,c⟩,List.filter_sublist.trans List.filter_sublist⟩
def xQ (CG:Addr):Sp:=λvs H Q _=>∃(g d:Addr) (rs:jk) (z:Str) (f:Str->Option Nat),vs=[.ref g,.ref d,.str z]/\Qq CG H g rs/\qt rs/\rs.length<=14/\z∈rs.map (·.1)/\qO (rs.map (·.1)) H d f/\
 ∀H' l,qo H H'->H l=none->H' l=some (.lst (JH (YG rs f z)))->Q (.ref l) H'
def kD (CG:Addr):Sp:=λvs H Q _=>∃(g d:Addr) (rs:jk) (z:Str) (f:Str->Option Nat) (n:Nat),vs=[.ref g,.ref d,.str z,.int (n:Nat)]/\Qq CG H g rs/\qt rs/\rs.length<=14/\z∈rs.map (·.1)/\qO (rs.map (·.1)) H d f/\
 ∀H',qo H H'->Q (.bl (Zz rs f z n)) H'
def V4 (CG:Addr):Sp:=λvs H Q _=>∃(g d:Addr) (rs:jk) (f:Str->Option Nat) (n:Nat),vs=[.ref g,.ref d,.int (n:Nat)]/\Qq CG H g rs/\qt rs/\rs.length<=14/\qO (rs.map (·.1)) H d f/\
 ∀H' l,qo H H'->H l=none->H' l=some (.lst ((kN rs f n).map V.str))->Q (.ref l) H'
theorem Vr {α β:Type} (g:α->Option β) (h:β->V):∀l:List α,(l.filterMap g).map h=l.filterMap λx=>(g x).map h
 | []=>rfl
 | a::l=>by
   rw[List.filterMap_cons,List.filterMap_cons]
   cases g a with
   | none=>exact Vr g h l
   | some b=>rw[List.map_cons,Vr g h l];rfl
theorem Yr (p:Str->Bool):∀l:List Str,(l.filter p).map V.str=l.filterMap λx=>if p x=true then some (V.str x) else none
 | []=>rfl
 | a::l=>by
   rw[List.filter_cons,List.filterMap_cons]
   cases p a with
   | false=>exact Yr p l
   | true=>
     rw[if_pos rfl,if_pos rfl,List.map_cons,Yr p l]
theorem Uw {α:Type} (f:α->V):∀l:List α,l.map f=l.filterMap λx=>some (f x)
 | []=>rfl
 | a::l=>by rw[List.map_cons,List.filterMap_cons,Uw f l]
section
variable {P:Program} {w:World} {K:PySem.W.Frag} {mg:Str->Option Value} {base:Heap}
abbrev xy:List Str:=["ground","numbered","name"]
theorem Nz:qu xy xy (qm uV):=⟨rfl,rfl,rfl,by decide+kernel,rfl,by decide+kernel,by decide+kernel⟩
theorem u0 {f CG:Addr} {fd:FuncData} (F:j7 K "numbers_behind" "numbers_behind" uV f fd) (B:Jr mg) (G:QK mg) (T:Jh K mg) (M:GM K mg CG):qv P w K mg base qV 3 f fd xy (xQ CG):=by
 obtain⟨fC,fdC,C⟩:=M.cls
 obtain⟨fR,fdR,hR⟩:=M.fr
 obtain⟨fN,fdN,hN⟩:=M.isn
 have GR:qv P w K mg base qV 2 fR fdR ["self","name"] (Xv CG):=WD hR.fn C B G T hN
 refine F.okJ Nz (λvs H Q E h=>?_) (λcdv A outer s H vs Q E hr h=>?_)
 . obtain⟨g,d,rs,z,nf,rfl,_⟩:=h
   rfl
 . obtain⟨g,d,rs,z,nf,rfl,gr,good,le14,hz,hd,q⟩:=h
   have hu:=jJ hr
   refine⟨_,qh (qB (jP (N':=["end","numbered"]) (ix:=[none,some 1]) rfl ⟨rfl,rfl,rfl,rfl,rfl⟩ (qL (u7 hR C.cl GR hr (jv 0) (qb (jv 2) qf))) (λC s2 H2 fp pins=>
     ⟨ql (i:=0) (show (["end","numbered"]:List Str).Nodup by decide+kernel) rfl (Or.inl rfl),jF (j1 (JF hu (jv 0) (jv 1))),qG hu (jv 1) (jv 0) (λ_ _=>rfl)⟩))),?_⟩
   obtain⟨dx,fs,hg,l1,l2⟩:=gr.ins
   obtain⟨r,hr',rfl⟩:=List.mem_map.mp hz
   refine⟨_,rfl,g,dx,fs,rfl,hg,l2,_,rfl,g,rs,r,rfl,gr,hr',good.nm r hr',λH1 le s1 hle=>?_⟩
   have s2:qo H (upd H1 le (.lst ((j6 rs r).map V.str))):=s1.trans (qg hle)
   have hl2:upd H1 le (.lst ((j6 rs r).map V.str)) le=some (.lst ((j6 rs r).map V.str)):=qd
   generalize upd H1 le (.lst ((j6 rs r).map V.str))=H2 at s2 hl2
   have hd2:=hd.mono s2
   refine⟨le,rfl,⟨_,.of hl2⟩,λW hW=>?_⟩
   refine Yw (K:=K) (a:=le) (xs:=j6 rs r) (enc:=V.str) (out:=λy=>(nf y).map λn=>V.int (n:Nat)) (rest:=[some (.ref d)]) hW hl2 (qk (Nat.le_trans (XD r) (by omega))) ?_ ?_ ?_
   . intro x hx G' s3 R k
     refine⟨_,rfl,_,rfl,d,_,rfl,(hd2.mono s3).get x,_,rfl,k G' λ_ _ h=>h⟩
   . intro x hx v ev G' s3 R k
     have gx:=(hd2.mono s3).get x
     rw[ev]at gx
     exact⟨_,rfl,_,rfl,d,_,rfl,gx,k G' λ_ _ h=>h⟩
   . intro G' s3 hG
     refine q _ W (s2.trans s3) (jt s2 hW) ?_
     rw[hG]
     congr 2
     unfold JH YG
     rw[zB good.nd hr',Vr]
abbrev RF:List Str:=["ground","numbered","name","number","bare"]
abbrev Ya:List Str:=["ground","numbered","name","number"]
theorem kL:qu RF Ya (qm zV):=⟨rfl,rfl,rfl,by decide+kernel,rfl,by decide+kernel,by decide+kernel⟩
theorem wE {f fB fL CG:Addr} {fd fdB fdL:FuncData} (F:j7 K "gets_number" "gets_number" zV f fd) (B:Jr mg) (G:QK mg) (T:Jh K mg) (M:GM K mg CG) (hB:jG K mg "numbers_behind" uV xy fB fdB) (hL:jG K mg "lacking" Ql ["numbers"] fL fdL):qv P w K mg base qV 4 f fd Ya (kD CG):=by
 have GB:qv P w K mg base qV 3 fB fdB xy (xQ CG):=u0 hB.fn B G T M
 have GL:qv P w K mg base qV 1 fL fdL ["numbers"] (YQ K):=Vn hL.fn
 obtain⟨fC,fdC,C⟩:=M.cls
 obtain⟨fR,fdR,hR⟩:=M.fr
 obtain⟨fN,fdN,hN⟩:=M.isn
 have GR:qv P w K mg base qV 2 fR fdR ["self","name"] (Xv CG):=WD hR.fn C B G T hN
 refine F.okJ kL (λvs H Q E h=>?_) (λcdv A outer s H vs Q E hr h=>?_)
 . obtain⟨g,d,rs,z,nf,n,rfl,_⟩:=h
   rfl
 . obtain⟨g,d,rs,z,nf,n,rfl,gr,good,le14,hz,hd,q⟩:=h
   have hu:=jJ hr
   have r1:jg 1 _:=hr.mono (by decide)
   have r2:jg 2 _:=hr.mono (by decide)
   refine⟨_,qe (q5 (qr uZ (qY hL GL r1 (by rfl) (qb (qY hB GB hr (by rfl) (qb (jv 0) (qb (jv 1) (qb (jv 2) qf)))) qf)) (jv 3) (qz _)) (qh (qB j3)) qE)
     (qe (Qo (i:=4) (N':=["end","numbered"]) (ix:=[none,some 1]) kL.nd rfl (Or.inl rfl) rfl ⟨rfl,rfl,rfl,rfl,rfl⟩ (qL (u7 hR C.cl GR r2 (jv 0) (qb (jv 2) qf))) (λC s2 H2 fp pins=>
       ⟨ql (i:=0) (show (["end","numbered"]:List Str).Nodup by decide+kernel) rfl (Or.inl rfl),jF (j1 (QD hu (jv 0) (jv 1))),jv 0⟩))
     (qh (qB (qC (ZT rfl) (by rfl) T.all boot_all (qb (jP (N':=["end","number","ground","numbered"]) (ix:=[none,some 3,some 0,some 1]) (te:=YA (Gv K false) (qJ 1) (Wj (xQ CG) [] E0 (jr (qJ 2) (jr (qJ 3) (jr (qJ 0) QX))))) rfl ⟨rfl,rfl,rfl,rfl,rfl⟩ (qL (jv 4)) (λC s2 H2 fp pins=>
       ⟨ql (i:=0) (show (["end","number","ground","numbered"]:List Str).Nodup by decide+kernel) rfl (Or.inl rfl),js,QC JP (jv 1) (qY hB GB hr (by rfl) (qb (jv 2) (qb (jv 3) (qb (jv 0) qf)))) (by with_unfolding_all rfl)⟩)) qf))))),?_⟩
   refine⟨_,rfl,_,rfl,_,rfl,g,d,rs,z,nf,rfl,gr,good,le14,hz,hd,λH1 l1 s1 hl1 hl1'=>?_⟩
   have ln:∀y,(YG rs nf y).length<=14:=λy=>Nat.le_trans (List.length_filterMap_le _ _) (Nat.le_trans (UD y) le14)
   refine⟨l1,_,rfl,.of hl1',by have:=ln z;omega,λH2 s2=>⟨_,rfl,rfl,_,rfl,?_⟩⟩
   have s12:=s1.trans s2
   by_cases c:Rb.lackN (YG rs nf z)=n
   . refine Ja (by rw[c];simp) ?_
     obtain⟨dx,fs,hg,e1,e2⟩:=(gr.mono s12).ins
     obtain⟨r,hr',rfl⟩:=List.mem_map.mp hz
     refine⟨_,rfl,g,dx,fs,rfl,hg,e2,_,rfl,g,rs,r,rfl,gr.mono s12,hr',good.nm r hr',λH3 le s3 hle=>?_⟩
     have s4:qo H (upd H3 le (.lst ((j6 rs r).map V.str))):=s12.trans (s3.trans (qg hle))
     have hl4:upd H3 le (.lst ((j6 rs r).map V.str)) le=some (.lst ((j6 rs r).map V.str)):=qd
     generalize upd H3 le (.lst ((j6 rs r).map V.str))=H4 at s4 hl4
     refine⟨le,rfl,⟨_,.of hl4⟩,λW hW=>?_⟩
     refine Yw (K:=K) (a:=le) (xs:=j6 rs r) (enc:=V.str) (out:=λy=>if (nf y).isNone=true then some (V.str y) else none) (rest:=[some (.ref d)]) hW hl4 (qk (Nat.le_trans (XD r) (by omega))) ?_ ?_ ?_
     . intro x hx G' s5 R k
       refine⟨_,rfl,_,rfl,d,_,rfl,((hd.mono s4).mono s5).get x,_,rfl,?_⟩
       have:=k G' λ_ _ h=>h
       cases e:nf x with
       | none=>rw[e]at this;exact this
       | some m=>rw[e]at this;exact this
     . intro x hx v ev G' s5 R k
       have:v=V.str x:=by
         split at ev
         . exact(Option.some.inj ev).symm
         . cases ev
       subst this
       exact⟨_,rfl,k G' λ_ _ h=>h⟩
     . intro G5 s5 hG
       rw[<-Yr (λy=>(nf y).isNone),<-zB good.nd hr']at hG
       have hb:G5 W=some (.lst ((Xi rs nf r.1).map V.str)):=hG
       have s45:=s4.trans s5
       refine⟨_,rfl,W,rfl,⟨_,.of hb⟩,λU hU=>?_⟩
       have bl:(Xi rs nf r.1).length<=14:=Nat.le_trans (List.length_filter_le _ _) (Nat.le_trans (UD r.1) le14)
       refine Yw (K:=K) (a:=W) (xs:=Xi rs nf r.1) (enc:=V.str) (out:=λy=>some (V.bl (decide (n∈YG rs nf y)))) (rest:=[some (.int (n:Nat)),some (.ref g),some (.ref d)]) hU hb (qk (by omega)) ?_ ?_ ?_
       . intro x hx G' s6 R k
         exact k G' λ_ _ h=>h
       . intro x hx v ev G' s6 R k
         obtain rfl:=Option.some.inj ev
         have hxN:x∈rs.map (·.1):=QT good.nd _ hz x (List.mem_filter.mp hx).1
         have sA:=s45.trans s6
         refine⟨_,rfl,_,rfl,_,rfl,_,rfl,g,d,rs,x,nf,rfl,gr.mono sA,good,le14,hxN,hd.mono sA,λH7 l7 s7 hl7 hl7'=>?_⟩
         refine⟨l7,_,rfl,.inl (.of hl7'),rfl,Zx _,?_⟩
         rw[Ym]
         exact k H7 s7
       . intro G6 s6 hG6
         rw[<-Uw]at hG6
         refine⟨U,(Xi rs nf r.1).map λy=>decide (n∈YG rs nf y),rfl,.of (by rw[hG6,List.map_map];rfl),?_⟩
         have:=q G6 (s45.trans s6)
         unfold Zz at this
         rw[decide_eq_true c,Bool.true_and]at this
         rw[List.all_map]
         exact this
   . refine Q9 (by
       have:¬V.int ((Rb.lackN (YG rs nf z):Nat):Int)=V.int ((n:Nat):Int):=λe=>c (by have:=V.int.inj e;omega)
       rw[decide_eq_false this];rfl) ?_
     have:=q H2 s12
     unfold Zz at this
     rw[decide_eq_false c,Bool.false_and]at this
     exact this
end
end Rh
set_option Elab.async false
set_option linter.all false
set_option maxRecDepth 100000
set_option maxHeartbeats 4000000
namespace Rh
open PySem L2 PyProof.Rows MLab
def jh (H:Hp) (ps:List Addr) (ls:List (List Str)):Prop:=ps.length=ls.length/\∀(i:Nat) (p:Addr) (l:List Str),ps[i]?=some p->ls[i]?=some l->H p=some (.lst (l.map V.str))
theorem jh.mono {H H':Hp} {ps:List Addr} {ls:List (List Str)} (h:jh H ps ls) (s:qo H H'):jh H' ps ls:=⟨h.1,λi p l e1 e2=>s _ _ (h.2 i p l e1 e2)⟩
theorem jh.nil {H:Hp}:jh H [] []:=⟨rfl,λi p l e=>(nomatch e)⟩
theorem Xw {α:Type} {xs:List α} {x y:α} {i:Nat} (h:(xs++[x])[i]?=some y):(i < xs.length/\xs[i]?=some y)\/(i=xs.length/\y=x):=by
 by_cases hi:i < xs.length
 . rw[List.getElem?_append_left hi]at h
   exact .inl ⟨hi,h⟩
 . have hi':i=xs.length:=by
     have:=(List.getElem?_eq_some_iff.mp h).1
     rw[List.length_append,List.length_singleton]at this
     omega
   subst hi'
   rw[List.getElem?_append_right (Nat.le_refl _),Nat.sub_self]at h
   exact .inr ⟨rfl,(Option.some.inj h).symm⟩
theorem jh.snoc {H:Hp} {ps:List Addr} {ls:List (List Str)} {p:Addr} {l:List Str} (h:jh H ps ls) (hp:H p=some (.lst (l.map V.str))):jh H (ps++[p]) (ls++[l]):=by
 refine⟨by rw[List.length_append,List.length_append,h.1];rfl,λi p' l' e1 e2=>?_⟩
 rcases Xw e1 with ⟨i1,e1⟩ | ⟨i1,rfl⟩
 . rcases Xw e2 with ⟨_,e2⟩ | ⟨i2,_⟩
   . exact h.2 i p' l' e1 e2
   . have:=h.1;omega
 . rcases Xw e2 with ⟨i2,_⟩ | ⟨_,rfl⟩
   . have:=h.1;omega
   . exact hp
theorem jh.app {H:Hp} {ps qs:List Addr} {ls ms:List (List Str)} (h:jh H ps ls) (k:jh H qs ms):jh H (ps++qs) (ls++ms):=by
 refine⟨by rw[List.length_append,List.length_append,h.1,k.1],λi p l e1 e2=>?_⟩
 by_cases c:i < ps.length
 . rw[List.getElem?_append_left c]at e1
   rw[List.getElem?_append_left (by rw[<-h.1];exact c)]at e2
   exact h.2 i p l e1 e2
 . rw[List.getElem?_append_right (by omega)]at e1
   rw[List.getElem?_append_right (by rw[<-h.1];omega)]at e2
   rw[<-h.1]at e2
   exact k.2 _ p l e1 e2
theorem jh.fr {H H':Hp} {ps:List Addr} {ls:List (List Str)} {d:Addr} {kvs:List (qA×V)} (h:jh H ps ls) (hd:H d=some (.dK kvs)) (f:Fr H d H'):jh H' ps ls:=⟨h.1,λi p l e1 e2=>f _ _ (h.2 i p l e1 e2) (λe=>by have:=h.2 i p l e1 e2;rw[e,hd]at this;cases this)⟩
theorem qO.fr {N:List Str} {H H':Hp} {d e:Addr} {f:Str->Option Nat} (h:qO N H d f) (s:Fr H e H') (ne:d≠e):qO N H' d f:=⟨let ⟨kvs,a,b⟩:=h.at_;⟨kvs,s _ _ a ne,b⟩⟩
theorem qO.congr {N:List Str} {H:Hp} {d:Addr} {f g:Str->Option Nat} (h:qO N H d f) (e:∀z,f z=g z):qO N H d g:=⟨let ⟨kvs,a,b,c⟩:=h.at_;⟨kvs,a,λz=>by rw[b z,e z],c⟩⟩
def W6 (CG:Addr) (H:Hp) (g d:Addr):Prop:=∀dx lo rd,H g=some (.ins CG dx [("order",.ref lo),("roads",.ref rd)])->rd≠d
theorem Qq.fr {CG:Addr} {H H':Hp} {a d:Addr} {rs:jk} (h:Qq CG H a rs) (hd:∃kvs:List (qA×V),H d=some (.dK kvs)) (ap:W6 CG H a d) (s:Fr H d H'):Qq CG H' a rs:=by
 obtain⟨dx,lo,rd,kv,h1,h2,h3,h4⟩:=h
 obtain⟨kvs,hd⟩:=hd
 have ne:∀{b:Addr} {o:HO},H b=some o->(∀kv:List (qA×V),o≠.dK kv)->b≠d:=λhb no e=>by rw[e,hd]at hb;exact no kvs (Option.some.inj hb).symm
 refine⟨dx,lo,rd,kv,s _ _ h1 (ne h1 (λ_=>by simp)),s _ _ h2 (ne h2 (λ_=>by simp)),s _ _ h3 (ap dx lo rd h1),λr hr=>let ⟨q,a,b⟩:=h4 r hr;⟨q,a,s _ _ b (ne b (λ_=>by simp))⟩⟩
def ze (f:Str->Option Nat) (n:Nat) (ns:List Str):Str->Option Nat:=λz=>if z∈ns then some n else f z
theorem y8 {R:Rs Str} {n:Nat} {ns:List Str} (h:∀z∈ns,qD R z=none) (z:Str):ze (qD R) n ns z=qD (R++[(n,ns)]) z:=by
 unfold ze
 rw[Qp]
 by_cases c:z∈ns
 . rw[if_pos c,h z c]
   show _=if z∈ns then some n else none
   rw[if_pos c]
 . rw[if_neg c]
   cases qD R z with
   | some m=>rfl
   | none=>
     show none=if z∈ns then some n else none
     rw[if_neg c]
theorem wj {R:Rs Str} {n:Nat} {ls:List (List Str)} {l:List Str}:R++(ls++[l]).map (λx=>(n,x))=(R++ls.map λx=>(n,x))++[(n,l)]:=by
 rw[List.map_append,List.append_assoc]
 rfl
def kC (CG:Addr):Sp:=λvs H Q _=>∃(g d:Addr) (rs:jk) (R:Rs Str) (n:Nat),vs=[.ref g,.ref d,.int (n:Nat)]/\Qq CG H g rs/\qt rs/\rs.length<=14/\qO (rs.map (·.1)) H d (qD R)/\W6 CG H g d/\
 ∀H' l ps ls,H l=none->H' l=some (.lst (ps.map V.ref))->jh H' ps ls->(∀p∈ps,H p=none)->qO (rs.map (·.1)) H' d (qD (R++ls.map λx=>(n,x)))->Qr (QW rs) (rs.map (·.1)) n R (R++ls.map λx=>(n,x))->Fr H d H'->Q (.ref l) H'
def QO (rs:jk) (f:Str->Option Nat):Nat:=((rs.map (·.1)).filter λz=>(f z).isNone).length
theorem XZ {rs:jk} {R:Rs Str} {n:Nat} {ns:List Str} (h:∀z∈ns,z∈rs.map (·.1)/\qD R z=none) (ne:ns≠[]):QO rs (qD (R++[(n,ns)])) < QO rs (qD R):=by
 unfold QO
 generalize rs.map (·.1)=N at*
 have sub:(N.filter λz=>(qD (R++[(n,ns)]) z).isNone).Sublist (N.filter λz=>(qD R z).isNone):=by
   have e:(N.filter λz=>(qD (R++[(n,ns)]) z).isNone)=(N.filter λz=>(qD R z).isNone).filter λz=>(qD (R++[(n,ns)]) z).isNone:=by
     rw[List.filter_filter]
     refine List.filter_congr λz _=>?_
     cases c:(qD (R++[(n,ns)]) z).isNone with
     | false=>simp
     | true=>
       have:=VC (by simpa using c)
       rw[this]
       rfl
   rw[e]
   exact List.filter_sublist
 obtain⟨z0,r,e0⟩:=List.exists_cons_of_ne_nil ne
 have m0:z0∈ns:=by rw[e0];exact List.mem_cons_self
 obtain⟨hz,ez⟩:=h z0 m0
 rcases Nat.lt_or_ge (N.filter λz=>(qD (R++[(n,ns)]) z).isNone).length (N.filter λz=>(qD R z).isNone).length with c | c
 . exact c
 . have e:=sub.eq_of_length_le c
   have m:z0∈N.filter λz=>(qD R z).isNone:=List.mem_filter.mpr ⟨hz,by rw[ez];rfl⟩
   rw[<-e]at m
   have:=(List.mem_filter.mp m).2
   rw[xc ez m0]at this
   cases this
def Jo (N:List Str) (H:Hp) (d:Addr):Nat:=match H d with
 | some (.dK kvs)=>(N.filter λz=>(qM kvs (Sum.inr z:qA)).isNone).length
 | _=>0
theorem qO.bare {rs:jk} {H:Hp} {d:Addr} {f:Str->Option Nat} (h:qO (rs.map (·.1)) H d f):Jo (rs.map (·.1)) H d=QO rs f:=by
 obtain⟨kvs,a,b,_⟩:=h.at_
 unfold Jo QO
 rw[a]
 show ((rs.map (·.1)).filter λz=>(qM kvs (Sum.inr z:qA)).isNone).length=_
 congr 1
 refine List.filter_congr λz _=>?_
 rw[b z]
 cases f z<;>rfl
section
variable {P:Program} {w:World} {K:PySem.W.Frag} {mg:Str->Option Value} {base:Heap}
abbrev KG:List Str:=["ground","numbered","number","bare"]
abbrev QH:List Str:=["ground","numbered","number"]
theorem Ue:qu KG QH (qm ZK):=⟨rfl,rfl,rfl,by decide+kernel,rfl,by decide+kernel,by decide+kernel⟩
theorem yj {f fB fL fG CG:Addr} {fd fdB fdL fdG:FuncData} (F:j7 K "round_of" "round_of" ZK f fd) (B:Jr mg) (G:QK mg) (T:Jh K mg) (M:GM K mg CG) (hB:jG K mg "numbers_behind" uV xy fB fdB) (hL:jG K mg "lacking" Ql ["numbers"] fL fdL) (hG:jG K mg "gets_number" zV Ya fG fdG):qv P w K mg base qV 5 f fd QH (V4 CG):=by
 have GG:qv P w K mg base qV 4 fG fdG Ya (kD CG):=wE hG.fn B G T M hB hL
 obtain⟨fC,fdC,C⟩:=M.cls
 obtain⟨fM,fdM,hM⟩:=M.nm
 have GM:qv P w K mg base qV 1 fM fdM ["self"] (Ju CG):=JQ hM.fn C G
 refine F.okJ Ue (λvs H Q E h=>?_) (λcdv A outer s H vs Q E hr h=>?_)
 . obtain⟨g,d,rs,nf,n,rfl,_⟩:=h
   rfl
 . obtain⟨g,d,rs,nf,n,rfl,gr,good,le14,hd,q⟩:=h
   have hu:=jJ hr
   have r1:jg 1 _:=hr.mono (by decide)
   refine⟨_,qe (Qo (i:=3) (N':=["name","numbered"]) (ix:=[none,some 1]) Ue.nd rfl (Or.inl rfl) rfl ⟨rfl,rfl,rfl,rfl,rfl⟩ (qL (Yk hM C.cl GM r1 (jv 0))) (λC s2 H2 fp pins=>
       ⟨ql (i:=0) (show (["name","numbered"]:List Str).Nodup by decide+kernel) rfl (Or.inl rfl),jF (j1 (QD hu (jv 0) (jv 1))),jv 0⟩))
     (qh (qB (jP (N':=["name","ground","numbered","number"]) (ix:=[none,some 0,some 1,some 2]) rfl ⟨rfl,rfl,rfl,rfl,rfl⟩ (qL (jv 3)) (λC s2 H2 fp pins=>
       ⟨ql (i:=0) (show (["name","ground","numbered","number"]:List Str).Nodup by decide+kernel) rfl (Or.inl rfl),jF (Qb (qY hG GG hr (by rfl) (qb (jv 1) (qb (jv 2) (qb (jv 0) (qb (jv 3) qf)))))),jv 0⟩)))),?_⟩
   obtain⟨dx,fs,hg,l1,l2⟩:=gr.ins
   refine⟨_,rfl,g,dx,fs,rfl,hg,l1,g,rs,rfl,gr,λln hln=>⟨ln,rfl,⟨_,.of qd⟩,λW hW=>?_⟩⟩
   have s2:qo H (upd H ln (.lst ((rs.map (·.1)).map V.str))):=qg hln
   have hl2:upd H ln (.lst ((rs.map (·.1)).map V.str)) ln=some (.lst ((rs.map (·.1)).map V.str)):=qd
   generalize upd H ln (.lst ((rs.map (·.1)).map V.str))=H2 at s2 hl2 hW
   refine Yw (K:=K) (a:=ln) (xs:=rs.map (·.1)) (enc:=V.str) (out:=λy=>if (nf y).isNone=true then some (V.str y) else none) (rest:=[some (.ref d)]) hW hl2 (qk (by rw[List.length_map];omega)) ?_ ?_ ?_
   . intro x hx G' s5 R k
     refine⟨_,rfl,_,rfl,d,_,rfl,((hd.mono s2).mono s5).get x,_,rfl,?_⟩
     have:=k G' λ_ _ h=>h
     cases e:nf x with
     | none=>rw[e]at this;exact this
     | some m=>rw[e]at this;exact this
   . intro x hx v ev G' s5 R k
     have:v=V.str x:=by
       split at ev
       . exact(Option.some.inj ev).symm
       . cases ev
     subst this
     exact⟨_,rfl,k G' λ_ _ h=>h⟩
   . intro G5 s5 hG5
     rw[<-Yr (λy=>(nf y).isNone)]at hG5
     have s25:=s2.trans s5
     refine⟨_,rfl,W,rfl,⟨_,.of hG5⟩,λU hU=>?_⟩
     have bl:((rs.map (·.1)).filter λy=>(nf y).isNone).length<=14:=Nat.le_trans (List.length_filter_le _ _) (by rw[List.length_map];exact le14)
     refine Yw (K:=K) (a:=W) (xs:=(rs.map (·.1)).filter λy=>(nf y).isNone) (enc:=V.str) (out:=λy=>if Zz rs nf y n=true then some (V.str y) else none) (rest:=[some (.ref g),some (.ref d),some (.int (n:Nat))]) hU hG5 (qk (by omega)) ?_ ?_ ?_
     . intro x hx G' s6 R k
       have sA:=s25.trans s6
       refine⟨_,rfl,_,rfl,_,rfl,_,rfl,g,d,rs,x,nf,n,rfl,gr.mono sA,good,le14,(List.mem_filter.mp hx).1,hd.mono sA,λH7 s7=>⟨_,rfl,?_⟩⟩
       have:=k H7 s7
       cases e:Zz rs nf x n with
       | true=>rw[e]at this;exact this
       | false=>rw[e]at this;exact this
     . intro x hx v ev G' s6 R k
       have:v=V.str x:=by
         split at ev
         . exact(Option.some.inj ev).symm
         . cases ev
       subst this
       exact⟨_,rfl,k G' λ_ _ h=>h⟩
     . intro G6 s6 hG6
       rw[<-Yr (λy=>Zz rs nf y n)]at hG6
       exact q G6 U (s25.trans s6) (jt s25 hU) hG6
abbrev RE:List Str:=["ground","numbered","number","rounds","names","name"]
theorem zL:qu RE QH (qm Wv):=⟨rfl,rfl,rfl,by decide+kernel,rfl,by decide+kernel,by decide+kernel⟩
theorem wD {f fB fL fG fR CG:Addr} {fd fdB fdL fdG fdR:FuncData} (F:j7 K "give_number" "give_number" Wv f fd) (B:Jr mg) (G:QK mg) (T:Jh K mg) (M:GM K mg CG) (hB:jG K mg "numbers_behind" uV xy fB fdB) (hL:jG K mg "lacking" Ql ["numbers"] fL fdL) (hG:jG K mg "gets_number" zV Ya fG fdG)
   (hR:jG K mg "round_of" ZK QH fR fdR):qv P w K mg base qV 6 f fd QH (kC CG):=by
 have GR:qv P w K mg base qV 5 fR fdR QH (V4 CG):=yj hR.fn B G T M hB hL hG
 refine F.okJ zL (λvs H Q E h=>?_) (λcdv A outer s H vs Q E hr h=>?_)
 . obtain⟨g,d,rs,R,n,rfl,_⟩:=h
   rfl
 . obtain⟨g,d,rs,R,n,rfl,gr,good,le14,hd,ap,q⟩:=h
   have hu:=jJ hr
   refine⟨_,qe (qx (i:=3) zL.nd rfl (Or.inl rfl) (QS qf))
     (qe (qx (i:=4) zL.nd rfl (Or.inl rfl) (qY hR GR hr (by rfl) (qb (jv 0) (qb (jv 1) (qb (jv 2) qf)))))
     (qe (Zu PassesOwn.never (qr YW (qC jf (by rfl) B.len boot_len (qb (jv 4) qf)) qj (qz _))
       (qe (qW PassesOwn.never rfl (qL (jv 4)) (ql (i:=5) zL.nd rfl (Or.inl rfl)) (qh (qS hu (jv 1) (jv 5) (jv 2) rfl)))
       (qe (jT (WN PySem.F.plainAttrs_list PySem.F.slot_list_append PySem.F.type_list_append JR (jv 3) (qb (jv 4) qf)))
       (qh (qx (i:=4) zL.nd rfl (Or.inl rfl) (qY hR GR hr (by rfl) (qb (jv 0) (qb (jv 1) (qb (jv 2) qf)))))))))
     (qh (qB (jv 3))))),?_⟩
   refine⟨by show 0<=sizeLine;decide,λlr hlr=>?_⟩
   have sr:qo H (upd H lr (.lst [])):=qg hlr
   refine⟨_,rfl,_,rfl,_,rfl,g,d,rs,qD R,n,rfl,gr.mono sr,good,le14,hd.mono sr,λH1 l1 s1 hl1 hl1'=>?_⟩
   obtain⟨kv0,hd0⟩:=hd.isd
   have nrd:lr≠d:=λe=>by rw[e,hd0]at hlr;cases hlr
   refine Zg (λσ H'=>∃(v5:Option V) (l:Addr) (ps:List Addr) (ls:List (List Str)),σ=[some (.ref g),some (.ref d),some (.int (n:Nat)),some (.ref lr),some (.ref l),v5]/\Fr H d H'/\H' lr=some (.lst (ps.map V.ref))/\jh H' ps ls/\
       qO (rs.map (·.1)) H' d (qD (R++ls.map λx=>(n,x)))/\H' l=some (.lst ((kN rs (qD (R++ls.map λx=>(n,x))) n).map V.str))/\(∀R',Qr (QW rs) (rs.map (·.1)) n (R++ls.map λx=>(n,x)) R'->Qr (QW rs) (rs.map (·.1)) n R R')/\l≠lr/\(∀p∈ps,p≠lr)/\H l=none/\(∀p∈ps,H p=none)/\ls.length+QO rs (qD (R++ls.map λx=>(n,x)))<=14)
     (λ_ H'=>Jo (rs.map (·.1)) H' d)
     ⟨none,l1,[],[],rfl,λb u hb _=>s1 _ _ (sr _ _ hb),s1 _ _ qd,.nil,?_,?_,?_,(λe=>by rw[e,qd]at hl1;cases hl1),λp h=>(nomatch h),jt sr hl1,λp h=>(nomatch h),?_⟩ ?_ ?_
   . have:=(hd.mono sr).mono s1
     simpa using this
   . simpa using hl1'
   . intro R' h
     simpa using h
   . show 0+_<=14
     rw[Nat.zero_add]
     refine Nat.le_trans (List.length_filter_le _ _) ?_
     rw[List.length_map]
     exact le14
   . rintro σ H' ⟨v5,l,ps,ls,rfl,fr,hlr',rnds,num,hl,gv,nl,np,l0,p0,bd⟩
     have grH:Qq CG H' g rs:=gr.fr ⟨kv0,hd0⟩ ap fr
     obtain⟨kv1,hd1⟩:=num.isd
     generalize hR1:R++ls.map (λx=>(n,x))=R1 at*
     refine⟨_,rfl,l,_,rfl,.inl (.of hl),_,_,rfl,rfl,_,rfl,?_⟩
     rw[List.length_map]
     generalize hns:kN rs (qD R1) n=ns at*
     have rnd:X5 (QW rs) (rs.map (·.1)) R1 n ns:=hns▸wk rs R1 n
     have nsN:∀z∈ns,z∈rs.map (·.1)/\qD R1 z=none:=λz hz=>let ⟨a,b,_⟩:=(rnd.iff z).mp hz;⟨a,b⟩
     have nsnd:ns.Nodup:=by
       rw[<-hns]
       exact good.nd.sublist (List.filter_sublist.trans List.filter_sublist)
     have nslen:ns.length<=14:=by
       have:=QB nsnd λz hz=>(nsN z hz).1
       rw[List.length_map]at this
       omega
     cases c:ns with
     | nil=>
       subst c
       refine Ja (by decide) ?_
       refine⟨_,rfl,?_⟩
       have:=gv R1 (.stop rnd)
       rw[<-hR1]at this num
       exact q H' lr ps ls hlr hlr' rnds p0 num this fr
     | cons z0 rest=>
       have ne:ns≠[]:=by rw[c];simp
       rw[<-c]
       clear c
       refine Q9 (decide_eq_true (by have:=List.length_pos_iff.mpr ne;show (0:Int) < (ns.length:Int);omega)) ?_
       have nld:l≠d:=λe=>by rw[e,hd1]at hl;cases hl
       refine⟨_,rfl,l,rfl,⟨_,.of hl⟩,?_⟩
       refine jo (K:=K) (a:=l) (xs:=ns.map V.str) (λi σ' G'=>∃v5,σ'=[some (.ref g),some (.ref d),some (.int (n:Nat)),some (.ref lr),some (.ref l),v5]/\qO (rs.map (·.1)) G' d (ze (qD R1) n (ns.take i))/\Fr H' d G')
         ⟨v5,rfl,num.congr λz=>by unfold ze;rw[List.take_zero,if_neg (by simp)],Fr.refl⟩ (λi σ' G' _ ⟨_,_,_,f⟩=>.of (f _ _ hl nld)) ?_ ?_
       . rintro i y σ' G' hy ⟨v5',rfl,numG,frG⟩
         obtain⟨z,ez,hz,rfl⟩:=zm hy
         have il:=(List.getElem?_eq_some_iff.mp ez).1
         have nt:z∉ns.take i:=λm=>by
           obtain⟨j,hj⟩:=List.getElem?_of_mem m
           rw[List.getElem?_take]at hj
           split at hj
           . have h1:=(List.getElem?_eq_some_iff.mp hj)
             have h2:=(List.getElem?_eq_some_iff.mp ez)
             have:=yy nsnd (h1.2.trans h2.2.symm)
             omega
           . cases hj
         obtain⟨H2,put,num2,o2,e2⟩:=numG.put (n:=n) (nsN z hz).1 (by unfold ze;rw[if_neg nt];exact(nsN z hz).2) (by rw[List.length_map];exact le14)
         refine⟨_,rfl,_,rfl,_,rfl,d,H2,rfl,put,_,rfl,num2.congr λy=>?_,?_⟩
         . unfold ze
           rw[List.take_add_one,ez]
           by_cases e:y=z
           . subst e;rw[if_pos rfl,if_pos (by simp)]
           . rw[if_neg e]
             by_cases m:y∈ns.take i
             . rw[if_pos m,if_pos (List.mem_append_left _ m)]
             . rw[if_neg m,if_neg (by simp [m,e])]
         . rw[e2]
           exact frG.at_d
       . rintro σ' G' ⟨v5',rfl,numG,frG⟩
         rw[List.length_map,List.take_of_length_le (Nat.le_refl _)]at numG
         have numG:=numG.congr (y8 λz hz=>(nsN z hz).2)
         have lrG:=frG _ _ hlr' nrd
         have lG:=frG _ _ hl nld
         have rG:=rnds.fr hd1 frG
         have fr2:=fr.trans frG
         have blt:=XZ (n:=n) nsN ne
         refine⟨_,rfl,.inl ⟨rfl,_,.of lrG⟩,_,rfl,lr,_,_,rfl,rfl,lrG,by rw[List.length_map,rnds.1];exact qk (by omega),?_⟩
         have e5:ps.map V.ref++[V.ref l]=(ps++[l]).map V.ref:=by rw[List.map_append];rfl
         rw[e5]
         have fr3:Fr H d (upd G' lr (.lst ((ps++[l]).map V.ref))):=fr2.own hlr
         have r3:jh (upd G' lr (.lst ((ps++[l]).map V.ref))) (ps++[l]) (ls++[ns]):=by
           refine jh.snoc ⟨rG.1,λi p x e1 e2=>?_⟩ (by rw[qi nl];exact lG)
           rw[qi (np p (List.mem_of_getElem? e1))]
           exact rG.2 i p x e1 e2
         have lr3:upd G' lr (.lst ((ps++[l]).map V.ref)) lr=some (.lst ((ps++[l]).map V.ref)):=qd
         have num3:qO (rs.map (·.1)) (upd G' lr (.lst ((ps++[l]).map V.ref))) d (qD (R1++[(n,ns)])):=⟨let ⟨kvs,a,b⟩:=numG.at_;⟨kvs,by rw[qi (Ne.symm nrd)];exact a,b⟩⟩
         generalize upd G' lr (.lst ((ps++[l]).map V.ref))=G3 at fr3 r3 lr3 num3 ⊢
         refine⟨_,rfl,_,rfl,_,rfl,g,d,rs,qD (R1++[(n,ns)]),n,rfl,gr.fr ⟨kv0,hd0⟩ ap fr3,good,le14,num3,λH4 l4 s4 hl4 hl4'=>?_⟩
         have eR:R++(ls++[ns]).map (λx=>(n,x))=R1++[(n,ns)]:=by rw[wj,hR1]
         refine⟨⟨v5',l4,ps++[l],ls++[ns],rfl,fr3.same s4,s4 _ _ lr3,r3.mono s4,?_,?_,?_,(λe=>by rw[e,lr3]at hl4;cases hl4),?_,?_,?_,?_⟩,?_⟩
         . rw[eR];exact num3.mono s4
         . rw[eR];exact hl4'
         . rw[eR];exact λR' h=>gv R' (.more rnd ne h)
         . intro p hp
           rcases List.mem_append.mp hp with hp | hp
           . exact np p hp
           . rw[List.mem_singleton.mp hp];exact nl
         . obtain⟨kv3,hd3⟩:=num3.isd
           exact fr3.fresh hd3 hl4
         . intro p hp
           rcases List.mem_append.mp hp with hp | hp
           . exact p0 p hp
           . rw[List.mem_singleton.mp hp];exact l0
         . rw[eR,List.length_append,List.length_singleton]
           omega
         . rw[(num3.mono s4).bare,num.bare]
           exact blt
   . rintro σ H' Q Q' h ⟨v,e,p,ys,e2,h1,i,j,e3,e4,b,e5,h2⟩
     exact⟨v,e,p,ys,e2,h1,i,j,e3,e4,b,e5,h _ _ h2⟩
end
end Rh
set_option Elab.async false
set_option linter.all false
set_option maxRecDepth 100000
set_option maxHeartbeats 4000000
namespace Rh
open PySem L2 PyProof.Rows MLab
theorem y6 {G:Str->List Str} {N:List Str} {n:Nat} {R R':Rs Str} (h:Qr G N n R R'):(R'=R/\X5 G N R n [])\/R.length < R'.length:=by
 induction h with
 | stop r=>exact .inl ⟨rfl,r⟩
 | more r ne k ih=>
   right
   rcases ih with ⟨e,_⟩ | lt
   . rw[e,List.length_append];exact Nat.lt_succ_self _
   . rw[List.length_append]at lt
     exact Nat.lt_of_succ_lt lt
theorem vO {G:Str->List Str} {N:List Str} {n:Nat} {R:Rs Str} (h:Qr G N n R R):X5 G N R n []:=by
 rcases y6 h with ⟨_,r⟩ | lt
 . exact r
 . exact absurd lt (Nat.lt_irrefl _)
structure UU (N:List Str) (R:Rs Str):Prop where
 sub:∀r∈R,∀z∈r.2,z∈N
 dis:R.Pairwise λr r'=>∀z∈r.2,z∉r'.2
 ne:∀r∈R,r.2≠[]
 srt:∀r∈R,r.2.Sublist N
theorem UU.nil {N:List Str}:UU N []:=⟨λ_ h=>(nomatch h),List.Pairwise.nil,λ_ h=>(nomatch h),λ_ h=>(nomatch h)⟩
theorem UU.more {G:Str->List Str} {N:List Str} {R:Rs Str} {n:Nat} {ns:List Str} (o:UU N R) (r:X5 G N R n ns) (ne:ns≠[]):UU N (R++[(n,ns)]):=by
 refine⟨λx hx z hz=>?_,List.pairwise_append.mpr ⟨o.dis,List.pairwise_singleton _ _,λa ha b hb z hz hb'=>?_⟩,λx hx=>?_,λx hx=>?_⟩
 . rcases List.mem_append.mp hx with hx | hx
   . exact o.sub x hx z hz
   . rw[List.mem_singleton.mp hx]at hz
     exact((r.iff z).mp hz).1
 . rw[List.mem_singleton.mp hb]at hb'
   exact zD.mp ((r.iff z).mp hb').2.1 a ha hz
 . rcases List.mem_append.mp hx with hx | hx
   . exact o.ne x hx
   . rw[List.mem_singleton.mp hx];exact ne
 . rcases List.mem_append.mp hx with hx | hx
   . exact o.srt x hx
   . rw[List.mem_singleton.mp hx];exact r.sub
theorem WO {G:Str->List Str} {N:List Str} {n:Nat} {R R':Rs Str} (h:Qr G N n R R'):UU N R->UU N R':=by
 induction h with
 | stop r=>exact id
 | more r ne k ih=>exact λo=>ih (o.more r ne)
theorem uz {G:Str->List Str} {N:List Str} {n:Nat} {R R':Rs Str} (h:All G N n R R'):UU N R->UU N R':=by
 induction h with
 | stop r=>exact id
 | more g ne k ih=>exact λo=>ih (WO g o)
theorem vP {rs:jk} {n:Nat} {R R':Rs Str} (h:Qr (QW rs) (rs.map (·.1)) n R R'):QO rs (qD R')<=QO rs (qD R)/\(R'≠R->QO rs (qD R') < QO rs (qD R)):=by
 induction h with
 | stop r=>exact⟨Nat.le_refl _,λe=>absurd rfl e⟩
 | more r ne k ih=>
   have:=XZ (λz hz=>let ⟨a,b,_⟩:=(r.iff z).mp hz;⟨a,b⟩) ne (n:=n) (rs:=rs)
   exact⟨by omega,λ_=>by omega⟩
theorem Ur {N:List Str}:∀{R:Rs Str},UU N R->R.length<=N.length:=λ{R} o=>by
 have key:∀R:Rs Str,(R.Pairwise λr r'=>∀z∈r.2,z∉r'.2)->(∀r∈R,r.2≠[])->∃zs:List Str,zs.length=R.length/\zs.Nodup/\∀z∈zs,∃r∈R,z∈r.2:=by
   intro R
   induction R with
   | nil=>exact λ_ _=>⟨[],rfl,List.nodup_nil,λz h=>(nomatch h)⟩
   | cons r R ih=>
     intro p ne
     obtain⟨zs,l,nd,sub⟩:=ih (List.pairwise_cons.mp p).2 (λx hx=>ne x (List.mem_cons_of_mem _ hx))
     obtain⟨z,t,e⟩:=List.exists_cons_of_ne_nil (ne r List.mem_cons_self)
     have hz:z∈r.2:=by rw[e];exact List.mem_cons_self
     refine⟨z::zs,by simp [l],List.nodup_cons.mpr ⟨λm=>?_,nd⟩,λy hy=>?_⟩
     . obtain⟨r',hr',hz'⟩:=sub z m
       exact(List.pairwise_cons.mp p).1 r' hr' z hz hz'
     . rcases List.mem_cons.mp hy with rfl | hy
       . exact⟨r,List.mem_cons_self,hz⟩
       . obtain⟨r',hr',h⟩:=sub y hy
         exact⟨r',List.mem_cons_of_mem _ hr',h⟩
 obtain⟨zs,l,nd,sub⟩:=key R o.dis o.ne
 rw[<-l]
 exact QB nd λz hz=>let ⟨r,hr,h⟩:=sub z hz;o.sub r hr z h
def Ua (CG:Addr):Sp:=λvs H Q _=>∃(g d:Addr) (rs:jk),vs=[.ref g,.ref d]/\Qq CG H g rs/\qt rs/\rs.length<=14/\qO (rs.map (·.1)) H d (qD [])/\W6 CG H g d/\
 ∀H' l ps R,H l=none->H' l=some (.lst (ps.map V.ref))->jh H' ps (R.map (·.2))->(∀p∈ps,H p=none)->qO (rs.map (·.1)) H' d (qD R)->All (QW rs) (rs.map (·.1)) 0 [] R->Fr H d H'->Q (.ref l) H'
section
variable {P:Program} {w:World} {K:PySem.W.Frag} {mg:Str->Option Value} {base:Heap}
abbrev KJ:List Str:=["ground","numbered","rounds","number","more"]
abbrev XH:List Str:=["ground","numbered"]
theorem JN:qu KJ XH (qm XB):=⟨rfl,rfl,rfl,by decide+kernel,rfl,by decide+kernel,by decide+kernel⟩
theorem yu {f fB fL fG fR fV CG:Addr} {fd fdB fdL fdG fdR fdV:FuncData} (F:j7 K "give_numbers" "give_numbers" XB f fd) (B:Jr mg) (G:QK mg) (T:Jh K mg) (M:GM K mg CG) (hB:jG K mg "numbers_behind" uV xy fB fdB) (hL:jG K mg "lacking" Ql ["numbers"] fL fdL) (hG:jG K mg "gets_number" zV Ya fG fdG)
   (hR:jG K mg "round_of" ZK QH fR fdR) (hV:jG K mg "give_number" Wv QH fV fdV):qv P w K mg base qV 7 f fd XH (Ua CG):=by
 have GV:qv P w K mg base qV 6 fV fdV QH (kC CG):=wD hV.fn B G T M hB hL hG hR
 refine F.okJ JN (λvs H Q E h=>?_) (λcdv A outer s H vs Q E hr h=>?_)
 . obtain⟨g,d,rs,rfl,_⟩:=h
   rfl
 . obtain⟨g,d,rs,rfl,gr,good,le14,hd,ap,q⟩:=h
   have hu:=jJ hr
   refine⟨_,qe (qx (i:=2) JN.nd rfl (Or.inl rfl) (QS qf))
     (qe (qx (i:=3) JN.nd rfl (Or.inl rfl) qj)
     (qe (qx (i:=4) JN.nd rfl (Or.inl rfl) (qY hV GV hr (by rfl) (qb (jv 0) (qb (jv 1) (qb (jv 3) qf)))))
     (qe (Zu PassesOwn.never (qr YW (qC jf (by rfl) B.len boot_len (qb (jv 4) qf)) qj (qz _))
       (qe (jT (WN PySem.F.plainAttrs_list PySem.F.slot_list_extend PySem.F.type_list_extend vt (jv 2) (qb (jv 4) qf)))
       (qe (yN (i:=3) JN.nd rfl (Or.inl rfl) qj yU)
       (qh (qx (i:=4) JN.nd rfl (Or.inl rfl) (qY hV GV hr (by rfl) (qb (jv 0) (qb (jv 1) (qb (jv 3) qf)))))))))
     (qh (qB (jv 2)))))),?_⟩
   refine⟨by show 0<=sizeLine;decide,λlr hlr=>?_⟩
   have sr:qo H (upd H lr (.lst [])):=qg hlr
   obtain⟨kv0,hd0⟩:=hd.isd
   have nrd:lr≠d:=λe=>by rw[e,hd0]at hlr;cases hlr
   have apm:∀{H':Hp},Fr H d H'->W6 CG H' g d:=λfr dx lo rd h=>by
     obtain⟨dx',lo',rd',kvs',h1,_⟩:=gr
     have:=fr _ _ h1 (λe=>by rw[e,hd0]at h1;cases h1)
     rw[h]at this
     cases this
     exact ap _ _ _ h1
   have fr0:Fr H d (upd H lr (.lst [])):=Fr.refl.own hlr
   refine⟨_,rfl,_,rfl,_,rfl,g,d,rs,[],0,rfl,gr.mono sr,good,le14,hd.mono sr,apm fr0,λH1 l1 ps1 ls1 hl1 hl1' rn1 pn1 num1 gv1 fr1=>?_⟩
   refine Zg (λσ H'=>∃(l:Addr) (n:Nat) (ps ps1:List Addr) (R:Rs Str) (ls:List (List Str)),σ=[some (.ref g),some (.ref d),some (.ref lr),some (.int (n:Nat)),some (.ref l)]/\Fr H d H'/\H' lr=some (.lst (ps.map V.ref))/\jh H' ps (R.map (·.2))/\H' l=some (.lst (ps1.map V.ref))/\jh H' ps1 ls/\
       qO (rs.map (·.1)) H' d (qD (R++ls.map λx=>(n,x)))/\Qr (QW rs) (rs.map (·.1)) n R (R++ls.map λx=>(n,x))/\(∀R',All (QW rs) (rs.map (·.1)) n R R'->All (QW rs) (rs.map (·.1)) 0 [] R')/\l≠lr/\(∀p∈ps,p≠lr/\H p=none)/\(∀p∈ps1,p≠lr/\H p=none)/\UU (rs.map (·.1)) R)
     (λσ H'=>Jo (rs.map (·.1)) H' d*2+(match σ with | [_,_,_,_,some (.ref l)]=>(match H' l with | some (.lst (_::_))=>1 | _=>0) | _=>0))
     ⟨l1,0,[],ps1,[],ls1,rfl,fr0.trans fr1,fr1 _ _ qd nrd,.nil,hl1',rn1,num1,gv1,λR' h=>h,(λe=>by rw[e,qd]at hl1;cases hl1),λp h=>(nomatch h),?_,.nil⟩ ?_ ?_
   . intro p hp
     have h1:=pn1 p hp
     have h2:p≠lr:=λe=>by rw[e,qd]at h1;cases h1
     exact⟨h2,by rw[qi h2]at h1;exact h1⟩
   . rintro σ H' ⟨l,n,ps,ps1,R,ls,rfl,fr,hlr',rnds,hl,rn,num,gv,al,nl,np,np1,od⟩
     obtain⟨kv1,hd1⟩:=num.isd
     have od':=WO gv od
     have ol:=Ur od'
     rw[List.length_append,List.length_map,List.length_map]at ol
     refine⟨_,rfl,l,_,rfl,.inl (.of hl),_,_,rfl,rfl,_,rfl,?_⟩
     rw[List.length_map]
     cases c:ls with
     | nil=>
       subst c
       have e0:ps1=[]:=List.eq_nil_of_length_eq_zero rn.1
       subst e0
       rw[List.map_nil,List.append_nil]at gv num
       refine Ja (by decide) ⟨_,rfl,?_⟩
       exact q H' lr ps R hlr hlr' rnds (λp hp=>(np p hp).2) num (al R (.stop (vO gv))) fr
     | cons x0 rest=>
       have ne:ls≠[]:=by rw[c];simp
       clear c
       have lp:ps1.length=ls.length:=rn.1
       have pos:=List.length_pos_iff.mpr ne
       refine Q9 (decide_eq_true (by show (0:Int) < (ps1.length:Int);omega)) ?_
       refine⟨_,rfl,.inl ⟨rfl,_,.of hlr'⟩,_,rfl,lr,l,_,_,rfl,rfl,hlr',hl,?_,?_⟩
       . rw[List.length_map,List.length_map,rnds.1,List.length_map,lp]
         exact Nat.le_of_lt (qk (by omega))
       . have e5:ps.map V.ref++ps1.map V.ref=(ps++ps1).map V.ref:=by rw[List.map_append]
         rw[e5]
         have fr3:Fr H d (upd H' lr (.lst ((ps++ps1).map V.ref))):=fr.own hlr
         have lr3:upd H' lr (.lst ((ps++ps1).map V.ref)) lr=some (.lst ((ps++ps1).map V.ref)):=qd
         have r3:jh (upd H' lr (.lst ((ps++ps1).map V.ref))) (ps++ps1) ((R++ls.map λx=>(n,x)).map (·.2)):=by
           have ee:(R++ls.map λx=>(n,x)).map (·.2)=R.map (·.2)++ls:=by
             rw[List.map_append,List.map_map]
             congr 1
             exact List.map_id ls
           rw[ee]
           refine jh.app ⟨rnds.1,λi p x e1 e2=>?_⟩ ⟨rn.1,λi p x e1 e2=>?_⟩
           . rw[qi (np p (List.mem_of_getElem? e1)).1]
             exact rnds.2 i p x e1 e2
           . rw[qi (np1 p (List.mem_of_getElem? e1)).1]
             exact rn.2 i p x e1 e2
         have num3:qO (rs.map (·.1)) (upd H' lr (.lst ((ps++ps1).map V.ref))) d (qD (R++ls.map λx=>(n,x))):=⟨let ⟨kvs,a,b⟩:=num.at_;⟨kvs,by rw[qi (Ne.symm nrd)];exact a,b⟩⟩
         have neR:R++ls.map (λx=>(n,x))≠R:=λe=>by
           have:=congrArg List.length e
           rw[List.length_append,List.length_map]at this
           omega
         generalize R++ls.map (λx=>(n,x))=R1 at*
         generalize upd H' lr (.lst ((ps++ps1).map V.ref))=G3 at fr3 r3 lr3 num3 ⊢
         obtain⟨kv3,hd3⟩:=num3.isd
         refine⟨_,rfl,_,_,rfl,rfl,?_⟩
         refine⟨_,rfl,_,rfl,_,rfl,g,d,rs,R1,n+1,rfl,gr.fr ⟨kv0,hd0⟩ ap fr3,good,le14,num3,apm fr3,λH4 l4 ps4 ls4 hl4 hl4' rn4 pn4 num4 gv4 fr4=>?_⟩
         refine⟨⟨l4,n+1,ps++ps1,ps4,R1,ls4,rfl,fr3.trans fr4,fr4 _ _ lr3 nrd,r3.fr hd3 fr4,hl4',rn4,num4,gv4,λR' h=>al R' (.more gv neR h),(λe=>by rw[e,lr3]at hl4;cases hl4),?_,?_,od'⟩,?_⟩
         . intro p hp
           rcases List.mem_append.mp hp with hp | hp
           . exact np p hp
           . exact np1 p hp
         . intro p hp
           have h1:=pn4 p hp
           refine⟨(λe=>by rw[e,lr3]at h1;cases h1),?_⟩
           cases h2:H p with
           | none=>rfl
           | some u=>
             by_cases c:p=d
             . rw[c,hd3]at h1;cases h1
             . rw[fr3 _ _ h2 c]at h1;cases h1
         . show Jo (rs.map (·.1)) H4 d*2+(match H4 l4 with | some (.lst (_::_))=>1 | _=>0) < Jo (rs.map (·.1)) H' d*2+(match H' l with | some (.lst (_::_))=>1 | _=>0)
           have gb:=vP gv4
           rw[num4.bare,num.bare,hl4',hl]
           obtain⟨p1,t1,e1⟩:=List.exists_cons_of_length_pos (by omega:0 < ps1.length)
           rw[e1]
           show _ < QO rs (qD R1)*2+1
           cases ls4 with
           | nil=>
             have e0:ps4=[]:=List.eq_nil_of_length_eq_zero rn4.1
             rw[e0]
             show _+0 < _
             have:=gb.1
             omega
           | cons x4 t4=>
             have:=gb.2 λe=>by
               have:=congrArg List.length e
               rw[List.length_append,List.length_map]at this
               simp at this
             have le1:(match (some (HO.lst (ps4.map V.ref)):Option HO) with | some (.lst (_::_))=>1 | _=>0)<=1:=by split<;>omega
             omega
   . rintro σ H' Q Q' h ⟨v,e,p,ys,e2,h1,i,j,e3,e4,b,e5,h2⟩
     exact⟨v,e,p,ys,e2,h1,i,j,e3,e4,b,e5,h _ _ h2⟩
end
end Rh
set_option Elab.async false
set_option linter.all false
set_option maxRecDepth 100000
set_option maxHeartbeats 4000000
namespace Rh
open PySem L2 PyProof.Rows MLab
def YC (R:Rs Str) (i:Nat):Str->Option Nat:=λz=>(qD (R.take i) z).map λ_=>J0 R z
theorem Vj {N:List Str} {R:Rs Str} (o:UU N R) {i:Nat} {r:Nat×List Str} {z:Str} (hr:R[i]?=some r) (hz:z∈r.2):J0 R z=i:=by
 obtain⟨hi,er⟩:=List.getElem?_eq_some_iff.mp hr
 unfold J0
 rw[List.findIdx_eq hi]
 refine⟨by rw[er];exact decide_eq_true hz,λj hj=>decide_eq_false λm=>?_⟩
 have:=List.pairwise_iff_getElem.mp o.dis j i (by omega) hi hj z m
 rw[er]at this
 exact this hz
theorem Wo {N:List Str} {R:Rs Str} (o:UU N R) {i:Nat} {r:Nat×List Str} {z:Str} (hr:R[i]?=some r) (hz:z∈r.2):YC R i z=none:=by
 unfold YC
 have:qD (R.take i) z=none:=zD.mpr λx hx m=>by
   obtain⟨j,hj⟩:=List.getElem?_of_mem hx
   rw[List.getElem?_take]at hj
   split at hj
   . have h1:=Vj o hj m
     have h2:=Vj o hr hz
     omega
   . cases hj
 rw[this]
 rfl
theorem U4 {N:List Str} {R:Rs Str} (o:UU N R) {i:Nat} {r:Nat×List Str} (hr:R[i]?=some r) (z:Str):ze (YC R i) i r.2 z=YC R (i+1) z:=by
 unfold ze
 by_cases c:z∈r.2
 . rw[if_pos c]
   have n:=Wo o hr c
   unfold YC at n ⊢
   have n':qD (R.take i) z=none:=by
     cases e:qD (R.take i) z with
     | none=>rfl
     | some m=>rw[e]at n;cases n
   rw[List.take_add_one,hr]
   show _=(qD (R.take i++[(r.1,r.2)]) z).map _
   rw[xc n' c,Vj o hr c]
   rfl
 . rw[if_neg c]
   unfold YC
   rw[List.take_add_one,hr]
   show _=(qD (R.take i++[(r.1,r.2)]) z).map _
   rw[Qp]
   cases qD (R.take i) z with
   | some m=>rfl
   | none=>
     show _=Option.map _ (if z∈r.2 then some r.1 else none)
     rw[if_neg c]
theorem ky (R:Rs Str) (z:Str):YC R R.length z=(qD R z).map λ_=>J0 R z:=by
 unfold YC
 rw[List.take_of_length_le (Nat.le_refl _)]
def Zt (rs:jk) (R:Rs Str) (z:Str):List V:=match qD R z with
 | some n=>[.str "number",.int (n:Nat),.int (J0 R z:Nat)]
 | none=>[.str "endless",.int (Rb.setN (YG rs (qD R) z):Nat)]
structure X6 (H:Hp) (D:Addr) (rs:jk) (R:Rs Str):Prop where
 at_:∃kvs:List (qA×V),H D=some (.dK kvs)/\kvs.map (·.1)=(rs.map (·.1)).map Sum.inr/\∀r∈rs,∃t,qM kvs (Sum.inr r.1:qA)=some (.ref t)/\H t=some (.tup (Zt rs R r.1))
theorem X6.mono {H H':Hp} {D:Addr} {rs:jk} {R:Rs Str} (h:X6 H D rs R) (s:qo H H'):X6 H' D rs R:=⟨let ⟨kvs,a,b,c⟩:=h.at_;⟨kvs,s _ _ a,b,λr hr=>let ⟨t,u,v⟩:=c r hr;⟨t,u,s _ _ v⟩⟩⟩
theorem VY:∀(n:Nat) (L:List Nat),(∀m,m<=n->m∈L)->n*(n+1)<=2*L.sum
 | 0,_,_=>by simp
 | n+1,L,h=>by
   have hm:=h (n+1) (Nat.le_refl _)
   have ih:=VY n (L.erase (n+1)) λm hm'=>(List.mem_erase_of_ne (by omega)).mpr (h m (by omega))
   have es:L.sum=(n+1)+(L.erase (n+1)).sum:=by
     have:=(List.perm_cons_erase hm).sum_nat
     rw[this,List.sum_cons]
   rw[es]
   have:(n+1)*(n+1+1)=n*(n+1)+2*(n+1):=by
     rw[Nat.mul_comm,<-Nat.add_mul]
   omega
theorem Wn {α:Type} {f g:α->Nat}:∀{l:List α},(∀x∈l,f x<=g x)->(l.map f).sum<=(l.map g).sum
 | [],_=>Nat.le_refl _
 | a::l,h=>by
   rw[List.map_cons,List.map_cons,List.sum_cons,List.sum_cons]
   have:=h a List.mem_cons_self
   have:=Wn (l:=l) λx hx=>h x (List.mem_cons_of_mem _ hx)
   omega
theorem K6 {rs:jk} (hn:(rs.map (·.1)).Nodup) (z:Str):(QW rs z).Nodup:=by
 unfold QW
 split
 . exact hn.sublist List.filter_sublist
 . exact List.nodup_nil
theorem Yc {rs:jk} (good:qt rs) {num:Str->Option Nat} {stp:Str->Nat} (L:ZG (QW rs) (·∈rs.map (·.1)) num stp) {x:Str} {n:Nat} (hx:x∈rs.map (·.1)) (e:num x=some n):n<=8:=by
 have h1:∀m,m<=n->m∈rs.map λr=>(num r.1).getD 0:=λm hm=>by
   rcases Nat.lt_or_ge m n with c | c
   . obtain⟨y,hy,ey,_⟩:=L.n1 hx e c
     obtain⟨r,hr,rfl⟩:=List.mem_map.mp (L.cl hx hy)
     exact List.mem_map.mpr ⟨r,hr,by rw[ey];rfl⟩
   . have:m=n:=by omega
     subst this
     obtain⟨r,hr,rfl⟩:=List.mem_map.mp hx
     exact List.mem_map.mpr ⟨r,hr,by rw[e];rfl⟩
 have h2:=VY n _ h1
 have h3:(rs.map λr=>(num r.1).getD 0).sum<=(rs.map λr=>r.2.length).sum:=Wn λr hr=>by
   cases c:num r.1 with
   | none=>exact Nat.zero_le _
   | some m=>
     show m<=_
     have hr':r.1∈rs.map (·.1):=List.mem_map.mpr ⟨r,hr,rfl⟩
     have:(List.range m).length<=((QW rs r.1).filterMap num).length:=QB List.nodup_range λj hj=>by
       obtain⟨y,hy,ey,_⟩:=L.n1 hr' c (List.mem_range.mp hj)
       exact List.mem_filterMap.mpr ⟨y,hy,ey⟩
     rw[List.length_range]at this
     have h4:=List.length_filterMap_le num (QW rs r.1)
     have h5:(QW rs r.1).length<=r.2.length:=QB (K6 good.nd _) λy hy=>(UE good hr).mp hy
     omega
 have h4:=good.few
 rcases Nat.lt_or_ge 8 n with c | c
 . have:9*10<=n*(n+1):=Nat.mul_le_mul c (by omega)
   omega
 . exact c
def Ws (CG:Addr):Sp:=λvs H Q _=>∃(g:Addr) (rs:jk),vs=[.ref g]/\Qq CG H g rs/\qt rs/\rs.length<=14/\
 ∀H' D R,qo H H'->H D=none->X6 H' D rs R->All (QW rs) (rs.map (·.1)) 0 [] R->Q (.ref D) H'
section
variable {P:Program} {w:World} {K:PySem.W.Frag} {mg:Str->Option Value} {base:Heap}
abbrev nLb:List Str:=["ground","numbered","steps","step","names","name","labels"]
theorem Wt:qu nLb ["ground"] (qm zr):=⟨rfl,rfl,rfl,by decide+kernel,rfl,by decide+kernel,by decide+kernel⟩
structure xx (K:PySem.W.Frag) (mg:Str->Option Value):Prop where
 lack:∃f fd,jG K mg "lacking" Ql ["numbers"] f fd
 seto:∃f fd,jG K mg "set_of" XA ["numbers"] f fd
 nb:∃f fd,jG K mg "numbers_behind" uV xy f fd
 gets:∃f fd,jG K mg "gets_number" zV Ya f fd
 round:∃f fd,jG K mg "round_of" ZK QH f fd
 give:∃f fd,jG K mg "give_number" Wv QH f fd
 gives:∃f fd,jG K mg "give_numbers" XB XH f fd
 labels:∃f fd,jG K mg "labels_of" zr ["ground"] f fd
theorem vp {f CG:Addr} {fd:FuncData} (F:j7 K "labels_of" "labels_of" zr f fd) (B:Jr mg) (G:QK mg) (T:Jh K mg) (M:GM K mg CG) (Y:xx K mg):qv P w K mg base qV 8 f fd ["ground"] (Ws CG):=by
 obtain⟨fL,fdL,hL⟩:=Y.lack
 obtain⟨fS,fdS,hS⟩:=Y.seto
 obtain⟨fB,fdB,hB⟩:=Y.nb
 obtain⟨fG,fdG,hG⟩:=Y.gets
 obtain⟨fR,fdR,hR⟩:=Y.round
 obtain⟨fV,fdV,hV⟩:=Y.give
 obtain⟨fW,fdW,hW⟩:=Y.gives
 have GW:qv P w K mg base qV 7 fW fdW XH (Ua CG):=yu hW.fn B G T M hB hL hG hR hV
 have GB:qv P w K mg base qV 3 fB fdB xy (xQ CG):=u0 hB.fn B G T M
 have GS:qv P w K mg base qV 1 fS fdS ["numbers"] (V3 K):=yi hS.fn
 obtain⟨fC,fdC,C⟩:=M.cls
 obtain⟨fM,fdM,hM⟩:=M.nm
 have GM:qv P w K mg base qV 1 fM fdM ["self"] (Ju CG):=JQ hM.fn C G
 refine F.okJ Wt (λvs H Q E h=>?_) (λcdv A outer s H vs Q E hr h=>?_)
 . obtain⟨g,rs,rfl,_⟩:=h
   rfl
 . obtain⟨g,rs,rfl,gr,good,le14,q⟩:=h
   have hu:=jJ hr
   have r1:jg 1 _:=hr.mono (by decide)
   have r3:jg 3 _:=hr.mono (by decide)
   refine⟨_,qe (qx (i:=1) Wt.nd rfl (Or.inl rfl) jw)
     (qe (qx (i:=2) Wt.nd rfl (Or.inl rfl) jw)
     (qe (qW PassesOwn.never rfl (UA (by rfl) T.enu (qb (qY hW GW hr (by rfl) (qb (jv 0) (qb (jv 1) qf))) qf)) (QJ rfl (qN (ql (i:=3) Wt.nd rfl (Or.inl rfl)) (qN (ql (i:=4) Wt.nd rfl (Or.inl rfl)) j2)))
       (qh (qW PassesOwn.never rfl (qL (jv 4)) (ql (i:=5) Wt.nd rfl (Or.inl rfl)) (qh (qS hu (jv 2) (jv 5) (jv 3) rfl)))))
     (qe (qx (i:=6) Wt.nd rfl (Or.inl rfl) jw)
     (qe (qW PassesOwn.never rfl (qL (Yk hM C.cl GM r1 (jv 0))) (ql (i:=5) Wt.nd rfl (Or.inl rfl))
       (qh (q5 (j1 (JF hu (jv 5) (jv 1)))
         (qh (qS hu (jv 6) (jv 5) (jl (qb qT (qb (qG hu (jv 1) (jv 5) (λ_ _=>rfl)) (qb (qG hu (jv 2) (jv 5) (λ_ _=>rfl)) qf)))) rfl))
         (qh (qS hu (jv 6) (jv 5) (jl (qb qT (qb (qY hS GS r1 (by rfl) (qb (qY hB GB r3 (by rfl) (qb (jv 0) (qb (jv 1) (qb (jv 5) qf)))) qf)) qf))) rfl)))))
     (qh (qB (jv 6))))))),?_⟩
   intro d hd st hst
   have s1:qo H (upd H d (.dK [])):=qg hd
   have s2:qo H (upd (upd H d (.dK [])) st (.dK [])):=s1.trans (qg hst)
   have hd2:upd (upd H d (.dK [])) st (.dK []) d=some (.dK []):=qp qd hst
   have hst2:upd (upd H d (.dK [])) st (.dK []) st=some (.dK []):=qd
   have nds:d≠st:=λe=>by rw[<-e,qd]at hst;cases hst
   have hs0:H st=none:=jt s1 hst
   generalize upd (upd H d (.dK [])) st (.dK [])=H2 at s2 hd2 hst2
   have num0:∀{a:Addr},H2 a=some (.dK [])->qO (rs.map (·.1)) H2 a (qD []):=λh=>⟨[],h,λz=>rfl,List.nodup_nil,λk h=>(nomatch h)⟩
   have ap:∀{H':Hp} {a:Addr},qo H H'->H a=none->W6 CG H' g a:=λsH ha dx lo rd h=>by
     obtain⟨dx',lo',rd',kvs',h1,_,h3,_⟩:=gr
     have:=sH _ _ h1
     rw[h]at this
     cases this
     exact λe=>by rw[e,ha]at h3;cases h3
   refine⟨_,rfl,_,rfl,g,d,rs,rfl,gr.mono s2,good,le14,num0 hd2,ap s2 hd,λH3 l3 ps R hl3 hl3' rnds _ num all fr3=>?_⟩
   have od:=uz all .nil
   have oL:=Ur od
   rw[List.length_map]at oL
   have s3:qo H H3:=λb u h=>fr3 b u (s2 _ _ h) (qw h hd)
   have st3:H3 st=some (.dK []):=fr3 _ _ hst2 (Ne.symm nds)
   obtain⟨kvd,hd3⟩:=num.isd
   have nl3:l3≠st:=λe=>by rw[e,hst2]at hl3;cases hl3
   have L:=yJ (QT good.nd) all
   refine⟨l3,rfl,⟨_,.of hl3'⟩,?_⟩
   refine WT (K:=K) (a:=l3) (xs:=ps.map V.ref) (λi σ' G'=>∃v3 v4 v5,σ'=[some (.ref g),some (.ref d),some (.ref st),v3,v4,v5,none]/\qO (rs.map (·.1)) G' st (YC R i)/\Fr H3 st G')
     ⟨none,none,none,rfl,⟨[],st3,λz=>rfl,List.nodup_nil,λk h=>(nomatch h)⟩,Fr.refl⟩ (λi σ' G' _ ⟨_,_,_,_,_,f⟩=>.of (f _ _ hl3' nl3)) ?_ ?_
   . rintro i x σ' G' p hx hp ⟨v3,v4,v5,rfl,YF,frS⟩
     rw[List.getElem?_map]at hx
     cases ep:ps[i]? with
     | none=>rw[ep]at hx;cases hx
     | some pi=>
       rw[ep]at hx
       obtain rfl:=(Option.some.inj hx).symm
       have li:i < R.length:=by
         have:=(List.getElem?_eq_some_iff.mp ep).1
         have:=rnds.1
         rw[List.length_map]at this
         omega
       obtain⟨r,er⟩:∃r,R[i]?=some r:=⟨_,List.getElem?_eq_getElem li⟩
       have hpi:=rnds.2 i pi r.2 ep (by rw[List.getElem?_map,er];rfl)
       have npi:pi≠st:=λe=>by rw[e,st3]at hpi;cases hpi
       have sp:qo G' (upd G' p (.tup [.int (i:Nat),V.ref pi])):=qg hp
       have frp:Fr H3 st (upd G' p (.tup [.int (i:Nat),V.ref pi])):=frS.same sp
       have rN:∀z∈r.2,z∈rs.map (·.1):=od.sub r (List.mem_of_getElem? er)
       refine⟨p,_,rfl,.of qd,rfl,_,_,rfl,_,_,rfl,rfl,?_⟩
       have hpp:∀{G2:Hp},Fr H3 st G2->G2 pi=some (.lst (r.2.map V.str)):=λf=>f _ _ hpi npi
       have num1:=YF.mono sp
       generalize upd G' p (.tup [.int (i:Nat),V.ref pi])=G1 at sp frp num1
       refine⟨_,rfl,pi,rfl,⟨_,.of (hpp frp)⟩,?_⟩
       have rnd:r.2.Nodup:=good.nd.sublist (od.srt r (List.mem_of_getElem? er))
       refine jo (K:=K) (a:=pi) (xs:=r.2.map V.str) (λj σ'' G2=>∃v5,σ''=[some (.ref g),some (.ref d),some (.ref st),some (.int (i:Nat)),some (.ref pi),v5,none]/\qO (rs.map (·.1)) G2 st (ze (YC R i) i (r.2.take j))/\Fr H3 st G2)
         ⟨v5,rfl,num1.congr λz=>by unfold ze;rw[List.take_zero,if_neg (by simp)],frp⟩ (λj σ'' G2 _ ⟨_,_,_,f⟩=>.of (hpp f)) ?_ ?_
       . rintro j y σ'' G2 hy ⟨v5',rfl,numG,frG⟩
         obtain⟨z,ez,hz,rfl⟩:=zm hy
         by_cases nt:z∈r.2.take j
         . exfalso
           obtain⟨j',hj⟩:=List.getElem?_of_mem nt
           rw[List.getElem?_take]at hj
           split at hj
           . have h1:=(List.getElem?_eq_some_iff.mp hj)
             have h2:=(List.getElem?_eq_some_iff.mp ez)
             have:=yy rnd (h1.2.trans h2.2.symm)
             omega
           . cases hj
         . obtain⟨H4,put,num4,o4,e4⟩:=numG.put (n:=i) (rN z hz) (by unfold ze;rw[if_neg nt];exact Wo od er hz) (by rw[List.length_map];exact le14)
           refine⟨_,rfl,_,rfl,_,rfl,st,H4,rfl,put,_,rfl,num4.congr λy=>?_,?_⟩
           . unfold ze
             rw[List.take_add_one,ez]
             by_cases e:y=z
             . subst e;rw[if_pos rfl,if_pos (by simp)]
             . rw[if_neg e]
               by_cases m:y∈r.2.take j
               . rw[if_pos m,if_pos (List.mem_append_left _ m)]
               . rw[if_neg m,if_neg (by simp [m,e])]
           . rw[e4]
             exact frG.at_d
       . rintro σ'' G2 ⟨v5',rfl,numG,frG⟩
         rw[List.length_map,List.take_of_length_le (Nat.le_refl _)]at numG
         exact⟨_,_,_,rfl,numG.congr (U4 od er),frG⟩
   . rintro σ' G' ⟨v3,v4,v5,rfl,YF,frS⟩
     rw[List.length_map,rnds.1,List.length_map]at YF
     have YF:=YF.congr (ky R)
     have sG:qo H G':=λb u h=>frS _ _ (s3 _ _ h) (qw h hs0)
     have numD:qO (rs.map (·.1)) G' d (qD R):=num.fr frS nds
     intro D hD
     have sD:qo G' (upd G' D (.dK [])):=qg hD
     have hD0:H D=none:=jt sG hD
     have hDD:upd G' D (.dK []) D=some (.dK []):=qd
     generalize upd G' D (.dK [])=G1 at sD hDD
     obtain⟨dx,fs,hg,l1,l2⟩:=((gr.mono sG).mono sD).ins
     refine⟨_,rfl,g,dx,fs,rfl,hg,l1,g,rs,rfl,(gr.mono sG).mono sD,λln hln=>⟨ln,rfl,⟨_,.of qd⟩,?_⟩⟩
     have sL:qo G1 (upd G1 ln (.lst ((rs.map (·.1)).map V.str))):=qg hln
     have hL2:upd G1 ln (.lst ((rs.map (·.1)).map V.str)) ln=some (.lst ((rs.map (·.1)).map V.str)):=qd
     have nDl:ln≠D:=λe=>by rw[e,hDD]at hln;cases hln
     generalize upd G1 ln (.lst ((rs.map (·.1)).map V.str))=G2 at sL hL2
     have sG2:qo G' G2:=sD.trans sL
     refine jo (K:=K) (a:=ln) (xs:=(rs.map (·.1)).map V.str) (λi σ' G3=>∃v5 kvs,σ'=[some (.ref g),some (.ref d),some (.ref st),v3,v4,v5,some (.ref D)]/\Fr G2 D G3/\G3 D=some (.dK kvs)/\kvs.map (·.1)=((rs.map (·.1)).take i).map Sum.inr/\
         ∀r∈rs.take i,∃t,qM kvs (Sum.inr r.1:qA)=some (.ref t)/\G3 t=some (.tup (Zt rs R r.1)))
       ⟨v5,[],rfl,Fr.refl,sL _ _ hDD,rfl,λr h=>(nomatch h)⟩ (λi σ' G3 _ ⟨_,_,_,f,_⟩=>.of (f _ _ hL2 nDl)) ?_ ?_
     . rintro i y σ' G3 hy ⟨v5',kvs,rfl,fr,hDk,ek,hv⟩
       obtain⟨r,er,hr',rfl⟩:=yz hy
       have hi:=(List.getElem?_eq_some_iff.mp er).1
       have s23:qo G' G3:=λb u h=>fr _ _ (sG2 _ _ h) (qw h hD)
       have sA:=sG.trans s23
       have nm:=numD.mono s23
       have ns:=YF.mono s23
       have lk:kvs.length=i:=by
         have:=congrArg List.length ek
         rw[List.length_map,List.length_map,List.length_take,List.length_map]at this
         omega
       have eN:(rs.map (·.1))[i]?=some r.1:=by rw[List.getElem?_map,er];rfl
       have new:qM kvs (Sum.inr r.1:qA)=none:=Qj (by rw[ek];exact jM good.nd eN)
       have fin:∀(G4:Hp) (t:Addr),Fr G2 D G4->G4 D=some (.dK kvs)->qo G3 G4->G4 t=some (.tup (Zt rs R r.1))->∃H5,Qf G4 D (.str r.1) (.ref t) H5/\
           ∃v5 kvs,[some (V.ref g),some (.ref d),some (.ref st),v3,v4,some (.str r.1),some (.ref D)]=[some (.ref g),some (.ref d),some (.ref st),v3,v4,v5,some (.ref D)]/\Fr G2 D H5/\H5 D=some (.dK kvs)/\kvs.map (·.1)=((rs.map (·.1)).take (i+1)).map Sum.inr/\
            ∀r∈rs.take (i+1),∃t,qM kvs (Sum.inr r.1:qA)=some (.ref t)/\H5 t=some (.tup (Zt rs R r.1)):=λG4 t f4 h4 s4 ht=>by
         refine⟨_,Qf.k (k:=(Sum.inr r.1:qA)) h4 (qk (by omega)),some (.str r.1),jp kvs (Sum.inr r.1) (.ref t),rfl,f4.at_d,qd,?_,λr2 hr2=>?_⟩
         . rw[jW _ new,List.map_append,ek,List.take_add_one,eN,List.map_append]
           rfl
         . have tD:∀{b:Addr} {xs:List V},G4 b=some (.tup xs)->b≠D:=λhb e=>by rw[e,h4]at hb;cases hb
           rw[List.take_add_one,er]at hr2
           rcases List.mem_append.mp hr2 with h | h
           . obtain⟨t2,a,b⟩:=hv r2 h
             have ne:r2.1≠r.1:=λe=>by rw[e,new]at a;cases a
             refine⟨t2,?_,?_⟩
             . rw[jz,if_neg (λq=>ne (Sum.inr.inj q))];exact a
             . rw[qi (tD (s4 _ _ b))];exact s4 _ _ b
           . have:r2=r:=by simpa using h
             subst this
             refine⟨t,?_,?_⟩
             . rw[jz,if_pos rfl]
             . rw[qi (tD ht)];exact ht
       refine⟨_,rfl,_,rfl,d,_,rfl,nm.get r.1,_,rfl,?_⟩
       cases c:qD R r.1 with
       | some n=>
         have g1:=nm.get r.1
         have g2:=ns.get r.1
         rw[c]at g1 g2
         refine Qc ⟨_,rfl,_,rfl,d,_,rfl,g1,_,rfl,_,rfl,st,_,rfl,g2,by show 3<=sizeLine;decide,λt ht=>?_⟩
         have el:Zt rs R r.1=[.str "number",.int (n:Nat),.int (J0 R r.1:Nat)]:=by unfold Zt;rw[c]
         obtain⟨H5,put,k⟩:=fin (upd G3 t (.tup [.str "number",.int (n:Nat),.int (J0 R r.1:Nat)])) t (fr.same (qg ht)) (qp hDk ht) (qg ht) (by rw[el];exact qd)
         exact⟨_,rfl,_,rfl,D,H5,rfl,put,k⟩
       | none=>
         have gN:=L
         refine jx ⟨_,rfl,_,rfl,_,rfl,g,d,rs,r.1,qD R,rfl,gr.mono sA,good,le14,List.mem_map.mpr ⟨r,hr',rfl⟩,nm,λH4 l4 s4 hl4 hl4'=>?_⟩
         refine⟨l4,_,rfl,.of hl4',λx hx=>?_,by show 2<=sizeLine;decide,λt ht=>?_⟩
         . obtain⟨y,hy,ey⟩:=jY.mp hx
           have:=Yc good L (QT good.nd _ (List.mem_map.mpr ⟨r,hr',rfl⟩) y hy) ey
           omega
         . have el:Zt rs R r.1=[.str "endless",.int (Rb.setN (YG rs (qD R) r.1):Nat)]:=by unfold Zt;rw[c]
           obtain⟨H5,put,k⟩:=fin (upd H4 t (.tup [.str "endless",.int (Rb.setN (YG rs (qD R) r.1):Nat)])) t ((fr.same s4).same (qg ht)) (qp (s4 _ _ hDk) ht) (s4.trans (qg ht)) (by rw[el];exact qd)
           exact⟨_,rfl,_,rfl,D,H5,rfl,put,k⟩
     . rintro σ' G3 ⟨v5',kvs,rfl,fr,hDk,ek,hv⟩
       rw[List.length_map,List.take_of_length_le (Nat.le_refl _)]at ek
       rw[List.length_map,List.length_map,List.take_of_length_le (Nat.le_refl _)]at hv
       exact⟨_,rfl,q G3 D R (λb u h=>fr _ _ (sG2 _ _ (sG _ _ h)) (qw h hD0)) hD0 ⟨kvs,hDk,ek,hv⟩ all⟩
end
end Rh
set_option Elab.async false
set_option linter.all false
set_option maxRecDepth 100000
set_option maxHeartbeats 4000000
namespace Rh
open PySem L2 PyProof.Rows Rb
abbrev zN:Stmt:=top 4
abbrev Jw:Stmt:=top 15
abbrev Zm:Stmt:=top 31
abbrev zT:Stmt:=top 32
abbrev Ng:Stmt:=top 43
abbrev zQ:Stmt:=QM (top 34) 0
abbrev zP:Stmt:=QM (top 34) 1
abbrev zY:Stmt:=QM (top 35) 0
abbrev zX:Stmt:=QM (top 35) 1
section
variable {P:Program} {w:World} {K:PySem.W.Frag} {mg:Str->Option Value} {base:Heap}
def V5:Sp:=λvs H Q _=>∃b:Nat,vs=[.int b]/\b < 65536/\∀l,H l=none->Q (.ref l) (upd H l (.lst (JH (Rb.memN b 16))))
theorem uw (b:Nat):b < 2^ (Builtin.Int.intBits (b:Nat)):=by
 unfold Builtin.Int.intBits
 by_cases h:b=0
 . subst h;simp
 . rw[if_neg (by simpa using h)]
   exact Nat.lt_log2_self
theorem Xd {b:Nat} (h:b < 65536):Builtin.Int.intBits (b:Nat)<=16:=by
 unfold Builtin.Int.intBits
 by_cases h0:b=0
 . subst h0;simp
 . rw[if_neg (by simpa using h0)]
   have:b.log2 < 16:=(Nat.log2_lt h0).mpr h
   exact this
theorem Uc (b i:Nat):Builtin.bitAnd ((b:Int) / 2^ ((i:Nat):Int).toNat) 1=(((b.testBit i).toNat:Nat):Int):=by
 have e1:(b:Int) / 2^ ((i:Nat):Int).toNat=((b / 2^i:Nat):Int):=by rw[Int.toNat_natCast];push_cast;rfl
 have e2:Builtin.bitAnd ((b / 2^i:Nat):Int) 1=(((b / 2^i)&&& 1:Nat):Int):=ba (b / 2^i) 1
 rw[e1,e2,Nat.and_one_is_mod,Rb.testBit_div]
 by_cases h:b / 2^i % 2=1
 . rw[h];rfl
 . have h':b / 2^i % 2=0:=by omega
   rw[h'];rfl
theorem xW:qu ["bits"] ["bits"] (qm zN):=⟨rfl,rfl,rfl,by decide+kernel,rfl,by decide+kernel,by decide+kernel⟩
theorem yk {f:Addr} {fd:FuncData} (F:j7 K "numbers_in" "numbers_in" zN f fd) (B:Jr mg):qv P w K mg base qV 1 f fd ["bits"] V5:=by
 refine F.okJ xW (λvs H Q E h=>?_) (λcdv A outer s H vs Q E hr h=>?_)
 . obtain⟨b,rfl,_⟩:=h
   rfl
 . obtain⟨b,rfl,hb,q⟩:=h
   refine⟨_,qh (qB (jP (N':=["number","bits"]) (ix:=[none,some 0]) rfl ⟨rfl,rfl,rfl,rfl,rfl⟩
     (ja (by rfl) B.rng (qb (Vw PySem.F.plainAttrs_int PySem.F.slot_int_bit_length PySem.F.type_int_bit_length vx (jv 0)) qf))
     (λC s2 H2 fp pins=>⟨ql (i:=0) (show (["number","bits"]:List Str).Nodup by decide+kernel) rfl (Or.inl rfl),jF (qr QI (qP yg (qP yb (jv 1) (jv 0)) qj) qj (qz _)),jv 0⟩))),?_⟩
   refine⟨_,rfl,rfl,_,rfl,rfl,_,rfl,by omega,?_,λD hD=>?_⟩
   . have:=Xd hb
     omega
   . rw[Int.toNat_natCast]
     refine QF (λi σ' H'=>∃v,σ'=[v,some (.int b)]/\H'=upd H D (.lst (JH (Rb.memN b i)))) ⟨none,rfl,rfl⟩ ?_ ?_
     . rintro i σ' H' hi ⟨v,rfl,rfl⟩
       rw[Int.zero_add]
       refine⟨_,rfl,_,rfl,_,_,rfl,rfl,by omega,_,_,rfl,rfl,rfl,_,rfl,?_⟩
       have e:decide (V.int (Builtin.bitAnd ((b:Int) / 2^ ((i:Nat):Int).toNat) 1)=V.int 1)=b.testBit i:=by
         rw[Uc]
         cases b.testBit i<;>decide
       rw[e]
       have l:(JH (Rb.memN b i)).length < sizeLine:=by
         rw[XS]
         refine qk ?_
         have:=Xd hb
         have h1:(Rb.memN b i).length<=(List.range i).length:=List.length_filter_le _ _
         rw[List.length_range]at h1
         omega
       cases hb':b.testBit i with
       | true=>
         refine Qc ⟨_,rfl,_,qd,l,some (.int i),rfl,?_⟩
         rw[jE,y3,Rb.memN_succ,hb']
         rfl
       | false=>
         refine jx ⟨some (.int i),rfl,?_⟩
         rw[Rb.memN_succ,hb']
         simp
     . rintro σ' H' ⟨v,rfl,rfl⟩
       rw[Rb.memN_same (m:=16) hb (uw b)]
       exact q D hD
end
structure Cl (K:PySem.W.Frag) (mg:Str->Option Value) (x qual fld:Str) (st:Stmt) (C f:Addr) (fd:FuncData):Prop where
 cl:YB K C
 mkr:Mk K C f
 ns:mg x=some (.ref C)
 na:Qd K C fld
 fn:j7 K "__init__" qual st f fd
 bi:j8 K fd ["self",fld] []
 ca:PySem.W.findIn K (.ref C) "__class__"=some (some (.builtin "object.__class__"))
 ob:PySem.W.mroIn K C (.type "object")=some true
structure Wk (K:PySem.W.Frag) (mg:Str->Option Value):Prop where
 isi:mg "isinstance"=none
 bool:mg "bool"=none
 kii:PySem.W.kitOne K (.type "int") (.type "int")=some true
 kib:PySem.W.kitOne K (.type "int") (.type "bool")=some false
 most:∃t,mg "MOST_NUMBER"=some (.int 15 t)
 mset:∃t,mg "MOST_BITS"=some (.int 65535 t)
theorem lk1 {f:Str} {v:V}:[(f,v)].lookup f=some v:=by simp [List.lookup]
def kh (CN CE:Addr) (H:Hp) (a:Addr):W->Prop
 | .num n=>∃dx,H a=some (.ins CN dx [("number",.int (n:Nat))])
 | .edl b=>∃dx,H a=some (.ins CE dx [("bits",.int (b:Nat))])
def Jj:W->Str
 | .num _=>"number"
 | .edl _=>"endless"
def Z9:W->Nat
 | .num n=>n
 | .edl b=>b
section
variable {P:Program} {w:World} {K:PySem.W.Frag} {mg:Str->Option Value} {base:Heap}
def zH:Sp:=λvs H Q _=>∃i:Int,vs=[.int i]/\Q (.bl true) H
def Wr:Sp:=λvs H Q _=>∃i:Int,vs=[.int i]/\0<=i/\i<=15/\Q (.bl true) H
def V9:Sp:=λvs H Q _=>∃i:Int,vs=[.int i]/\0<=i/\i<=65535/\Q (.bl true) H
theorem xV:qu ["thing"] ["thing"] (qm Jw):=⟨rfl,rfl,rfl,by decide+kernel,rfl,by decide+kernel,by decide+kernel⟩
theorem WA {f:Addr} {fd:FuncData} (F:j7 K "is_whole" "is_whole" Jw f fd) (B:Jr mg) (T:Wk K mg):qv P w K mg base qV 1 f fd ["thing"] zH:=by
 refine F.okJ xV (λvs H Q E h=>?_) (λcdv A outer s H vs Q E hr h=>?_)
 . obtain⟨i,rfl,_⟩:=h
   rfl
 . obtain⟨i,rfl,q⟩:=h
   refine⟨_,qh (qB (J8 (qC jK (by rfl) T.isi boot_isinstance (qb (jv 0) (qb (Q8 (v:=.ty "int") (by rfl) B.int boot_int rfl) qf)))
     (Yj (K0 (qC jK (by rfl) T.isi boot_isinstance (qb (jv 0) (qb (Q8 (v:=.ty "bool") (by rfl) T.bool boot_bool rfl) qf))))))),?_⟩
   exact⟨_,rfl,_,_,_,_,rfl,rfl,.int i,T.kii,_,rfl,Qc ⟨_,rfl,_,_,_,_,rfl,rfl,.int i,T.kib,_,rfl,q⟩⟩
theorem kK:qu ["thing"] ["thing"] (qm Zm):=⟨rfl,rfl,rfl,by decide+kernel,rfl,by decide+kernel,by decide+kernel⟩
theorem vo {f fW:Addr} {fd fdW:FuncData} (F:j7 K "is_number" "is_number" Zm f fd) (B:Jr mg) (T:Wk K mg) (hW:jG K mg "is_whole" Jw ["thing"] fW fdW):qv P w K mg base qV 2 f fd ["thing"] Wr:=by
 have GW:qv P w K mg base qV 1 fW fdW ["thing"] zH:=WA hW.fn B T
 obtain⟨t,hm⟩:=T.most
 refine F.okJ kK (λvs H Q E h=>?_) (λcdv A outer s H vs Q E hr h=>?_)
 . obtain⟨i,rfl,_⟩:=h
   rfl
 . obtain⟨i,rfl,h0,h1,q⟩:=h
   refine⟨_,qh (qB (J8 (qY hW GW hr (by rfl) (qb (jv 0) qf)) (J8 (QC Ut qj (jv 0) (qz _)) (Yj (QC Ut (jv 0) (JX (v:=.int 15) (by rfl) hm ⟨_,rfl⟩) (qz _)))))),?_⟩
   refine⟨_,rfl,i,rfl,_,rfl,Qc ⟨_,rfl,_,_,rfl,rfl,_,rfl,?_⟩⟩
   rw[decide_eq_true h0]
   refine Qc ⟨_,rfl,_,_,rfl,rfl,?_⟩
   have e:decide (i<=15)=true:=decide_eq_true h1
   show Q (.bl (decide (i<=15))) H
   rw[e]
   exact q
theorem xZ:qu ["thing"] ["thing"] (qm zT):=⟨rfl,rfl,rfl,by decide+kernel,rfl,by decide+kernel,by decide+kernel⟩
theorem yr {f fW:Addr} {fd fdW:FuncData} (F:j7 K "is_set" "is_set" zT f fd) (B:Jr mg) (T:Wk K mg) (hW:jG K mg "is_whole" Jw ["thing"] fW fdW):qv P w K mg base qV 2 f fd ["thing"] V9:=by
 have GW:qv P w K mg base qV 1 fW fdW ["thing"] zH:=WA hW.fn B T
 obtain⟨t,hm⟩:=T.mset
 refine F.okJ xZ (λvs H Q E h=>?_) (λcdv A outer s H vs Q E hr h=>?_)
 . obtain⟨i,rfl,_⟩:=h
   rfl
 . obtain⟨i,rfl,h0,h1,q⟩:=h
   refine⟨_,qh (qB (J8 (qY hW GW hr (by rfl) (qb (jv 0) qf)) (J8 (QC Ut qj (jv 0) (qz _)) (Yj (QC Ut (jv 0) (JX (v:=.int 65535) (by rfl) hm ⟨_,rfl⟩) (qz _)))))),?_⟩
   refine⟨_,rfl,i,rfl,_,rfl,Qc ⟨_,rfl,_,_,rfl,rfl,_,rfl,?_⟩⟩
   rw[decide_eq_true h0]
   refine Qc ⟨_,rfl,_,_,rfl,rfl,?_⟩
   have e:decide (i<=65535)=true:=decide_eq_true h1
   show Q (.bl (decide (i<=65535))) H
   rw[e]
   exact q
def Xt (C:Addr) (fld:Str) (hi:Int):Sp:=λvs H Q _=>∃(x dx:Addr) (n:Int),vs=[.ref x,.int n]/\0<=n/\n<=hi/\H x=some (.ins C dx [])/\Q .non (upd H x (.ins C dx [(fld,.int n)]))
theorem xY:qu ["self","number"] ["self","number"] (qm zQ):=⟨rfl,rfl,rfl,by decide+kernel,rfl,by decide+kernel,by decide+kernel⟩
theorem yn {f fB fW CN:Addr} {fd fdB fdW:FuncData} (F:j7 K "__init__" "Numbered.__init__" zQ f fd) (B:Jr mg) (T:Wk K mg) (hW:jG K mg "is_whole" Jw ["thing"] fW fdW) (hB:jG K mg "is_number" Zm ["thing"] fB fdB) (cl:YB K CN) (na:Qd K CN "number"):
   qv P w K mg base qV 3 f fd ["self","number"] (Xt CN "number" 15):=by
 have GB:qv P w K mg base qV 2 fB fdB ["thing"] Wr:=vo hB.fn B T hW
 refine F.okJ xY (λvs H Q E h=>?_) (λcdv A outer s H vs Q E hr h=>?_)
 . obtain⟨x,dx,n,rfl,_⟩:=h
   rfl
 . obtain⟨x,dx,n,rfl,h0,h1,hx,q⟩:=h
   refine⟨_,qe (q5 (JD (Qb (qY hB GB hr (by rfl) (qb (jv 1) qf)))) ju qE) (qh (XQ (jv 0) (jv 1) rfl)),?_⟩
   exact⟨_,rfl,n,rfl,h0,h1,_,rfl,jx ⟨_,rfl,_,rfl,x,CN,dx,[],rfl,hx,cl,na,by decide,q⟩⟩
theorem x8:qu ["self","bits"] ["self","bits"] (qm zY):=⟨rfl,rfl,rfl,by decide+kernel,rfl,by decide+kernel,by decide+kernel⟩
theorem yw {f fB fW CE:Addr} {fd fdB fdW:FuncData} (F:j7 K "__init__" "Endless.__init__" zY f fd) (B:Jr mg) (T:Wk K mg) (hW:jG K mg "is_whole" Jw ["thing"] fW fdW) (hB:jG K mg "is_set" zT ["thing"] fB fdB) (cl:YB K CE) (na:Qd K CE "bits"):
   qv P w K mg base qV 3 f fd ["self","bits"] (Xt CE "bits" 65535):=by
 have GB:qv P w K mg base qV 2 fB fdB ["thing"] V9:=yr hB.fn B T hW
 refine F.okJ x8 (λvs H Q E h=>?_) (λcdv A outer s H vs Q E hr h=>?_)
 . obtain⟨x,dx,n,rfl,_⟩:=h
   rfl
 . obtain⟨x,dx,n,rfl,h0,h1,hx,q⟩:=h
   refine⟨_,qe (q5 (JD (Qb (qY hB GB hr (by rfl) (qb (jv 1) qf)))) ju qE) (qh (XQ (jv 0) (jv 1) rfl)),?_⟩
   exact⟨_,rfl,n,rfl,h0,h1,_,rfl,jx ⟨_,rfl,_,rfl,x,CE,dx,[],rfl,hx,cl,na,by decide,q⟩⟩
def V2 (CN CE:Addr):Sp:=λvs H Q _=>∃a w,vs=[.ref a]/\kh CN CE H a w/\∀p,H p=none->Q (.ref p) (upd H p (.tup [.str (Jj w),.int (Z9 w:Nat)]))
def Xq (CN CE:Addr):Sp:=λvs H Q E=>(∃a n,vs=[.ref a]/\kh CN CE H a (.num n))/\V2 CN CE vs H Q E
def Xr (CN CE:Addr):Sp:=λvs H Q E=>(∃a b,vs=[.ref a]/\kh CN CE H a (.edl b))/\V2 CN CE vs H Q E
theorem kh.inj {CN CE:Addr} (hne:CN≠CE) {H:Hp} {a:Addr} {u v:W} (h:kh CN CE H a u) (g:kh CN CE H a v):u=v:=by
 cases u<;>cases v<;>obtain⟨dx,e⟩:=h<;>obtain⟨dx',e'⟩:=g<;>rw[e]at e'
 . have:=(HO.ins.inj (Option.some.inj e')).2.2
   have h3:=List.cons.inj this
   have h4:=V.int.inj (Prod.mk.inj h3.1).2
   congr 1
   omega
 . exact absurd (HO.ins.inj (Option.some.inj e')).1 hne
 . exact absurd (HO.ins.inj (Option.some.inj e')).1 (Ne.symm hne)
 . have:=(HO.ins.inj (Option.some.inj e')).2.2
   have h3:=List.cons.inj this
   have h4:=V.int.inj (Prod.mk.inj h3.1).2
   congr 1
   omega
theorem xX:qu ["self"] ["self"] (qm zP):=⟨rfl,rfl,rfl,by decide+kernel,rfl,by decide+kernel,by decide+kernel⟩
theorem ym {f CN CE:Addr} {fd:FuncData} (F:j7 K "told" "Numbered.told" zP f fd) (cl:YB K CN) (na:Qd K CN "number") (hne:CN≠CE):qv P w K mg base qV 1 f fd ["self"] (Xq CN CE):=by
 refine F.okJ xX (λvs H Q E h=>?_) (λcdv A outer s H vs Q E hr h=>?_)
 . obtain⟨_,a,w,rfl,_⟩:=h
   rfl
 . obtain⟨⟨a,n,rfl,hN⟩,a',w,e,hw,q⟩:=h
   cases e
   have ew:=kh.inj hne hw hN
   subst ew
   obtain⟨dx,hx⟩:=hN
   refine⟨_,qh (qB (jl (qb qT (qb (Q7 (jv 0) rfl) qf)))),?_⟩
   exact⟨_,rfl,a,CN,dx,_,_,rfl,hx,cl,na,lk1,by show 2<=sizeLine;decide,q⟩
theorem x6:qu ["self"] ["self"] (qm zX):=⟨rfl,rfl,rfl,by decide+kernel,rfl,by decide+kernel,by decide+kernel⟩
theorem yv {f CN CE:Addr} {fd:FuncData} (F:j7 K "told" "Endless.told" zX f fd) (cl:YB K CE) (na:Qd K CE "bits") (hne:CN≠CE):qv P w K mg base qV 1 f fd ["self"] (Xr CN CE):=by
 refine F.okJ x6 (λvs H Q E h=>?_) (λcdv A outer s H vs Q E hr h=>?_)
 . obtain⟨_,a,w,rfl,_⟩:=h
   rfl
 . obtain⟨⟨a,b,rfl,hN⟩,a',w,e,hw,q⟩:=h
   cases e
   have ew:=kh.inj hne hw hN
   subst ew
   obtain⟨dx,hx⟩:=hN
   refine⟨_,qh (qB (jl (qb qT (qb (Q7 (jv 0) rfl) qf)))),?_⟩
   exact⟨_,rfl,a,CE,dx,_,_,rfl,hx,cl,na,lk1,by show 2<=sizeLine;decide,q⟩
end
structure WF (K:PySem.W.Frag) (mg:Str->Option Value) where
 (CN CE fNI fEI fNT fET fW fB fS:Addr)
 (dNI dEI dNT dET dW dB dS:FuncData)
 ne:CN≠CE
 cN:Cl K mg "Numbered" "Numbered.__init__" "number" zQ CN fNI dNI
 cE:Cl K mg "Endless" "Endless.__init__" "bits" zY CE fEI dEI
 nT:kc K CN "told" "Numbered.told" zP ["self"] fNT dNT
 eT:kc K CE "told" "Endless.told" zX ["self"] fET dET
 hW:jG K mg "is_whole" Jw ["thing"] fW dW
 hB:jG K mg "is_number" Zm ["thing"] fB dB
 hS:jG K mg "is_set" zT ["thing"] fS dS
section
variable {P:Program} {w:World} {K:PySem.W.Frag} {mg:Str->Option Value} {base:Heap}
theorem WF.gNI (h:WF K mg) (B:Jr mg) (T:Wk K mg):qv P w K mg base qV 3 h.fNI h.dNI ["self","number"] (Xt h.CN "number" 15):=yn h.cN.fn B T h.hW h.hB h.cN.cl h.cN.na
theorem WF.gEI (h:WF K mg) (B:Jr mg) (T:Wk K mg):qv P w K mg base qV 3 h.fEI h.dEI ["self","bits"] (Xt h.CE "bits" 65535):=yw h.cE.fn B T h.hW h.hS h.cE.cl h.cE.na
theorem WF.gNT (h:WF K mg):qv P w K mg base qV 1 h.fNT h.dNT ["self"] (Xq h.CN h.CE):=ym h.nT.fn h.cN.cl h.cN.na h.ne
theorem WF.gET (h:WF K mg):qv P w K mg base qV 1 h.fET h.dET ["self"] (Xr h.CN h.CE):=yv h.eT.fn h.cE.cl h.cE.na h.ne
theorem nlk {f g:Str} {v:V} (h:(g==f)=false):[(f,v)].lookup g=none:=by simp [List.lookup,h]
theorem n3:((Str.ofString "told")==(Str.ofString "number"))=false:=by decide+kernel
theorem n4:((Str.ofString "told")==(Str.ofString "bits"))=false:=by decide+kernel
theorem xG {CN CE a:Addr} {H:Hp} {w:W} {Q:VK} (h:kh CN CE H a w) (q:∀p,H p=none->Q (.ref p) (upd H p (.tup [.str (Jj w),.int (Z9 w:Nat)]))):
   ∃a' dx fs,V.ref a=.ref a'/\fs.lookup (Str.ofString "told")=none/\((H a'=some (.ins CN dx fs)/\Xq CN CE [V.ref a] H Q E0)\/(H a'=some (.ins CE dx fs)/\Xr CN CE [V.ref a] H Q E0)):=by
 cases w with
 | num n=>obtain⟨dx,e⟩:=id h;exact⟨a,dx,_,rfl,nlk n3,.inl ⟨e,⟨a,n,rfl,h⟩,a,_,rfl,h,q⟩⟩
 | edl b=>obtain⟨dx,e⟩:=id h;exact⟨a,dx,_,rfl,nlk n4,.inr ⟨e,⟨a,b,rfl,h⟩,a,_,rfl,h,q⟩⟩
theorem w9 {X:Cx} (h:WF X.K X.mg) (hr:jg 1 X.A) {o:Expr} {ta:TE} {apos pos:Pos} {pl:Sem Bool} (he:JE X o ta)
   (ht:eval (.Call (.Attribute o "told" apos) [] [] pos) X.env=(eval o X.env >>= λov=>standAt apos.atName >>= λ_=>holding [ov] (getMethod ov "told" pl) >>= λr=>callWith pos r.1 r.2 (backTo pos (starEach [] X.env)) (backToKw pos (keywordEach [] X.env))):=by rfl):
   JE X (.Call (.Attribute o "told" apos) [] [] pos) (λσ H Q=>ta σ H λx H1=>∃a u,x=.ref a/\kh h.CN h.CE H1 a u/\∀p,H1 p=none->Q (.ref p) (upd H1 p (.tup [.str (Jj u),.int (Z9 u:Nat)]))):=
 ud (vF (RM he) h.cN.cl h.nT.me h.gNT hr h.nT.bi h.cE.cl h.eT.me h.gET hr h.eT.bi ht) λσ H Q q=>⟨_,q,λx H1 ⟨a,u,e,i,q1⟩=>by subst e;exact xG i q1⟩
theorem wN {CN CE:Addr} {H:Hp} {x dx:Addr} {n:Nat} (hx:H x=none) (hd:H dx=none) (hne:dx≠x):qo H (upd (upd (upd H dx (.own x)) x (.ins CN dx [])) x (.ins CN dx [("number",.int (n:Nat))]))/\kh CN CE (upd (upd (upd H dx (.own x)) x (.ins CN dx [])) x (.ins CN dx [("number",.int (n:Nat))])) x (.num n):=
 ⟨λb o hb=>by rw[qi (qw hb hx),qi (qw hb hx),qi (qw hb hd)];exact hb,dx,qd⟩
theorem wO {CN CE:Addr} {H:Hp} {x dx:Addr} {b:Nat} (hx:H x=none) (hd:H dx=none) (hne:dx≠x):qo H (upd (upd (upd H dx (.own x)) x (.ins CE dx [])) x (.ins CE dx [("bits",.int (b:Nat))]))/\kh CN CE (upd (upd (upd H dx (.own x)) x (.ins CE dx [])) x (.ins CE dx [("bits",.int (b:Nat))])) x (.edl b):=
 ⟨λb o hb=>by rw[qi (qw hb hx),qi (qw hb hx),qi (qw hb hd)];exact hb,dx,qd⟩
end
open MLab
def jq (rs:jk) (z:Str):List Str:=match rs.find? (λr=>decide (r.1=z)) with
 | some r=>r.2
 | none=>[]
theorem JB {rs:jk} {r:Str×List Str} (hn:(rs.map (·.1)).Nodup) (h:r∈rs):jq rs r.1=r.2:=by
 unfold jq
 rw[Yq hn h]
theorem qH {rs:jk} (g:qt rs) {z y:Str} (hz:z∈rs.map (·.1)):y∈jq rs z↔y∈QW rs z:=by
 obtain⟨r,hr,rfl⟩:=List.mem_map.mp hz
 rw[JB g.nd hr,UE g hr]
theorem RK {rs:jk} (g:qt rs) {num:Str->Option Nat} {stp:Str->Nat} (L:ZG (QW rs) (·∈rs.map (·.1)) num stp):ZG (jq rs) (·∈rs.map (·.1)) num stp where
 cl:=λ{x y} hx hy=>L.cl hx ((qH g hx).mp hy)
 n1:=λ{x n m} hx e lt=>let ⟨y,hy,k⟩:=L.n1 hx e lt;⟨y,(qH g hx).mpr hy,k⟩
 n2:=λ{x y n} hx e hy=>L.n2 hx e ((qH g hx).mp hy)
 n3:=λ{x y n} hx e hy gt=>let ⟨z,hz,k⟩:=L.n3 hx e ((qH g hx).mp hy) gt;⟨z,(qH g (L.cl hx ((qH g hx).mp hy))).mpr hz,k⟩
 n4:=λ{x y n m} hx e hy=>L.n4 hx e ((qH g hx).mp hy)
 e:=λ{x m} hx e lo hi=>by
   obtain⟨y,hy,ey,ly⟩:=L.e hx e (λj hj=>let ⟨y,hy,k⟩:=lo j hj;⟨y,(qH g hx).mp hy,k⟩) (λy hy=>hi y ((qH g hx).mpr hy))
   exact⟨y,(qH g hx).mpr hy,ey,λz hz=>ly z ((qH g (L.cl hx hy)).mp hz)⟩
def wT (rs:jk) (R:Rs Str) (z:Str):W:=match qD R z with
 | some n=>.num n
 | none=>.edl (setN (YG rs (qD R) z))
theorem ZI {rs:jk} {R:Rs Str} {z:Str} {n:Nat} (e:qD R z=some n):wT rs R z=.num n:=by unfold wT;rw[e]
theorem Xl {rs:jk} {R:Rs Str} {z:Str} (e:qD R z=none):wT rs R z=.edl (setN (YG rs (qD R) z)):=by unfold wT;rw[e]
theorem uI {rs:jk} (good:qt rs) {R:Rs Str} (L:ZG (QW rs) (·∈rs.map (·.1)) (qD R) (J0 R)) {z:Str} (hz:z∈rs.map (·.1)):okW (wT rs R z):=by
 cases e:qD R z with
 | some n=>
   rw[ZI e]
   have:=Yc good L hz e
   show n < 16
   omega
 | none=>
   rw[Xl e]
   show setN _ < 65536
   refine setN_lt (m:=16) λx hx=>?_
   obtain⟨y,hy,ey⟩:=jY.mp hx
   have:=Yc good L (L.cl hz hy) ey
   omega
def Ra (CN CE:Addr):Sp:=λvs H Q _=>∃(t:Addr) (rs:jk) (R:Rs Str) (z:Str),vs=[.ref t]/\H t=some (.tup (Zt rs R z))/\okW (wT rs R z)/\∀a H',qo H H'->kh CN CE H' a (wT rs R z)->Q (.ref a) H'
section
variable {P:Program} {w:World} {K:PySem.W.Frag} {mg:Str->Option Value} {base:Heap}
theorem NA:qu ["label"] ["label"] (qm Ng):=⟨rfl,rfl,rfl,by decide+kernel,rfl,by decide+kernel,by decide+kernel⟩
theorem Rx {f:Addr} {fd:FuncData} (F:j7 K "label_worth" "label_worth" Ng f fd) (h:WF K mg) (B:Jr mg) (T:Wk K mg):qv P w K mg base qV 5 f fd ["label"] (Ra h.CN h.CE):=by
 refine F.okJ NA (λvs H Q E z=>?_) (λcdv A outer s H vs Q E hr z=>?_)
 . obtain⟨t,rs,R,z,rfl,_⟩:=z
   rfl
 . obtain⟨t,rs,R,z,rfl,ht,ok,q⟩:=z
   refine⟨_,qe (q5 (qr QI (jA jD (jv 0) qj (λ_ _=>rfl)) qT (qz _)) (qh (qB (zy h.cN.mkr (h.gNI B T) hr (by rfl) h.cN.ns h.cN.bi .nil Zs (qb (jA jD (jv 0) qj (λ_ _=>rfl)) qf)))) qE)
     (qh (qB (zy h.cE.mkr (h.gEI B T) hr (by rfl) h.cE.ns h.cE.bi .nil Zs (qb (jA jD (jv 0) qj (λ_ _=>rfl)) qf)))),?_⟩
   cases e:qD R z with
   | some n=>
     rw[ZI e]at ok q
     have el:Zt rs R z=[.str "number",.int (n:Nat),.int (J0 R z:Nat)]:=by unfold Zt;rw[e]
     rw[el]at ht
     refine⟨_,rfl,t,_,0,_,rfl,rfl,.of ht,rfl,rfl,_,rfl,Q9 (by decide+kernel) ?_⟩
     refine⟨_,rfl,t,_,1,_,rfl,rfl,.of ht,rfl,λx dx hx hd hne=>⟨x,dx,_,rfl,by omega,?_,qd,rfl,?_⟩⟩
     . have:n < 16:=ok
       omega
     . obtain⟨s1,i1⟩:=wN (CN:=h.CN) (CE:=h.CE) (n:=n) hx hd hne
       exact q _ _ s1 i1
   | none=>
     rw[Xl e]at ok q
     have el:Zt rs R z=[.str "endless",.int (setN (YG rs (qD R) z):Nat)]:=by unfold Zt;rw[e]
     rw[el]at ht
     refine⟨_,rfl,t,_,0,_,rfl,rfl,.of ht,rfl,rfl,_,rfl,Ja (by decide+kernel) ?_⟩
     refine⟨_,rfl,t,_,1,_,rfl,rfl,.of ht,rfl,λx dx hx hd hne=>⟨x,dx,_,rfl,by omega,?_,qd,rfl,?_⟩⟩
     . have:setN (YG rs (qD R) z) < 65536:=ok
       omega
     . obtain⟨s1,i1⟩:=wO (CN:=h.CN) (CE:=h.CE) (b:=setN (YG rs (qD R) z)) hx hd hne
       exact q _ _ s1 i1
end
end Rh
set_option Elab.async false
set_option linter.all false
set_option maxRecDepth 100000
set_option maxHeartbeats 4000000
namespace Rh
open PySem L2 PyProof.Rows MLab
abbrev zS:Stmt:=top 56
abbrev Zo:Stmt:=top 57
structure uC (H:Hp) (d:Addr) (rs:jk):Prop where
 at_:∃(o:Obj) (kvs:List (qA×V)),H d=some (.frz o (.dK kvs))/\kvs.map (·.1)=(rs.map (·.1)).map Sum.inr/\∀r∈rs,∃q,qM kvs (Sum.inr r.1:qA)=some (.ref q)/\H q=some (.tup (r.2.map V.str))
theorem uC.mono {H H':Hp} {d:Addr} {rs:jk} (h:uC H d rs) (s:qo H H'):uC H' d rs:=⟨let ⟨o,kvs,a,b,c⟩:=h.at_;⟨o,kvs,s _ _ a,b,λr hr=>let ⟨q,u,v⟩:=c r hr;⟨q,u,s _ _ v⟩⟩⟩
theorem uC.get {H:Hp} {d:Addr} {rs:jk} (h:uC H d rs) (g:qt rs) {z:Str} (hz:z∈rs.map (·.1)):∃q,jm H d (.str z) (some (.ref q))/\H q=some (.tup ((jq rs z).map V.str)):=by
 obtain⟨o,kvs,a,b,c⟩:=h.at_
 obtain⟨r,hr,rfl⟩:=List.mem_map.mp hz
 obtain⟨q,u,v⟩:=c r hr
 refine⟨q,?_,by rw[JB g.nd hr];exact v⟩
 rw[<-u]
 exact .inl ⟨kvs,Sum.inr r.1,.inr ⟨o,a⟩,rfl,rfl⟩
theorem Q6 {rs:jk} (g:qt rs) {z y:Str} (hz:z∈rs.map (·.1)) (hy:y∈jq rs z):y∈rs.map (·.1):=QT g.nd _ hz _ ((qH g hz).mp hy)
theorem Yg {rs:jk} (g:qt rs) {z:Str} (hz:z∈rs.map (·.1)):(jq rs z).length<=40:=by
 obtain⟨r,hr,rfl⟩:=List.mem_map.mp hz
 rw[JB g.nd hr]
 exact g.two hr
def kn (rs:jk) (f:Str->Option Nat) (z:Str):List Nat:=(jq rs z).filterMap f
theorem J6 {rs:jk} {f:Str->Option Nat} {z:Str} {n:Nat}:n∈kn rs f z↔∃y∈jq rs z,f y=some n:=List.mem_filterMap
theorem wV (rs:jk) (f:Str->Option Nat) (z:Str):(jq rs z).filterMap (λy=>(f y).map λn=>V.int (n:Nat))=JH (kn rs f z):=by
 unfold JH kn
 rw[List.map_filterMap]
theorem Zy {rs:jk} {f:Str->Option Nat} {z:Str} {n:Nat}:Zd (jq rs) f z n↔(∀j,j < n->j∈kn rs f z)/\n∉kn rs f z/\∀y∈jq rs z,f y=none->n∈kn rs f y:=by
 unfold Zd
 simp only[J6]
 constructor
 . rintro⟨a,b,c⟩
   exact⟨a,λ⟨y,hy,e⟩=>b y hy e,c⟩
 . rintro⟨a,b,c⟩
   exact⟨a,λy hy e=>b ⟨y,hy,e⟩,c⟩
def gV (o:Option Nat):V:=(o.map λn=>V.int (n:Nat)).getD .non
theorem uj (f:Str->Option Nat) (ys:List Str):(ys.map λy=>gV (f y)).all Jn=true:=by
 rw[List.all_map,List.all_eq_true]
 intro y _
 show Jn (gV (f y))=true
 cases f y<;>rfl
theorem RV (rs:jk) (f:Str->Option Nat) (z:Str) (n:Nat):zc (.int (n:Nat)) ((jq rs z).map λy=>gV (f y))=decide (n∈kn rs f z):=by
 unfold zc
 rw[List.any_map,Bool.eq_iff_iff,List.any_eq_true,decide_eq_true_iff,J6]
 constructor
 . rintro⟨y,hy,e⟩
   refine⟨y,hy,?_⟩
   have e:kj (gV (f y)) (.int (n:Nat))=true:=e
   cases c:f y with
   | none=>rw[c]at e;exact absurd e (by simp [gV,kj])
   | some m=>
     rw[c]at e
     have e:(((m:Nat):Int)==((n:Nat):Int))=true:=e
     have:((m:Nat):Int)=((n:Nat):Int):=eq_of_beq e
     have:m=n:=by omega
     rw[this]
 . rintro⟨y,hy,e⟩
   refine⟨y,hy,?_⟩
   show kj (gV (f y)) (.int (n:Nat))=true
   rw[e]
   show (((n:Nat):Int)==((n:Nat):Int))=true
   simp
def Xs:Sp:=λvs H Q _=>∃(d e:Addr) (rs:jk) (f:Str->Option Nat) (z:Str) (n:Nat),vs=[.ref d,.ref e,.str z,.int (n:Nat)]/\uC H d rs/\qt rs/\z∈rs.map (·.1)/\qO (rs.map (·.1)) H e f/\n<=14/\
 ∀H' b,qo H H'->(b=true↔Zd (jq rs) f z n)->Q (.bl b) H'
section
variable {P:Program} {w:World} {K:PySem.W.Frag} {mg:Str->Option Value} {base:Heap}
theorem xo {rs:jk} {f:Str->Option Nat} {z:Str} {q e W:Addr} {H:Hp} {Q:Hp->Prop} (hW:H W=none) (hq:H q=some (.tup ((jq rs z).map V.str))) (nm:qO (rs.map (·.1)) H e f) (l40:(jq rs z).length<=40)
   (k:∀G,qo H G->G W=some (.lst (JH (kn rs f z)))->Q G):Zh (Kc K q) (Qx 0) (tB (xJ (qJ 0) (qJ 1))) (Jt (qJ 1) (qJ 0)) W [none,some (.ref e)] H Q:=by
 refine UO (K:=K) (a:=q) (xs:=jq rs z) (enc:=V.str) (out:=λy=>(f y).map λn=>V.int (n:Nat)) (rest:=[some (.ref e)]) hW hq (qk (by omega)) ?_ ?_ ?_
 . intro x hx G' s5 R kk
   refine⟨_,rfl,_,rfl,e,_,rfl,(nm.mono s5).get x,_,rfl,?_⟩
   exact kk G' λ_ _ h=>h
 . intro x hx v ev G' s5 R kk
   have g:=(nm.mono s5).get x
   rw[ev]at g
   exact⟨_,rfl,_,rfl,e,_,rfl,g,kk G' λ_ _ h=>h⟩
 . intro G s5 hG
   rw[wV]at hG
   exact k G s5 hG
abbrev nLG:List Str:=["_law_leads_here","_law_numbers","_law_name","_law_number","_law_known","_law_other"]
abbrev Rv:List Str:=["_law_leads_here","_law_numbers","_law_name","_law_number"]
theorem Ko:qu nLG Rv (qm zS):=⟨rfl,rfl,rfl,by decide+kernel,rfl,by decide+kernel,by decide+kernel⟩
theorem yp {f:Addr} {fd:FuncData} (F:j7 K "_law_gets" "_law_gets" zS f fd) (B:Jr mg):qv P w K mg base qV 1 f fd Rv Xs:=by
 refine F.okJ Ko (λvs H Q E h=>?_) (λcdv A outer s H vs Q E hr h=>?_)
 . obtain⟨d,e,rs,ff,z,n,rfl,_⟩:=h
   rfl
 . obtain⟨d,e,rs,ff,z,n,rfl,ld,good,hz,nm,n14,q⟩:=h
   have hu:=jJ hr
   refine⟨_,qe (qx (i:=4) Ko.nd rfl (Or.inr rfl) (jP (N':=["_law_other","_law_numbers"]) (ix:=[none,some 1]) (tt:=tB (xJ (qJ 0) (qJ 1))) (te:=Jt (qJ 1) (qJ 0)) rfl ⟨rfl,rfl,rfl,rfl,rfl⟩ (ZQ (qG hu (jv 0) (jv 2) (λ_ _=>rfl))) (λC s2 H2 fp pins=>
         ⟨ql (i:=0) (show (["_law_other","_law_numbers"]:List Str).Nodup by decide+kernel) rfl (Or.inl rfl),jF (j1 (JF hu (jv 0) (jv 1))),qG hu (jv 1) (jv 0) (λ_ _=>rfl)⟩)))
     (qe (q5 (JW.pt (Jm (qr (Us (Nat.lt_of_succ_lt hu)) (jP (N':=["_law_lesser","_law_known"]) (ix:=[none,some 4]) (tt:=zF (YA (Gv K true) (qJ 0) (qJ 1))) (te:=qJ 0) rfl ⟨rfl,rfl,rfl,rfl,rfl⟩ (ja (by rfl) B.rng (qb (jv 3) qf)) (λC s2 H2 fp pins=>
         ⟨ql (i:=0) (show (["_law_lesser","_law_known"]:List Str).Nodup by decide+kernel) rfl (Or.inl rfl),jF (qr QZ (jv 0) (jv 1) (by with_unfolding_all rfl)),jv 0⟩)) (QS qf) (qz _))
         (Qu (qr JP (jv 3) (jv 4) (by with_unfolding_all rfl))))) (qh (qB j3)) qE)
     (qe (qW PassesOwn.never rfl (ZQ (qG hu (jv 0) (jv 2) (λ_ _=>rfl))) (ql (i:=5) Ko.nd rfl (Or.inl rfl))
       (qh (q5 (JW.pt (jZ (j1 (QD hu (jv 5) (jv 1))) (jO (qr QZ (jv 3) (jP (N':=["_law_one","_law_numbers"]) (ix:=[none,some 1]) (te:=kx (qJ 1) (qJ 0)) rfl ⟨rfl,rfl,rfl,rfl,rfl⟩ (ZQ (qG hu (jv 0) (jv 5) (λ_ _=>rfl))) (λC s2 H2 fp pins=>
         ⟨ql (i:=0) (show (["_law_one","_law_numbers"]:List Str).Nodup by decide+kernel) rfl (Or.inl rfl),js,yR hu (jv 1) (jv 0) ⟨rfl,rfl,rfl,rfl⟩⟩)) (by with_unfolding_all rfl))))) (qh (qB j3)) qE)))
     (qh (qB j3)))),?_⟩
   obtain⟨q0,g0,hq0⟩:=ld.get good hz
   refine⟨_,rfl,_,rfl,d,_,rfl,g0,q0,rfl,⟨_,.of hq0⟩,λW hW=>?_⟩
   refine xo (K:=K) hW hq0 nm (Yg good hz) λG1 s1 hW1=>?_
   refine⟨_,rfl,(n:Int),rfl,by omega,by omega,λU hU=>?_⟩
   refine UP (n:=n) (out:=λj=>if j∈kn rs ff z then none else some (V.int (j:Nat))) (rest:=[some (.ref W)]) hU (qk (by omega)) ?_ ?_ ?_
   . intro x hx G' s5 R kk
     refine⟨_,rfl,_,rfl,W,_,rfl,.inl (.of (s5 _ _ hW1)),rfl,Zx _,_,rfl,?_⟩
     have:=kk G' λ_ _ h=>h
     show R (!zc (.int (x:Nat)) (JH (kn rs ff z))) G'
     rw[Ym]
     by_cases c:x∈kn rs ff z
     . rw[if_pos c]at this
       rw[decide_eq_true c]
       exact this
     . rw[if_neg c]at this
       rw[decide_eq_false c]
       exact this
   . intro x hx v ev G' s5 R kk
     have:v=V.int (x:Nat):=by
       split at ev
       . cases ev
       . exact(Option.some.inj ev).symm
     subst this
     exact⟨_,rfl,kk G' λ_ _ h=>h⟩
   . intro G2 s2 hU2
     have s12:=s1.trans s2
     generalize hls:(List.range n).filterMap (λj=>if j∈kn rs ff z then none else some (V.int (j:Nat)))=ls at hU2
     refine⟨by show 0<=sizeLine;decide,λl0 hl0=>?_⟩
     have s0:qo G2 (upd G2 l0 (.lst [])):=qg hl0
     refine⟨U,l0,_,rfl,rfl,.of (s0 _ _ hU2),.of qd,_,rfl,?_⟩
     have s3:qo H (upd G2 l0 (.lst [])):=s12.trans s0
     have hW3:=s0 _ _ (s2 _ _ hW1)
     generalize upd G2 l0 (.lst [])=G3 at s0 s3 hW3
     have lsE:ls=[]↔∀j,j < n->j∈kn rs ff z:=by
       rw[<-hls,List.filterMap_eq_nil_iff]
       constructor
       . intro h j hj
         have:=h j (List.mem_range.mpr hj)
         by_cases c:j∈kn rs ff z
         . exact c
         . rw[if_neg c]at this;cases this
       . intro h j hj
         rw[if_pos (h j (List.mem_range.mp hj))]
     cases ls with
     | cons a ls=>
       refine Qc (Qc (q G3 false s3 ⟨λh=>(nomatch h),λh=>?_⟩))
       have:=lsE.mpr (Zy.mp h).1
       cases this
     | nil=>
       refine jx ⟨_,rfl,_,rfl,W,_,rfl,.inl (.of hW3),rfl,Zx _,_,rfl,?_⟩
       have lo:=lsE.mp rfl
       by_cases c:n∈kn rs ff z
       . refine Q9 (show zc (.int (n:Nat)) (JH (kn rs ff z))=true by rw[Ym];exact decide_eq_true c) (q G3 false s3 ⟨λh=>(nomatch h),λh=>absurd c (Zy.mp h).2.1⟩)
       . refine Ja (show zc (.int (n:Nat)) (JH (kn rs ff z))=false by rw[Ym];exact decide_eq_false c) ?_
         obtain⟨q1,g1,hq1⟩:=(ld.mono s3).get good hz
         refine⟨_,rfl,_,rfl,d,_,rfl,g1,q1,rfl,⟨_,.of hq1⟩,?_⟩
         refine UH (K:=K) (a:=q1) (xs:=(jq rs z).map V.str) (λi σ' G=>∃v5,σ'=[some (.ref d),some (.ref e),some (.str z),some (.int (n:Nat)),some (.ref W),v5]/\qo G3 G/\∀y∈(jq rs z).take i,ff y=none->n∈kn rs ff y)
           ⟨_,rfl,λ_ _ h=>h,λy h=>(nomatch h)⟩ (λi σ' G _ ⟨_,_,s,_⟩=>.of (s _ _ hq1)) ?_ ?_
         . rintro i x σ' G hx ⟨v5,rfl,sG,hall⟩
           obtain⟨y,ey,hy,rfl⟩:=zm hx
           have sA:=s3.trans sG
           have hyN:=Q6 good hz hy
           have gy:=(nm.mono sA).get y
           have step:∀{G':Hp},qo G G'->(ff y=none->n∈kn rs ff y)->∃v5,[some (V.ref d),some (.ref e),some (.str z),some (.int (n:Nat)),some (.ref W),some (.str y)]=[some (.ref d),some (.ref e),some (.str z),some (.int (n:Nat)),some (.ref W),v5]/\qo G3 G'/\∀y∈(jq rs z).take (i+1),ff y=none->n∈kn rs ff y:=λ{G'} s' hy'=>by
             refine⟨_,rfl,sG.trans s',λu hu=>?_⟩
             rw[List.take_add_one,ey]at hu
             rcases List.mem_append.mp hu with hu | hu
             . exact hall u hu
             . have:u=y:=by simpa using hu
               rw[this];exact hy'
           refine⟨_,rfl,_,rfl,e,_,rfl,gy,_,rfl,?_⟩
           cases cy:ff y with
           | some m=>
             exact jx (jx (step (λ_ _ h=>h) λh=>by rw[cy]at h;cases h))
           | none=>
             obtain⟨q2,g2,hq2⟩:=(ld.mono sA).get good hyN
             refine Qc ⟨_,rfl,_,rfl,_,rfl,d,_,rfl,g2,q2,rfl,⟨_,.of hq2⟩,λT hT=>?_⟩
             refine UO (K:=K) (a:=q2) (xs:=jq rs y) (enc:=V.str) (out:=λu=>some (gV (ff u))) (rest:=[some (.ref e)]) hT hq2 (qk (by have:=Yg good hyN;omega)) ?_ ?_ ?_
             . intro x hx G' s5 R kk
               exact kk G' λ_ _ h=>h
             . intro x hx v ev G' s5 R kk
               obtain rfl:=(Option.some.inj ev).symm
               have nmG:=(nm.mono sA).mono s5
               obtain⟨ke,he⟩:=nmG.isd
               exact⟨_,rfl,e,rfl,.inl ⟨ke,.inl he⟩,_,rfl,_,nmG.get x,kk G' λ_ _ h=>h⟩
             . intro G4 s4 hT4
               rw[show (λu=>some (gV (ff u)))=(some ∘ λu=>gV (ff u)) from rfl,List.filterMap_eq_map]at hT4
               refine⟨T,_,rfl,.inl (.of hT4),rfl,uj ff _,_,rfl,?_⟩
               show if (!zc (.int (n:Nat)) ((jq rs y).map λu=>gV (ff u)))=true then _ else _
               rw[RV]
               by_cases c2:n∈kn rs ff y
               . rw[decide_eq_true c2]
                 exact jx (step s4 λ_=>c2)
               . rw[decide_eq_false c2]
                 exact Qc (q G4 false (sA.trans s4) ⟨λh=>(nomatch h),λh=>absurd ((Zy.mp h).2.2 y hy cy) c2⟩)
         . rintro σ' G ⟨v5,rfl,sG,hall⟩
           rw[List.length_map,List.take_of_length_le (Nat.le_refl _)]at hall
           exact q G true (s3.trans sG) ⟨λ_=>Zy.mpr ⟨lo,c,hall⟩,λ_=>rfl⟩
end
end Rh
set_option Elab.async false
set_option linter.all false
set_option maxRecDepth 100000
set_option maxHeartbeats 4000000
namespace Rh
open PySem L2 PyProof.Rows MLab
theorem vh {κ:Type} [DecidableEq κ] {kvs:List (κ×V)} {k:κ} {v u:V} (h:qM kvs k=some u):(jp kvs k v).map (·.1)=kvs.map (·.1):=by
 unfold jp
 have:(kvs.any λkv=>decide (kv.1=k))=true:=by rw[Qk,h];rfl
 rw[if_pos this,List.map_map]
 refine List.map_congr_left λx _=>?_
 show (if x.1=k then (x.1,v) else x).1=x.1
 split<;>rfl
theorem VZ (ns:List Nat):∀m,(((List.range m).filter λk=>decide (k∈ns)).map λk=>2^k).sum=Rb.setN ((List.range m).filter λk=>decide (k∈ns))
 | 0=>rfl
 | m+1=>by
   have ih:=VZ ns m
   have lt:Rb.setN ((List.range m).filter λk=>decide (k∈ns)) < 2^m:=Rb.setN_lt λx hx=>List.mem_range.mp (List.mem_filter.mp hx).1
   rw[List.range_succ,List.filter_append]
   by_cases c:m∈ns
   . have e:[m].filter (λk=>decide (k∈ns))=[m]:=by simp [c]
     rw[e,List.map_append,List.sum_append,ih,Rb.setN_snoc]
     have h2:=Nat.two_pow_add_eq_or_of_lt lt 1
     rw[Nat.mul_one]at h2
     show _+(2^m+0)=_
     rw[Nat.add_zero,Nat.add_comm,h2,Nat.or_comm]
   . have e:[m].filter (λk=>decide (k∈ns))=[]:=by simp [c]
     rw[e,List.append_nil]
     exact ih
theorem zK {ns ms:List Nat} (h:∀x,x∈ns↔x∈ms):Rb.setN ns=Rb.setN ms:=Nat.eq_of_testBit_eq λk=>by rw[Rb.testBit_setN,Rb.testBit_setN,decide_eq_decide.mpr (h k)]
theorem Ki {ns:List Nat} (h:∀x∈ns,x < 16):(((List.range 16).filter λk=>decide (k∈ns)).map λk=>2^k).sum=Rb.setN ns:=by
 rw[VZ]
 exact zK λx=>by
   rw[List.mem_filter,List.mem_range,decide_eq_true_iff]
   exact⟨λz=>z.2,λz=>⟨h x z,z⟩⟩
def tW:Rb.W->List V
 | .num n=>[.str "number",.int (n:Nat)]
 | .edl b=>[.str "endless",.int (b:Nat)]
def wF (rs:jk) (f:Str->Option Nat) (z:Str):Rb.W:=match f z with
 | some n=>.num n
 | none=>.edl (Rb.setN (kn rs f z))
structure X8 (H:Hp) (D:Addr) (F:Str->Rb.W) (zs:List Str):Prop where
 at_:∃kvs:List (qA×V),H D=some (.dK kvs)/\kvs.map (·.1)=zs.map Sum.inr/\∀z∈zs,∃t,qM kvs (Sum.inr z:qA)=some (.ref t)/\H t=some (.tup (tW (F z)))
theorem X8.mono {H H':Hp} {D:Addr} {F:Str->Rb.W} {zs:List Str} (h:X8 H D F zs) (s:qo H H'):X8 H' D F zs:=⟨let ⟨kvs,a,b,c⟩:=h.at_;⟨kvs,s _ _ a,b,λz hz=>let ⟨t,u,v⟩:=c z hz;⟨t,u,s _ _ v⟩⟩⟩
theorem X8.new {H:Hp} {D t:Addr} {F:Str->Rb.W} {zs:List Str} {z:Str} (h:X8 H D F zs) (hz:z∉zs) (l:zs.length<=14) (ht:H t=some (.tup (tW (F z)))):∃o,Qf H D (.str z) (.ref t) (upd H D o)/\X8 (upd H D o) D F (zs++[z]):=by
 obtain⟨kvs,a,b,c⟩:=h.at_
 have lk:kvs.length=zs.length:=by simpa using congrArg List.length b
 have new:qM kvs (Sum.inr z:qA)=none:=Qj (by
   rw[b]
   intro m
   obtain⟨y,hy,e⟩:=List.mem_map.mp m
   cases e
   exact hz hy)
 have tD:∀{b:Addr} {xs:List V},H b=some (.tup xs)->b≠D:=λhb e=>by rw[e,a]at hb;cases hb
 refine⟨_,Qf.k (k:=(Sum.inr z:qA)) a (qk (by omega)),⟨_,qd,?_,λy hy=>?_⟩⟩
 . rw[jW _ new,List.map_append,b,List.map_append]
   rfl
 . rcases List.mem_append.mp hy with hy | hy
   . obtain⟨t',u,v⟩:=c y hy
     refine⟨t',?_,by rw[qi (tD v)];exact v⟩
     rw[jz,if_neg (λq=>by cases q;exact hz hy)]
     exact u
   . have:y=z:=by simpa using hy
     subst this
     exact⟨t,by rw[jz,if_pos rfl],by rw[qi (tD ht)];exact ht⟩
theorem X8.over {H:Hp} {D t:Addr} {F F':Str->Rb.W} {zs:List Str} {z:Str} (h:X8 H D F' zs) (hz:z∈zs) (l:zs.length<=15) (ag:∀y∈zs,y≠z->F' y=F y) (ht:H t=some (.tup (tW (F z)))):∃o,Qf H D (.str z) (.ref t) (upd H D o)/\X8 (upd H D o) D F zs:=by
 obtain⟨kvs,a,b,c⟩:=h.at_
 have lk:kvs.length=zs.length:=by simpa using congrArg List.length b
 obtain⟨t0,e0,_⟩:=c z hz
 have tD:∀{b:Addr} {xs:List V},H b=some (.tup xs)->b≠D:=λhb e=>by rw[e,a]at hb;cases hb
 refine⟨_,Qf.k (k:=(Sum.inr z:qA)) a (qk (by omega)),⟨_,qd,by rw[vh e0];exact b,λy hy=>?_⟩⟩
 by_cases q:y=z
 . subst q
   exact⟨t,by rw[jz,if_pos rfl],by rw[qi (tD ht)];exact ht⟩
 . obtain⟨t',u,v⟩:=c y hy
   rw[ag y hy q]at v
   refine⟨t',?_,by rw[qi (tD v)];exact v⟩
   rw[jz,if_neg (λw=>q (Sum.inr.inj w))]
   exact u
theorem X8.congr {H:Hp} {D:Addr} {F F':Str->Rb.W} {zs:List Str} (h:X8 H D F zs) (e:∀z∈zs,F z=F' z):X8 H D F' zs:=⟨let ⟨kvs,a,b,c⟩:=h.at_;⟨kvs,a,b,λz hz=>by rw[<-e z hz];exact c z hz⟩⟩
theorem Gh {rs:jk} (g:qt rs) {f:Str->Option Nat} {x:Str} (hx:x∈rs.map (·.1)) (e:f x=none):¬∀j,j < (rs.map (·.1)).length->∃y∈jq rs x,f y=some j:=λh=>by
 have h1:=QB (l:=List.range (rs.map (·.1)).length) (m:=(rs.map (·.1)).filterMap f) List.nodup_range λj hj=>by
   obtain⟨y,hy,ey⟩:=h j (List.mem_range.mp hj)
   exact List.mem_filterMap.mpr ⟨y,Q6 g hx hy,ey⟩
 rw[List.length_range]at h1
 obtain⟨p,q,ep⟩:=List.append_of_mem hx
 rw[ep,List.filterMap_append,List.filterMap_cons,e,List.length_append,List.length_append,List.length_cons]at h1
 have h2:=List.length_filterMap_le f p
 have h3:=List.length_filterMap_le f q
 have h1:p.length+(q.length+1)<=(p.filterMap f).length+(q.filterMap f).length:=h1
 omega
theorem RL {rs:jk} (g:qt rs) {num:Str->Option Nat} {stp:Str->Nat} (L:ZG (jq rs) (·∈rs.map (·.1)) num stp):ZG (QW rs) (·∈rs.map (·.1)) num stp where
 cl:=λ{x y} hx hy=>L.cl hx ((qH g hx).mpr hy)
 n1:=λ{x n m} hx e lt=>let ⟨y,hy,k⟩:=L.n1 hx e lt;⟨y,(qH g hx).mp hy,k⟩
 n2:=λ{x y n} hx e hy=>L.n2 hx e ((qH g hx).mpr hy)
 n3:=λ{x y n} hx e hy gt=>let ⟨z,hz,k⟩:=L.n3 hx e ((qH g hx).mpr hy) gt;⟨z,(qH g (L.cl hx ((qH g hx).mpr hy))).mp hz,k⟩
 n4:=λ{x y n m} hx e hy=>L.n4 hx e ((qH g hx).mpr hy)
 e:=λ{x m} hx e lo hi=>by
   obtain⟨y,hy,ey,ly⟩:=L.e hx e (λj hj=>let ⟨y,hy,k⟩:=lo j hj;⟨y,(qH g hx).mpr hy,k⟩) (λy hy=>hi y ((qH g hx).mp hy))
   exact⟨y,(qH g hx).mp hy,ey,λz hz=>ly z ((qH g (L.cl hx hy)).mpr hz)⟩
theorem uL {rs:jk} (g:qt rs) {f:Str->Option Nat} {stp:Str->Nat} (L:ZG (jq rs) (·∈rs.map (·.1)) f stp) {R:Rs Str} (all:All (QW rs) (rs.map (·.1)) 0 [] R) {z:Str} (hz:z∈rs.map (·.1)):wF rs f z=wT rs R z:=by
 have L':=RK g (yJ (QT g.nd) all)
 have eq:∀{y},y∈rs.map (·.1)->f y=qD R y:=λhy=>KP L L' hy
 unfold wF wT
 rw[eq hz]
 cases qD R z with
 | some n=>rfl
 | none=>
   show Rb.W.edl _=Rb.W.edl _
   congr 1
   refine zK λx=>?_
   rw[J6,jY]
   constructor
   . rintro⟨y,hy,e⟩
     exact⟨y,(qH g hz).mp hy,by rw[<-eq (Q6 g hz hy)];exact e⟩
   . rintro⟨y,hy,e⟩
     have hy':=(qH g hz).mpr hy
     exact⟨y,hy',by rw[eq (Q6 g hz hy')];exact e⟩
def uR:Sp:=λvs H Q _=>∃(l:Addr) (ps:List Addr) (rs:jk),vs=[.ref l]/\Qe H l ps rs/\
 ∀H' D F,qo H H'->H D=none->X8 H' D F (rs.map (·.1))->(∀R,All (QW rs) (rs.map (·.1)) 0 [] R->∀z∈rs.map (·.1),F z=wT rs R z)->(∀z∈rs.map (·.1),Rb.okW (F z))->Q (.ref D) H'
section
variable {P:Program} {w:World} {K:PySem.W.Frag} {mg:Str->Option Value} {base:Heap}
abbrev NT:List Str:=["_law_rows_here","_law_leads_here","_law_numbers","_law_number","_law_more","_law_coming","_law_name","_law_worths_here","_law_here"]
theorem Jv:qu NT ["_law_rows_here"] (qm Zo):=⟨rfl,rfl,rfl,by decide+kernel,rfl,by decide+kernel,by decide+kernel⟩
theorem Vm {f fG:Addr} {fd fdG:FuncData} (F:j7 K "_law_worths" "_law_worths" Zo f fd) (B:Jr mg) (T:Jh K mg) (hdi:mg "dict"=none) (hG:jG K mg "_law_gets" zS Rv fG fdG):qv P w K mg base qV 2 f fd ["_law_rows_here"] uR:=by
 have GG:qv P w K mg base qV 1 fG fdG Rv Xs:=yp hG.fn B
 refine F.okJ Jv (λvs H Q E h=>?_) (λcdv A outer s H vs Q E hr h=>?_)
 . obtain⟨l,ps,rs,rfl,_⟩:=h
   rfl
 . obtain⟨l,ps,rs,rfl,g,q⟩:=h
   have hu:=jJ hr
   refine⟨_,qe (qx (i:=1) Jv.nd rfl (Or.inr rfl) (yP (ji (Zb rfl) (by rfl) hdi boot_dict (qb (jv 0) qf))))
     (qe (qx (i:=2) Jv.nd rfl (Or.inr rfl) jw)
     (qe (qW PassesOwn.never rfl (ja (by rfl) B.rng (qb (qC jf (by rfl) B.len boot_len (qb (jv 0) qf)) qf)) (ql (i:=3) Jv.nd rfl (Or.inr rfl))
       (qe (qx (i:=4) Jv.nd rfl (Or.inl rfl) j3)
       (qh (Zu PassesOwn.never (Qb (jv 4))
         (qe (Qo (i:=5) (N':=["_law_name","_law_numbers","_law_leads_here","_law_number"]) (ix:=[none,some 2,some 1,some 3]) (tt:=xL (tB (VX (qJ 0) (qJ 1))) (tB (Wj Xs [] E0 (jr (qJ 2) (jr (qJ 1) (jr (qJ 0) (jr (qJ 3) QX))))))) (te:=qJ 0) Jv.nd rfl (Or.inl rfl) rfl ⟨rfl,rfl,rfl,rfl,rfl⟩ (XR (jv 1)) (λC s2 H2 fp pins=>
           ⟨ql (i:=0) (show (["_law_name","_law_numbers","_law_leads_here","_law_number"]:List Str).Nodup by decide+kernel) rfl (Or.inl rfl),jF (JW.pt (jZ (j1 (QD hu (jv 0) (jv 1))) (jO (Qb (qY hG GG hr (by rfl) (qb (jv 2) (qb (jv 1) (qb (jv 0) (qb (jv 3) qf))))))))),jv 0⟩))
         (qe (qx (i:=4) Jv.nd rfl (Or.inl rfl) (QC (Us (Nat.lt_of_succ_lt hu)) (jv 5) (QS qf) (qz _)))
         (qh (qW PassesOwn.never rfl (qL (Zv Ub (jv 5) zx (zw qj))) (ql (i:=6) Jv.nd rfl (Or.inl rfl)) (qh (qS hu (jv 2) (jv 6) (jv 3) rfl))))))))))
     (qe (qx (i:=7) Jv.nd rfl (Or.inl rfl) jw)
     (qe (qW PassesOwn.never rfl (XR (jv 1)) (ql (i:=6) Jv.nd rfl (Or.inl rfl))
       (qe (qx (i:=8) Jv.nd rfl (Or.inr rfl) (jP (N':=["_law_other","_law_numbers"]) (ix:=[none,some 2]) (tt:=tB (xJ (qJ 0) (qJ 1))) (te:=Jt (qJ 1) (qJ 0)) rfl ⟨rfl,rfl,rfl,rfl,rfl⟩ (ZQ (qG hu (jv 1) (jv 6) (λ_ _=>rfl))) (λC s2 H2 fp pins=>
         ⟨ql (i:=0) (show (["_law_other","_law_numbers"]:List Str).Nodup by decide+kernel) rfl (Or.inl rfl),jF (j1 (JF hu (jv 0) (jv 1))),qG hu (jv 1) (jv 0) (λ_ _=>rfl)⟩)))
       (qe (qS hu (jv 7) (jv 6) (jl (qb qT (qb (qC (Xa rfl) (by rfl) T.sum boot_sum (qb (jP (N':=["_law_k","_law_here"]) (ix:=[none,some 8]) (tt:=zF (YA (Gv K false) (qJ 0) (qJ 1))) (te:=YA (rI Gs λi j=>.int (i*2^j.toNat)) (tC (.int 1)) (qJ 0)) rfl ⟨rfl,rfl,rfl,rfl,rfl⟩ (ja (by rfl) B.rng (qb qj qf)) (λC s2 H2 fp pins=>
         ⟨ql (i:=0) (show (["_law_k","_law_here"]:List Str).Nodup by decide+kernel) rfl (Or.inl rfl),jF (qr JP (jv 0) (jv 1) (by with_unfolding_all rfl)),qP yc qj (jv 0)⟩)) qf)) qf))) rfl)
       (qh (q5 (j1 (JF hu (jv 6) (jv 2))) (qh (qS hu (jv 7) (jv 6) (jl (qb qT (qb (qG hu (jv 2) (jv 6) (λ_ _=>rfl)) qf))) rfl)) qE)))))
     (qh (qB (jv 7))))))),?_⟩
   have good:=g.good
   have le14:=g.le
   have nd:=good.nd
   refine⟨_,rfl,KF (xk g λd kvs hd ek hv=>⟨d,kvs,rfl,qd,λo=>?_⟩)⟩
   rw[jE]
   have s1:qo H (upd H d (.frz o (.dK kvs))):=qg hd
   have hd1:upd H d (.frz o (.dK kvs)) d=some (.frz o (.dK kvs)):=qd
   generalize upd H d (.frz o (.dK kvs))=H1 at s1 hd1
   have ld:uC H1 d rs:=⟨o,kvs,hd1,ek,λr hr=>let ⟨t,a,b⟩:=hv r hr;⟨t,a,s1 _ _ b⟩⟩
   intro e he
   have s2:qo H1 (upd H1 e (.dK [])):=qg he
   have he2:upd H1 e (.dK []) e=some (.dK []):=qd
   have he0:H e=none:=jt s1 he
   have nde:d≠e:=λz=>by rw[<-z,hd1]at he;cases he
   generalize upd H1 e (.dK [])=H2 at s2 he2
   have ldG:∀{G:Hp},Fr H2 e G->uC G d rs:=λfr=>by
     refine⟨o,kvs,fr _ _ (s2 _ _ hd1) nde,ek,λr hr=>?_⟩
     obtain⟨t,a,b⟩:=hv r hr
     have b2:=s2 _ _ (s1 _ _ b)
     exact⟨t,a,fr _ _ b2 (λz=>by rw[z,he2]at b2;cases b2)⟩
   have hdG:∀{G:Hp},Fr H2 e G->G d=some (.frz o (.dK kvs)):=λfr=>fr _ _ (s2 _ _ hd1) nde
   have lN:(rs.map (·.1)).length=rs.length:=List.length_map ..
   have s02:qo H H2:=s1.trans s2
   have lps:ps.length=rs.length:=g.rows.1
   refine⟨_,rfl,l,_,rfl,.inl (.of (s02 _ _ g.at_)),_,rfl,?_,?_,?_⟩
   . omega
   . rw[List.length_map,lps];omega
   refine QE (λi σ G=>∃(v3 v4 v5 v6:Option V) (R1:Rs Str),σ=[some (.ref l),some (.ref d),some (.ref e),v3,v4,v5,v6,none,none]/\Fr H2 e G/\qO (rs.map (·.1)) G e (qD R1)/\Pt (jq rs) (rs.map (·.1)) R1 i)
     ⟨none,none,none,none,[],rfl,Fr.refl,⟨[],he2,λz=>rfl,List.nodup_nil,λk h=>(nomatch h)⟩,Pt.nil⟩ ?_ ?_
   . rintro i σ G hi ⟨v3,v4,v5,v6,R0,rfl,fr0,nm0,pt0⟩
     rw[Int.zero_add]
     have hi:i < rs.length:=by
       rw[List.length_map,lps]at hi
       simpa using hi
     refine Zg (λσ G=>∃(v5 v6:Option V) (R1:Rs Str) (more:Bool),σ=[some (.ref l),some (.ref d),some (.ref e),some (.int (i:Nat)),some (.bl more),v5,v6,none,none]/\Fr H2 e G/\qO (rs.map (·.1)) G e (qD R1)/\Pt (jq rs) (rs.map (·.1)) R1 i/\
         (more=false->∀x∈rs.map (·.1),qD R1 x=none->¬Zd (jq rs) (qD R1) x i))
       (λσ G=>2*Jo (rs.map (·.1)) G e+(match σ with | [_,_,_,_,some (.bl true),_,_,_,_]=>1 | _=>0))
       ⟨v5,v6,R0,true,rfl,fr0,nm0,pt0,λz=>(nomatch z)⟩ ?_ ?_
     . rintro σ G ⟨v5,v6,R1,more,rfl,fr,nm,pt,fin⟩
       refine⟨_,rfl,more,rfl,?_⟩
       cases more with
       | false=>exact jx ⟨_,_,_,_,R1,rfl,fr,nm,pt.next (fin rfl)⟩
       | true=>
         refine Qc ⟨_,rfl,d,o,kvs,rs.map (·.1),rfl,hdG fr,ek,λW hW=>?_⟩
         refine UQ (zs:=rs.map (·.1)) (λj σ'' G1=>∃(v0:Option V) (cs:List Str),σ''=[v0,some (.ref e),some (.ref d),some (.int (i:Nat))]/\qo G G1/\G1 W=some (.lst (cs.map V.str))/\cs.length<=j/\(∀c∈cs,c∈rs.map (·.1)/\qD R1 c=none/\Zd (jq rs) (qD R1) c i)/\(cs=[]->∀z∈(rs.map (·.1)).take j,qD R1 z=none->¬Zd (jq rs) (qD R1) z i))
           ⟨none,[],rfl,qg hW,qd,Nat.le_refl _,λc h=>(nomatch h),λ_ z h=>(nomatch h)⟩ (λj σ'' G1 _ ⟨_,_,_,s,_⟩=>s _ _ (hdG fr)) ?_ ?_
         . rintro j z σ'' G1 ez ⟨v0,cs,rfl,sG,hWG,lc,hc,hn⟩
           have hz:z∈rs.map (·.1):=List.mem_of_getElem? ez
           have hj:=(List.getElem?_eq_some_iff.mp ez).1
           have more':∀{G2:Hp},qo G1 G2->(qD R1 z=none->¬Zd (jq rs) (qD R1) z i)->∃(v0:Option V) (cs:List Str),[some (V.str z),some (.ref e),some (.ref d),some (.int (i:Nat))]=[v0,some (.ref e),some (.ref d),some (.int (i:Nat))]/\qo G G2/\G2 W=some (.lst (cs.map V.str))/\cs.length<=j+1/\(∀c∈cs,c∈rs.map (·.1)/\qD R1 c=none/\Zd (jq rs) (qD R1) c i)/\(cs=[]->∀z∈(rs.map (·.1)).take (j+1),qD R1 z=none->¬Zd (jq rs) (qD R1) z i):=λ{G2} s' no=>by
             refine⟨_,cs,rfl,sG.trans s',s' _ _ hWG,by omega,hc,λe0 y hy=>?_⟩
             rw[List.take_add_one,ez]at hy
             rcases List.mem_append.mp hy with hy | hy
             . exact hn e0 y hy
             . have:y=z:=by simpa using hy
               rw[this];exact no
           refine⟨_,rfl,_,rfl,e,_,rfl,(nm.mono sG).get z,_,rfl,?_⟩
           cases cz:qD R1 z with
           | some m=>exact jx (jx (more' (λ_ _ h=>h) λh=>by rw[cz]at h;cases h))
           | none=>
             refine Qc ⟨_,rfl,_,rfl,_,rfl,_,rfl,d,e,rs,qD R1,z,i,rfl,(ldG fr).mono sG,good,hz,nm.mono sG,by omega,λG2 b s' hb=>⟨b,rfl,?_⟩⟩
             cases b with
             | false=>exact jx (more' s' λ_ gt=>absurd (hb.mpr gt) (by simp))
             | true=>
               refine Qc ⟨_,rfl,_,s' _ _ hWG,by rw[List.length_map];exact qk (by omega),_,cs++[z],rfl,qo.upd (sG.trans s') hW,by rw[List.map_append];exact qd,by rw[List.length_append];exact Nat.succ_le_succ lc,λc hcc=>?_,λe0=>?_⟩
               . rcases List.mem_append.mp hcc with hcc | hcc
                 . exact hc c hcc
                 . have:c=z:=by simpa using hcc
                   rw[this]
                   exact⟨hz,cz,hb.mp rfl⟩
               . simp at e0
         . rintro σ'' G1 ⟨v0,cs,rfl,sG,hWG,lc,hc,hn⟩
           rw[List.take_of_length_le (Nat.le_refl _)]at hn
           refine⟨_,rfl,by show 0<=sizeLine;decide,λl0 hl0=>?_⟩
           have s3:qo G1 (upd G1 l0 (.lst [])):=qg hl0
           refine⟨W,l0,_,rfl,rfl,.of (s3 _ _ hWG),.of qd,?_⟩
           have sA:qo G (upd G1 l0 (.lst [])):=sG.trans s3
           have hWA:=s3 _ _ hWG
           generalize upd G1 l0 (.lst [])=G2 at sA hWA
           refine⟨_,rfl,_,rfl,W,_,rfl,.of hWA,λlc' hlc=>?_⟩
           have ecut:WY (cs.map V.str) none (some (1:Int))=(cs.take 1).map V.str:=by
             unfold WY
             rw[HT.sIx_none,show (1:Int)=((1:Nat):Int) from rfl,HT.sIx_nat,List.length_map]
             cases cs with
             | nil=>rfl
             | cons a t=>simp
           rw[ecut]
           have s4:qo G2 (upd G2 lc' (.lst ((cs.take 1).map V.str))):=qg hlc
           have hlc4:upd G2 lc' (.lst ((cs.take 1).map V.str)) lc'=some (.lst ((cs.take 1).map V.str)):=qd
           generalize upd G2 lc' (.lst ((cs.take 1).map V.str))=G3 at s4 hlc4
           have sB:qo G G3:=sA.trans s4
           have frB:Fr H2 e G3:=fr.same sB
           have nmB:=nm.mono sB
           obtain⟨ke,hke⟩:=nm.isd
           have nle:lc'≠e:=λz=>by rw[z,sA _ _ hke]at hlc;cases hlc
           refine⟨lc',rfl,⟨_,.of hlc4⟩,?_⟩
           have mu0:Jo (rs.map (·.1)) G e=QO rs (qD R1):=nm.bare
           cases cs with
           | nil=>
             refine jo (K:=K) (a:=lc') (xs:=[]) (λj σ' G'=>∃v6,σ'=[some (.ref l),some (.ref d),some (.ref e),some (.int (i:Nat)),some (.bl false),some (.ref W),v6,none,none]/\Fr H2 e G'/\qO (rs.map (·.1)) G' e (qD R1)/\G' lc'=some (.lst [])) ⟨v6,rfl,frB,nmB,hlc4⟩ (λj σ' G' _ ⟨_,_,_,_,h⟩=>.of h) (λj x σ' G' hx=>(nomatch hx)) ?_
             rintro σ' G' ⟨v6',rfl,fr',nm',_⟩
             refine⟨⟨_,_,R1,false,rfl,fr',nm',pt,λ_=>hn rfl⟩,?_⟩
             show 2*Jo (rs.map (·.1)) G' e+0 < 2*Jo (rs.map (·.1)) G e+1
             rw[mu0,nm'.bare]
             omega
           | cons c cs=>
             obtain⟨hcN,hcn,hcg⟩:=hc c List.mem_cons_self
             have pt':Pt (jq rs) (rs.map (·.1)) (R1++[(i,[c])]) i:=pt.one λx hx=>by
               have:x=c:=by simpa using hx
               subst this
               exact⟨hcN,hcn,hcg⟩
             have ltb:QO rs (qD (R1++[(i,[c])])) < QO rs (qD R1):=XZ (λz hz=>by
               have:z=c:=by simpa using hz
               subst this
               exact⟨hcN,hcn⟩) (by simp)
             refine jo (K:=K) (a:=lc') (xs:=[V.str c]) (λj σ' G'=>∃v6,σ'=[some (.ref l),some (.ref d),some (.ref e),some (.int (i:Nat)),some (.bl true),some (.ref W),v6,none,none]/\Fr H2 e G'/\(j=0->qO (rs.map (·.1)) G' e (qD R1))/\(j=1->qO (rs.map (·.1)) G' e (qD (R1++[(i,[c])])))/\G' lc'=some (.lst [V.str c])) ⟨v6,rfl,frB,λ_=>nmB,λh=>absurd h (by decide),hlc4⟩ (λj σ' G' _ ⟨_,_,_,_,_,h⟩=>.of h) ?_ ?_
             . rintro j x σ' G' hx ⟨v6',rfl,fr',n0,n1,hl'⟩
               have j0:j=0:=by
                 have:=(List.getElem?_eq_some_iff.mp hx).1
                 simpa using this
               subst j0
               obtain rfl:V.str c=x:=Option.some.inj hx
               obtain⟨H4,put,nm4,o4,e4⟩:=(n0 rfl).put (n:=i) hcN hcn (by rw[lN];exact le14)
               refine⟨_,rfl,_,rfl,_,rfl,e,H4,rfl,put,_,rfl,by rw[e4];exact fr'.at_d,λh=>absurd h (by decide),λ_=>nm4.congr λy=>?_,by rw[e4,qi nle];exact hl'⟩
               by_cases ey:y=c
               . subst ey
                 rw[if_pos rfl]
                 exact(xc hcn (by simp)).symm
               . rw[if_neg ey,Qp]
                 cases qD R1 y with
                 | some m=>rfl
                 | none=>
                   show none=if y∈[c] then some i else none
                   rw[if_neg (by simp [ey])]
             . rintro σ' G' ⟨v6',rfl,fr',n0,n1,hl'⟩
               have nm':=n1 rfl
               refine⟨⟨_,_,_,true,rfl,fr',nm',pt',λh=>(nomatch h)⟩,?_⟩
               show 2*Jo (rs.map (·.1)) G' e+1 < 2*Jo (rs.map (·.1)) G e+1
               rw[mu0,nm'.bare]
               omega
     . rintro σ G Q1 Q2 kk ⟨x,ex,b,eb,q1⟩
       exact⟨x,ex,b,eb,kk _ _ q1⟩
   rintro σ G ⟨v3,v4,v5,v6,R1,rfl,fr,nm,pt⟩
   rw[List.length_map,lps,Int.toNat_natCast,<-lN]at pt
   have L:ZG (jq rs) (·∈rs.map (·.1)) (qD R1) (J0 R1):=pt.lab (λx hx y hy=>Q6 good hx hy) λx hx ex=>Gh good hx ex
   have small:∀z∈rs.map (·.1),∀x∈kn rs (qD R1) z,x < 16:=λz hz x hx=>by
     obtain⟨y,hy,ey⟩:=J6.mp hx
     have hyN:=Q6 good hz hy
     have L2:ZG (QW rs) (·∈rs.map (·.1)) (qD R1) (J0 R1):=RL good L
     have:=Yc good L2 hyN ey
     omega
   have okF:∀z∈rs.map (·.1),Rb.okW (wF rs (qD R1) z):=λz hz=>by
     unfold wF
     cases cz:qD R1 z with
     | some n=>
       have:=Yc good (RL good L) hz cz
       show n < 16
       omega
     | none=>exact Rb.setN_lt (m:=16) (small z hz)
   have sHG:qo H G:=λb u hb=>fr _ _ (s02 _ _ hb) (qw hb he0)
   intro D hD
   have hD0:H D=none:=jt sHG hD
   have sD:qo G (upd G D (.dK [])):=qg hD
   have hDD:upd G D (.dK []) D=some (.dK []):=qd
   generalize upd G D (.dK [])=G1 at sD hDD
   have ld1:=(ldG fr).mono sD
   have hd1':=sD _ _ (hdG fr)
   have nm1:=nm.mono sD
   have sH1:=sHG.trans sD
   refine⟨_,rfl,d,o,kvs,rs.map (·.1),rfl,hd1',ek,?_⟩
   have nDd:d≠D:=λz=>by rw[z,hDD]at hd1';cases hd1'
   obtain⟨ke,hke⟩:=nm1.isd
   have nDe:e≠D:=λz=>by
     obtain⟨k0,h0⟩:=nm.isd
     rw[z,hD]at h0;cases h0
   refine UI (zs:=rs.map (·.1)) (λi σ' G2=>∃(v6 v8:Option V),σ'=[some (.ref l),some (.ref d),some (.ref e),v3,v4,v5,v6,some (.ref D),v8]/\Fr G1 D G2/\X8 G2 D (wF rs (qD R1)) ((rs.map (·.1)).take i))
     ⟨v6,none,rfl,Fr.refl,⟨[],hDD,rfl,λz h=>(nomatch h)⟩⟩ (λi σ' G2 _ ⟨_,_,_,f,_⟩=>f _ _ hd1' nDd) ?_ ?_
   . rintro i z σ' G2 ez ⟨v6',v8,rfl,fr2,wt⟩
     have hz:z∈rs.map (·.1):=List.mem_of_getElem? ez
     have hi:=(List.getElem?_eq_some_iff.mp ez).1
     have nz:z∉(rs.map (·.1)).take i:=λm=>jM nd ez (List.mem_map.mpr ⟨z,m,rfl⟩)
     have ld2:uC G2 d rs:=by
       obtain⟨o',kvs',a,b,c⟩:=ld1.at_
       refine⟨o',kvs',fr2 _ _ a nDd,b,λr hr=>?_⟩
       obtain⟨t,u,v⟩:=c r hr
       exact⟨t,u,fr2 _ _ v (λq=>by rw[q,hDD]at v;cases v)⟩
     have nm2:qO (rs.map (·.1)) G2 e (qD R1):=nm1.fr fr2 nDe
     obtain⟨q0,g0,hq0⟩:=ld2.get good hz
     refine⟨_,rfl,_,rfl,d,_,rfl,g0,q0,rfl,⟨_,.of hq0⟩,λW hW=>?_⟩
     refine xo (K:=K) hW hq0 nm2 (Yg good hz) λG3 s3 hW3=>?_
     refine⟨16,rfl,by decide,by decide,λU hU=>?_⟩
     refine UP (n:=16) (out:=λj=>if decide (j∈kn rs (qD R1) z)=true then some (V.int ((2^j:Nat):Int)) else none) (rest:=[some (.ref W)]) hU (by decide) ?_ ?_ ?_
     . intro x hx G' s5 R kk
       refine⟨_,rfl,_,rfl,W,_,rfl,.inl (.of (s5 _ _ hW3)),rfl,Zx _,_,rfl,?_⟩
       have:=kk G' λ_ _ h=>h
       show R (zc (.int (x:Nat)) (JH (kn rs (qD R1) z))) G'
       rw[Ym]
       by_cases c:x∈kn rs (qD R1) z
       . rw[if_pos (decide_eq_true c)]at this
         rw[decide_eq_true c]
         exact this
       . rw[if_neg (by simp [c])]at this
         rw[decide_eq_false c]
         exact this
     . intro x hx v ev G' s5 R kk
       have:v=V.int ((2^x:Nat):Int):=by
         split at ev
         . exact(Option.some.inj ev).symm
         . cases ev
       subst this
       refine⟨_,rfl,1,(x:Int),rfl,rfl,⟨by omega,by omega,by decide⟩,?_⟩
       have e9:(1:Int)*2^ ((x:Int).toNat)=((2^x:Nat):Int):=by
         rw[Int.one_mul,Int.toNat_natCast]
         exact(Int.natCast_pow 2 x).symm
       show R (.int ((1:Int)*2^ ((x:Int).toNat))) G'
       rw[e9]
       exact kk G' λ_ _ h=>h
     . intro G4 s4 hU4
       have eU:(List.range 16).filterMap (λj=>if decide (j∈kn rs (qD R1) z)=true then some (V.int ((2^j:Nat):Int)) else none)=(((List.range 16).filter λk=>decide (k∈kn rs (qD R1) z)).map λk=>2^k).map λn=>V.int ((n:Nat):Int):=by
         generalize List.range 16=rg
         induction rg with
         | nil=>rfl
         | cons a rg ih=>
           rw[List.filterMap_cons,List.filter_cons]
           by_cases c:decide (a∈kn rs (qD R1) z)=true
           . rw[if_pos c,if_pos c,List.map_cons,List.map_cons,<-ih]
           . rw[if_neg c,if_neg c,<-ih]
       rw[eU]at hU4
       have es:=Ki (small z hz)
       have lt:Rb.setN (kn rs (qD R1) z) < 2^16:=Rb.setN_lt (small z hz)
       refine⟨U,_,rfl,.of hU4,by rw[es];exact Nat.lt_trans lt (by decide),?_⟩
       rw[es]
       have s34:qo G2 G4:=s3.trans s4
       refine⟨by show 2<=sizeLine;decide,λt ht=>?_⟩
       have s5:qo G2 (upd G4 t (.tup [.str "endless",.int (Rb.setN (kn rs (qD R1) z):Nat)])):=s34.trans (qg ht)
       have ht5:upd G4 t (.tup [.str "endless",.int (Rb.setN (kn rs (qD R1) z):Nat)]) t=some (.tup [.str "endless",.int (Rb.setN (kn rs (qD R1) z):Nat)]):=qd
       generalize upd G4 t (.tup [.str "endless",.int (Rb.setN (kn rs (qD R1) z):Nat)])=G5 at s5 ht5
       have lz:((rs.map (·.1)).take i).length<=14:=by rw[List.length_take,lN];omega
       have wt':X8 G5 D (λy=>if y=z then .edl (Rb.setN (kn rs (qD R1) z)) else wF rs (qD R1) y) ((rs.map (·.1)).take i):=(wt.mono s5).congr λy hy=>by show _=if y=z then _ else _;rw[if_neg (λq:y=z=>nz (by rw[<-q];exact hy))]
       obtain⟨o6,put6,wt6⟩:=wt'.new nz lz (t:=t) (by rw[if_pos rfl];exact ht5)
       refine⟨_,rfl,_,rfl,D,_,rfl,put6,?_⟩
       have fr6:Fr G1 D (upd G5 D o6):=(fr2.same s5).at_d
       have nm6:qO (rs.map (·.1)) (upd G5 D o6) e (qD R1):=nm1.fr fr6 nDe
       have etk:(rs.map (·.1)).take (i+1)=(rs.map (·.1)).take i++[z]:=by rw[List.take_add_one,ez];rfl
       generalize upd G5 D o6=G6 at wt6 fr6 nm6
       have gz:=nm6.get z
       refine⟨_,rfl,_,rfl,e,_,rfl,gz,_,rfl,?_⟩
       cases cz:qD R1 z with
       | none=>
         refine jx ⟨_,_,rfl,fr6,?_⟩
         rw[etk]
         refine wt6.congr λy hy=>?_
         by_cases q:y=z
         . subst q
           rw[if_pos rfl]
           unfold wF
           rw[cz]
         . rw[if_neg q]
       | some m=>
         rw[cz]at gz
         refine Qc ⟨_,rfl,_,rfl,e,_,rfl,gz,by show 2<=sizeLine;decide,λt2 ht2=>?_⟩
         have s7:qo G6 (upd G6 t2 (.tup [.str "number",.int (m:Nat)])):=qg ht2
         have ht7:upd G6 t2 (.tup [.str "number",.int (m:Nat)]) t2=some (.tup (tW (wF rs (qD R1) z))):=by
           rw[qd]
           unfold wF
           rw[cz]
           rfl
         generalize upd G6 t2 (.tup [.str "number",.int (m:Nat)])=G7 at s7 ht7
         obtain⟨o8,put8,wt8⟩:=(wt6.mono s7).over (F:=wF rs (qD R1)) (z:=z) (by simp) (by rw[List.length_append,List.length_singleton];omega) (λy _ q=>if_neg q) ht7
         refine⟨_,rfl,_,rfl,D,_,rfl,put8,_,_,rfl,(fr6.same s7).at_d,?_⟩
         rw[etk]
         exact wt8
   . rintro σ' G2 ⟨v6',v8,rfl,fr2,wt⟩
     rw[List.take_of_length_le (Nat.le_refl _)]at wt
     exact⟨_,rfl,q G2 D _ (λb u hb=>fr2 _ _ (sH1 _ _ hb) (qw hb hD0)) hD0 wt (λR all z hz=>uL good L all hz) okF⟩
end
end Rh
set_option Elab.async false
set_option linter.all false
set_option maxRecDepth 100000
set_option maxHeartbeats 4000000
namespace Rh
open PySem L2 PyProof.Rows MLab Rb
theorem Wi (u:Rb.W):tW u=[.str (Jj u),.int (Z9 u:Nat)]:=by cases u<;>rfl
def ZA (F:Str->W) (fs:List (W×Str)) (z:Str):List (W×Str):=if F z∈fs.map (·.1) then fs else fs++[(F z,z)]
def jQ (F:Str->W) (zs:List Str):List (W×Str):=zs.foldl (ZA F) []
theorem Y5 (F:Str->W) (zs:List Str) (z:Str):jQ F (zs++[z])=ZA F (jQ F zs) z:=by unfold jQ;rw[List.foldl_append];rfl
structure Fs (F:Str->W) (zs:List Str) (fs:List (W×Str)):Prop where
 nd:(fs.map (·.1)).Nodup
 of:∀p∈fs,p.2∈zs/\F p.2=p.1
 all:∀z∈zs,F z∈fs.map (·.1)
 len:fs.length<=zs.length
theorem Fs.more {F:Str->W} {zs:List Str} {fs:List (W×Str)} (h:Fs F zs fs) (z:Str):Fs F (zs++[z]) (ZA F fs z):=by
 unfold ZA
 by_cases c:F z∈fs.map (·.1)
 . rw[if_pos c]
   refine⟨h.nd,λp hp=>⟨List.mem_append_left _ (h.of p hp).1,(h.of p hp).2⟩,λy hy=>?_,by rw[List.length_append];have:=h.len;omega⟩
   rcases List.mem_append.mp hy with hy | hy
   . exact h.all y hy
   . rw[List.mem_singleton.mp hy];exact c
 . rw[if_neg c]
   refine⟨?_,λp hp=>?_,λy hy=>?_,by rw[List.length_append,List.length_append];have:=h.len;simp;omega⟩
   . rw[List.map_append]
     refine List.nodup_append.mpr ⟨h.nd,List.pairwise_singleton _ _,λa ha b hb e=>c ?_⟩
     have:b=F z:=by simpa using hb
     rw[<-this,<-e]
     exact ha
   . rcases List.mem_append.mp hp with hp | hp
     . exact⟨List.mem_append_left _ (h.of p hp).1,(h.of p hp).2⟩
     . have:p=(F z,z):=by simpa using hp
       subst this
       exact⟨List.mem_append_right _ (List.mem_singleton.mpr rfl),rfl⟩
   . rw[List.map_append]
     rcases List.mem_append.mp hy with hy | hy
     . exact List.mem_append_left _ (h.all y hy)
     . rw[List.mem_singleton.mp hy]
       exact List.mem_append_right _ (by simp)
theorem UF {F:Str->W}:∀(ys zs:List Str) (fs:List (W×Str)),Fs F zs fs->Fs F (zs++ys) (ys.foldl (ZA F) fs)
 | [],zs,fs,h=>by rw[List.append_nil];exact h
 | y::ys,zs,fs,h=>by
   have:=UF ys (zs++[y]) _ (h.more y)
   rw[List.append_assoc]at this
   exact this
theorem WS (F:Str->W) (zs:List Str):Fs F zs (jQ F zs):=UF zs [] [] ⟨List.nodup_nil,λp h=>(nomatch h),λz h=>(nomatch h),Nat.le_refl _⟩
def look (fs:List (W×Str)) (u:W):Str:=((fs.find? λp=>decide (p.1=u)).map (·.2)).getD (Str.ofString "")
theorem zu:∀{fs:List (W×Str)} {u:W} {z:Str},(fs.map (·.1)).Nodup->(u,z)∈fs->look fs u=z
 | [],_,_,_,h=>nomatch h
 | p::fs,u,z,nd,h=>by
   obtain⟨n1,n2⟩:=List.nodup_cons.mp nd
   unfold look
   rw[List.find?_cons]
   by_cases c:p.1=u
   . rw[decide_eq_true c]
     rcases List.mem_cons.mp h with e | h
     . rw[<-e];rfl
     . exact absurd (List.mem_map.mpr ⟨_,h,c.symm⟩) n1
   . rw[decide_eq_false c]
     rcases List.mem_cons.mp h with e | h
     . exact absurd (by rw[<-e]) c
     . exact zu n2 h
theorem Fs.look {F:Str->W} {zs:List Str} {fs:List (W×Str)} (h:Fs F zs fs) {u:W} (hu:u∈fs.map (·.1)):(u,look fs u)∈fs/\look fs u∈zs/\F (look fs u)=u:=by
 obtain⟨p,hp,rfl⟩:=List.mem_map.mp hu
 have e:Rh.look fs p.1=p.2:=zu h.nd hp
 rw[e]
 exact⟨hp,h.of p hp⟩
def kW (u:W):List qA:=[Sum.inr (Jj u),Sum.inl (Z9 u:Int)]
theorem ZP (u:W):(kW u).map kV=tW u:=by rw[Wi];rfl
theorem yM {u v:W} (h:kW u=kW v):u=v:=by
 unfold kW at h
 obtain⟨h1,h2⟩:=List.cons.inj h
 obtain⟨h2,_⟩:=List.cons.inj h2
 have h1:=Sum.inr.inj h1
 have h2:=Int.ofNat.inj (Sum.inl.inj h2)
 have ne:(Str.ofString "number")≠(Str.ofString "endless"):=by decide+kernel
 cases u with
 | num n=>cases v with
   | num m=>exact congrArg _ h2
   | edl b=>exact absurd h1 ne
 | edl a=>cases v with
   | num m=>exact absurd h1.symm ne
   | edl b=>exact congrArg _ h2
def fT (fs:List (W×Str)):List (List qA×V):=fs.map λp=>(kW p.1,V.str p.2)
theorem XU:∀{fs:List (W×Str)} {u:W} {z:Str},(fs.map (·.1)).Nodup->(u,z)∈fs->qM (fT fs) (kW u)=some (.str z)
 | [],_,_,_,h=>nomatch h
 | p::fs,u,z,nd,h=>by
   obtain⟨n1,n2⟩:=List.nodup_cons.mp nd
   show qM ((kW p.1,V.str p.2)::fT fs) (kW u)=_
   by_cases c:p.1=u
   . rw[je (by rw[c])]
     rcases List.mem_cons.mp h with e | h
     . rw[<-e]
     . exact absurd (List.mem_map.mpr ⟨_,h,c.symm⟩) n1
   . rw[qZ (λe=>c (yM e))]
     rcases List.mem_cons.mp h with e | h
     . exact absurd (by rw[<-e]) c
     . exact XU n2 h
theorem zC:∀{fs:List (W×Str)} {u:W},u∉fs.map (·.1)->qM (fT fs) (kW u)=none
 | [],_,_=>rfl
 | p::fs,u,h=>by
   show qM ((kW p.1,V.str p.2)::fT fs) (kW u)=_
   rw[qZ (λe=>h (by rw[<-yM e];exact List.mem_cons_self)),zC λm=>h (List.mem_cons_of_mem _ m)]
theorem XV (fs:List (W×Str)):(fT fs).length=fs.length:=List.length_map ..
theorem u8 {fs:List (W×Str)} {i:Nat} {k:List qA} {y:V} (h:(fT fs)[i]?=some (k,y)):∃p,fs[i]?=some p/\p∈fs/\k=kW p.1/\y=.str p.2:=by
 unfold fT at h
 rw[List.getElem?_map]at h
 cases e:fs[i]? with
 | none=>rw[e]at h;cases h
 | some p=>
   rw[e]at h
   have:=Option.some.inj h
   exact⟨p,rfl,List.mem_of_getElem? e,(Prod.mk.inj this).1.symm,(Prod.mk.inj this).2.symm⟩
theorem xf {fs:List (W×Str)} {F:Str->W} {z:Str} (h:F z∉fs.map (·.1)):jp (fT fs) (kW (F z)) (.str z)=fT (ZA F fs z):=by
 rw[jW _ (zC h)]
 unfold ZA
 rw[if_neg h]
 unfold fT
 rw[List.map_append]
 rfl
theorem WR {fs:List (W×Str)} {F:Str->W} {z:Str} (h:F z∈fs.map (·.1)):ZA F fs z=fs:=by unfold ZA;rw[if_pos h]
def ends (fs:List (W×Str)) (p:W×Str):List Str:=match p.1 with
 | .num n=>(List.range n).map λk=>look fs (.num k)
 | .edl b=>(memN b 16).map (λk=>look fs (.num k))++[p.2]
def jU (fs:List (W×Str)):jk:=fs.map λp=>(p.2,ends fs p)
theorem jB (fs:List (W×Str)):(jU fs).map (·.1)=fs.map (·.2):=by unfold jU;rw[List.map_map];rfl
structure Wc (F:Str->W) (zs:List Str):Prop where
 num:∀z∈zs,∀n,F z=.num n->∀m,m < n->∃y∈zs,F y=.num m
 edl:∀z∈zs,∀b,F z=.edl b->∀k,b.testBit k=true->∃y∈zs,F y=.num k
 ok:∀z∈zs,okW (F z)
 nm:∀z∈zs,jc z=true
theorem Fs.has {F:Str->W} {zs:List Str} {fs:List (W×Str)} (h:Fs F zs fs) (c:Wc F zs) {p:W×Str} (hp:p∈fs):
   match p.1 with | .num n=>n < 16/\∀m,m < n->W.num m∈fs.map (·.1) | .edl b=>b < 65536/\∀k,b.testBit k=true->W.num k∈fs.map (·.1):=by
 obtain⟨m,e⟩:=h.of p hp
 have ok:=c.ok _ m
 rw[e]at ok
 cases k:p.1 with
 | num n=>
   rw[k]at e ok
   exact⟨ok,λj hj=>by obtain⟨y,hy,ey⟩:=c.num _ m n e j hj;rw[<-ey];exact h.all y hy⟩
 | edl b=>
   rw[k]at e ok
   exact⟨ok,λj hj=>by obtain⟨y,hy,ey⟩:=c.edl _ m b e j hj;rw[<-ey];exact h.all y hy⟩
theorem JJ {fs:List (W×Str)} {p:W×Str} {n:Nat} (e:p.1=.num n):ends fs p=(List.range n).map λk=>look fs (.num k):=by unfold ends;rw[e]
theorem JK {fs:List (W×Str)} {p:W×Str} {b:Nat} (e:p.1=.edl b):ends fs p=(memN b 16).map (λk=>look fs (.num k))++[p.2]:=by unfold ends;rw[e]
theorem Ka {b k:Nat} (h:b < 65536) (hk:b.testBit k=true):k < 16:=Nat.lt_of_not_le λle=>by
 have h2:(2:Nat)^16<=2^k:=Nat.pow_le_pow_right (by decide) le
 have:b < 2^k:=Nat.lt_of_lt_of_le h h2
 rw[Nat.testBit_lt_two_pow this]at hk
 cases hk
theorem Jb {F:Str->W} {zs:List Str} {fs:List (W×Str)} (h:Fs F zs fs) (c:Wc F zs) {p:W×Str} (hp:p∈fs) {y:Str}:
   y∈ends fs p↔match p.1 with | .num n=>∃k,k < n/\y=look fs (.num k) | .edl b=>(∃k,b.testBit k=true/\y=look fs (.num k))\/y=p.2:=by
 have hs:=h.has c hp
 cases e:p.1 with
 | num n=>
   rw[JJ e,List.mem_map]
   exact⟨λ⟨k,hk,z⟩=>⟨k,List.mem_range.mp hk,z.symm⟩,λ⟨k,hk,z⟩=>⟨k,List.mem_range.mpr hk,z.symm⟩⟩
 | edl b=>
   rw[e]at hs
   rw[JK e,List.mem_append,List.mem_map,List.mem_singleton]
   refine or_congr ⟨λ⟨k,hk,z⟩=>⟨k,(jI.mp hk).2,z.symm⟩,λ⟨k,hk,z⟩=>⟨k,jI.mpr ⟨?_,hk⟩,z.symm⟩⟩ Iff.rfl
   exact Ka hs.1 hk
theorem Fs.nd2 {F:Str->W} {zs:List Str} {fs:List (W×Str)} (h:Fs F zs fs):(fs.map (·.2)).Nodup:=by
 have e:fs.map (·.1)=(fs.map (·.2)).map F:=by
   rw[List.map_map]
   exact List.map_congr_left λp hp=>(h.of p hp).2.symm
 have:=h.nd
 rw[e]at this
 exact(List.pairwise_map.mp this).imp λhab e=>hab (congrArg F e)
theorem yE {F:Str->W} {zs:List Str} {fs:List (W×Str)} (h:Fs F zs fs) (c:Wc F zs) {p:W×Str} (hp:p∈fs) {y:Str} (hy:y∈ends fs p) (ne:y≠p.2\/∃n,p.1=.num n):∃k,F y=.num k/\y=look fs (.num k)/\(W.num k,y)∈fs:=by
 have hs:=h.has c hp
 have iy:=(Jb h c hp).mp hy
 cases e:p.1 with
 | num n=>
   rw[e]at hs iy
   obtain⟨k,hk,rfl⟩:=iy
   have:=h.look (hs.2 k hk)
   exact⟨k,this.2.2,rfl,this.1⟩
 | edl b=>
   rw[e]at hs iy
   rcases iy with ⟨k,hk,rfl⟩ | rfl
   . have:=h.look (hs.2 k hk)
     exact⟨k,this.2.2,rfl,this.1⟩
   . rcases ne with ne | ⟨n,e'⟩
     . exact absurd rfl ne
     . rw[e]at e';cases e'
theorem ut {F:Str->W} {zs:List Str} {fs:List (W×Str)} (h:Fs F zs fs) (c:Wc F zs) {p:W×Str} (hp:p∈fs) {y:Str} (hy:y∈ends fs p):y∈fs.map (·.2):=by
 by_cases e:y=p.2
 . rw[e];exact List.mem_map.mpr ⟨p,hp,rfl⟩
 . obtain⟨k,_,_,m⟩:=yE h c hp hy (.inl e)
   exact List.mem_map.mpr ⟨_,m,rfl⟩
theorem yY {l:List Nat} {f:Nat->Str} (nd:l.Nodup) (h:∀a∈l,∀b∈l,f a=f b->a=b):(l.map f).Nodup:=by
 refine List.pairwise_map.mpr ?_
 exact nd.imp_of_mem λ{a b} ha hb ne e=>ne (h a ha b hb e)
theorem uq {F:Str->W} {zs:List Str} {fs:List (W×Str)} (h:Fs F zs fs) (c:Wc F zs) {p:W×Str} (hp:p∈fs):(ends fs p).Nodup:=by
 have hs:=h.has c hp
 have inj:∀{a b:Nat},W.num a∈fs.map (·.1)->W.num b∈fs.map (·.1)->look fs (.num a)=look fs (.num b)->a=b:=λha hb e=>by
   have e1:=(h.look ha).2.2
   rw[e,(h.look hb).2.2]at e1
   exact(W.num.inj e1).symm
 cases e:p.1 with
 | num n=>
   rw[e]at hs
   rw[JJ e]
   exact yY List.nodup_range λa ha b hb z=>inj (hs.2 a (List.mem_range.mp ha)) (hs.2 b (List.mem_range.mp hb)) z
 | edl b=>
   rw[e]at hs
   rw[JK e]
   refine List.nodup_append.mpr ⟨yY (List.nodup_range.sublist List.filter_sublist) λa ha b' hb z=>inj (hs.2 a (jI.mp ha).2) (hs.2 b' (jI.mp hb).2) z,List.pairwise_singleton _ _,λy hy y' hy' z=>?_⟩
   obtain⟨k,hk,rfl⟩:=List.mem_map.mp hy
   have e1:=(h.look (hs.2 k (jI.mp hk).2)).2.2
   rw[z,List.mem_singleton.mp hy',(h.of p hp).2,e]at e1
   cases e1
theorem Yn {F:Str->W} {zs:List Str} {fs:List (W×Str)} (h:Fs F zs fs) (c:Wc F zs) (few:((jU fs).map λr=>r.2.length).sum<=40):qt (jU fs):=by
 refine⟨λr hr=>?_,by rw[jB];exact h.nd2,λr hr y hy=>?_,λr hr=>?_,few⟩
 all_goals obtain⟨p,hp,rfl⟩:=List.mem_map.mp hr
 . exact c.nm _ (h.of p hp).1
 . rw[jB]
   exact ut h c hp hy
 . exact uq h c hp
def nF (F:Str->W) (z:Str):Option Nat:=match F z with
 | .num n=>some n
 | .edl _=>none
def sF (F:Str->W) (z:Str):Nat:=match F z with
 | .num n=>n
 | .edl _=>0
theorem ZM {F:Str->W} {z:Str} {n:Nat} (e:F z=.num n):nF F z=some n:=by unfold nF;rw[e]
theorem yA {F:Str->W} {z:Str} {b:Nat} (e:F z=.edl b):nF F z=none:=by unfold nF;rw[e]
theorem XC {F:Str->W} {z:Str} {n:Nat} (e:F z=.num n):sF F z=n:=by unfold sF;rw[e]
theorem YX {F:Str->W} {z:Str} {n:Nat} (e:nF F z=some n):F z=.num n:=by
 unfold nF at e
 cases k:F z with
 | num m=>rw[k]at e;rw[Option.some.inj e]
 | edl b=>rw[k]at e;cases e
theorem KE {F:Str->W} {z:Str} (e:nF F z=none):∃b,F z=.edl b:=by
 unfold nF at e
 cases k:F z with
 | num m=>rw[k]at e;cases e
 | edl b=>exact⟨b,rfl⟩
theorem Jz {F:Str->W} {zs:List Str} {fs:List (W×Str)} (h:Fs F zs fs) (g:qt (jU fs)) {p:W×Str} (hp:p∈fs):jq (jU fs) p.2=ends fs p:=JB g.nd (r:=(p.2,ends fs p)) (List.mem_map.mpr ⟨p,hp,rfl⟩)
theorem vC {F:Str->W} {zs:List Str} {fs:List (W×Str)} (h:Fs F zs fs) (c:Wc F zs) (g:qt (jU fs)):ZG (jq (jU fs)) (·∈(jU fs).map (·.1)) (nF F) (sF F) where
 cl:=λ{x y} hx hy=>Q6 g hx hy
 n1:=λ{x n m} hx e lt=>by
   rw[jB]at hx
   obtain⟨p,hp,rfl⟩:=List.mem_map.mp hx
   rw[Jz h g hp]
   have e':p.1=.num n:=by rw[<-(h.of p hp).2];exact YX e
   have hs:=h.has c hp
   rw[e']at hs
   have lk:=h.look (hs.2 m lt)
   refine⟨look fs (.num m),(Jb h c hp).mpr (by rw[e'];exact⟨m,lt,rfl⟩),ZM lk.2.2,?_⟩
   rw[XC lk.2.2,XC (YX e)]
   exact lt
 n2:=λ{x y n} hx e hy=>by
   rw[jB]at hx
   obtain⟨p,hp,rfl⟩:=List.mem_map.mp hx
   rw[Jz h g hp]at hy
   have e':p.1=.num n:=by rw[<-(h.of p hp).2];exact YX e
   have hs:=h.has c hp
   have iy:=(Jb h c hp).mp hy
   rw[e']at iy hs
   obtain⟨k,hk,rfl⟩:=iy
   rw[ZM (h.look (hs.2 k hk)).2.2]
   exact λz=>by have:=Option.some.inj z;omega
 n3:=λ{x y n} hx e hy gt=>by
   rw[jB]at hx
   obtain⟨p,hp,rfl⟩:=List.mem_map.mp hx
   rw[Jz h g hp]at hy
   have e':p.1=.num n:=by rw[<-(h.of p hp).2];exact YX e
   have hs:=h.has c hp
   have iy:=(Jb h c hp).mp hy
   rw[e']at iy hs
   obtain⟨k,hk,rfl⟩:=iy
   have:=gt k (ZM (h.look (hs.2 k hk)).2.2)
   omega
 n4:=λ{x y n m} hx e hy e2 lt=>by
   rw[XC (YX e),XC (YX e2)]
   exact lt
 e:=λ{x m} hx e lo hi=>by
   have hx':=hx
   rw[jB]at hx
   obtain⟨p,hp,rfl⟩:=List.mem_map.mp hx
   obtain⟨b,e1⟩:=KE e
   have e':p.1=.edl b:=by rw[<-(h.of p hp).2];exact e1
   refine⟨p.2,?_,e,hi⟩
   rw[Jz h g hp]
   exact(Jb h c hp).mpr (by rw[e'];exact .inr rfl)
theorem kl {F:Str->W} {zs:List Str} {fs:List (W×Str)} (h:Fs F zs fs) (c:Wc F zs) (g:qt (jU fs)) {R:Rs Str} (all:All (QW (jU fs)) ((jU fs).map (·.1)) 0 [] R) {p:W×Str} (hp:p∈fs):wT (jU fs) R p.2=p.1:=by
 have hz:p.2∈(jU fs).map (·.1):=by rw[jB];exact List.mem_map.mpr ⟨p,hp,rfl⟩
 rw[<-uL g (vC h c g) all hz]
 have eF:=(h.of p hp).2
 unfold wF
 cases e:p.1 with
 | num n=>
   rw[e]at eF
   rw[ZM eF]
 | edl b=>
   rw[e]at eF
   rw[yA eF]
   have hs:=h.has c hp
   rw[e]at hs
   show W.edl _=W.edl _
   congr 1
   have e16:setN (memN b 16)=b:=xS hs.1
   rw[<-e16]
   refine zK λx=>?_
   rw[J6,Jz h g hp]
   constructor
   . rintro⟨y,hy,ey⟩
     have iy:=(Jb h c hp).mp hy
     rw[e]at iy
     rcases iy with ⟨k,hk,rfl⟩ | rfl
     . rw[ZM (h.look (hs.2 k hk)).2.2]at ey
       cases ey
       exact jI.mpr ⟨Ka hs.1 hk,hk⟩
     . rw[yA eF]at ey
       cases ey
   . intro hx
     obtain⟨x1,x2⟩:=jI.mp hx
     exact⟨look fs (.num x),(Jb h c hp).mpr (by rw[e];exact .inl ⟨x,x2,rfl⟩),ZM (h.look (hs.2 x x2)).2.2⟩
theorem Yp {F':Str->W}:∀(l2 l1:List (W×Str)),((l1++l2).map (·.1)).Nodup->(∀p∈l2,F' p.2=p.1)->(l2.map (·.2)).foldl (ZA F') l1=l1++l2
 | [],l1,_,_=>(List.append_nil _).symm
 | p::l2,l1,nd,h=>by
   have e:=h p List.mem_cons_self
   have n:F' p.2∉l1.map (·.1):=λm=>by
     rw[List.map_append,List.nodup_append]at nd
     rw[e]at m
     exact nd.2.2 _ m p.1 (by simp) rfl
   rw[List.map_cons,List.foldl_cons]
   have e1:ZA F' l1 p.2=l1++[p]:=by unfold ZA;rw[if_neg n,e]
   rw[e1,Yp l2 (l1++[p]) (by rw[List.append_assoc];exact nd) λq hq=>h q (List.mem_cons_of_mem _ hq),List.append_assoc]
   rfl
theorem vR {F F':Str->W} {zs:List Str} {fs:List (W×Str)} (h:Fs F zs fs) (e:∀p∈fs,F' p.2=p.1):jQ F' (fs.map (·.2))=fs:=by
 have:=Yp fs [] (by exact h.nd) e
 exact this
end Rh
set_option Elab.async false
set_option linter.all false
set_option maxRecDepth 100000
set_option maxHeartbeats 4000000
namespace Rh
open PySem L2 PyProof.Rows MLab Rb
abbrev Xz:Stmt:=top 45
abbrev Ni:Stmt:=top 46
abbrev Uh:Stmt:=top 47
abbrev Nh:Stmt:=top 48
structure uE (K:PySem.W.Frag) (mg:Str->Option Value):Prop where
 lw:∃f fd,jG K mg "label_worth" Ng ["label"] f fd
 nin:∃f fd,jG K mg "numbers_in" zN ["bits"] f fd
 wt:∃f fd,jG K mg "worths_told" Xz ["ground"] f fd
 fp:∃f fd,jG K mg "first_places" Ni ["told"] f fd
 lr:∃f fd,jG K mg "least_row" Uh ["firsts","worth"] f fd
 lg:∃f fd,jG K mg "least_ground" Nh ["ground"] f fd
 need:∃f fd,jG K mg "need_rows" Wu ["rows"] f fd
def uO (CG:Addr):Sp:=λvs H Q _=>∃(g:Addr) (rs:jk),vs=[.ref g]/\Qq CG H g rs/\qt rs/\rs.length<=14/\
 ∀H' D R,qo H H'->H D=none->X8 H' D (wT rs R) (rs.map (·.1))->All (QW rs) (rs.map (·.1)) 0 [] R->Q (.ref D) H'
section
variable {P:Program} {w:World} {K:PySem.W.Frag} {mg:Str->Option Value} {base:Heap}
theorem Ud:qu ["ground","labels","told","name"] ["ground"] (qm Xz):=⟨rfl,rfl,rfl,by decide+kernel,rfl,by decide+kernel,by decide+kernel⟩
theorem yh {f CG:Addr} {fd:FuncData} (F:j7 K "worths_told" "worths_told" Xz f fd) (h:WF K mg) (B:Jr mg) (Z:Wk K mg) (G:QK mg) (T:Jh K mg) (M:GM K mg CG) (Y:xx K mg) (O:uE K mg):qv P w K mg base qV 9 f fd ["ground"] (uO CG):=by
 obtain⟨fB,fdB,hB⟩:=Y.labels
 obtain⟨fL,fdL,hL⟩:=O.lw
 obtain⟨fC,fdC,C⟩:=M.cls
 obtain⟨fN,fdN,hN⟩:=M.nm
 have GN:qv P w K mg base qV 1 fN fdN ["self"] (Ju CG):=JQ hN.fn C G
 have GB:qv P w K mg base qV 8 fB fdB ["ground"] (Ws CG):=vp hB.fn B G T M Y
 have GL:qv P w K mg base qV 5 fL fdL ["label"] (Ra h.CN h.CE):=Rx hL.fn h B Z
 refine F.okJ Ud (λvs H Q E h=>?_) (λcdv A outer s H vs Q E hr h0=>?_)
 . obtain⟨g,rs,rfl,_⟩:=h
   rfl
 . obtain⟨g,rs,rfl,gr,good,le14,q⟩:=h0
   have hu:=jJ hr
   refine⟨_,qe (qx (i:=1) Ud.nd rfl (Or.inl rfl) (qY hB GB hr (by rfl) (qb (jv 0) qf)))
     (qe (qx (i:=2) Ud.nd rfl (Or.inl rfl) jw)
     (qe (qW PassesOwn.never rfl (qL (Yk hN C.cl GN (hr.mono (by decide)) (jv 0))) (ql (i:=3) Ud.nd rfl (Or.inl rfl))
       (qh (qS hu (jv 2) (jv 3) (w9 h (hr.mono (by decide)) (qY hL GL (hr.mono (by decide)) (by rfl) (qb (qG hu (jv 1) (jv 3) (λ_ _=>rfl)) qf))) rfl)))
     (qh (qB (jv 2))))),?_⟩
   refine⟨_,rfl,g,rs,rfl,gr,good,le14,λH1 L R s1 hL1 lb all=>?_⟩
   have La:=yJ (QT good.nd) all
   intro D hD
   have s2:qo H1 (upd H1 D (.dK [])):=qg hD
   have hD2:upd H1 D (.dK []) D=some (.dK []):=qd
   generalize upd H1 D (.dK [])=H2 at s2 hD2
   obtain⟨dx,fs,hg,l1,l2⟩:=(gr.mono (s1.trans s2)).ins
   refine⟨_,rfl,g,dx,fs,rfl,hg,l1,g,rs,rfl,gr.mono (s1.trans s2),λln hln=>?_⟩
   have s3:qo H2 (upd H2 ln (.lst ((rs.map (·.1)).map V.str))):=qg hln
   have hl3:upd H2 ln (.lst ((rs.map (·.1)).map V.str)) ln=some (.lst ((rs.map (·.1)).map V.str)):=qd
   generalize upd H2 ln (.lst ((rs.map (·.1)).map V.str))=H3 at s3 hl3
   have nlD:ln≠D:=λe=>by rw[e,hD2]at hln;cases hln
   have hD0:H D=none:=jt s1 hD
   refine⟨ln,rfl,⟨_,.of hl3⟩,?_⟩
   refine jo (K:=K) (a:=ln) (xs:=(rs.map (·.1)).map V.str) (λi σ' X=>∃v3:Option V,σ'=[some (.ref g),some (.ref L),some (.ref D),v3]/\Fr H3 D X/\X8 X D (wT rs R) ((rs.map (·.1)).take i))
     ⟨none,rfl,Fr.refl,⟨[],s3 _ _ hD2,rfl,λz h=>(nomatch h)⟩⟩ (λi σ' X _ ⟨_,_,f,_⟩=>.of (f _ _ hl3 nlD)) ?_ ?_
   . rintro i y σ' X hy ⟨v3,rfl,fr,wt⟩
     obtain⟨z,ez,hz,rfl⟩:=zm hy
     have hi:=(List.getElem?_eq_some_iff.mp ez).1
     rw[List.length_map]at hi
     have lbX:∃t,jm X L (.str z) (some (.ref t))/\X t=some (.tup (Zt rs R z)):=by
       obtain⟨kvs,a,_,c⟩:=((lb.mono s2).mono s3).at_
       obtain⟨r,hr',rfl⟩:=List.mem_map.mp hz
       obtain⟨t,u,v⟩:=c r hr'
       have hLX:X L=some (.dK kvs):=fr _ _ a λe=>by
         obtain⟨kv0,b0,_⟩:=lb.at_
         rw[e,hD]at b0
         cases b0
       refine⟨t,by rw[<-u];exact jm.k (k:=(Sum.inr r.1:qA)) hLX,fr _ _ v λe=>?_⟩
       have:=s3 _ _ hD2
       rw[e,this]at v
       cases v
     obtain⟨t,gt,ht⟩:=lbX
     refine⟨_,rfl,_,rfl,L,_,rfl,gt,t,rs,R,z,rfl,ht,uI good La hz,λa X1 s4 iw=>⟨a,_,rfl,iw,λp hp=>?_⟩⟩
     have s5:qo X (upd X1 p (.tup [.str (Jj (wT rs R z)),.int (Z9 (wT rs R z):Nat)])):=s4.trans (qg hp)
     have hp5:upd X1 p (.tup [.str (Jj (wT rs R z)),.int (Z9 (wT rs R z):Nat)]) p=some (.tup (tW (wT rs R z))):=by rw[Wi];exact qd
     generalize upd X1 p (.tup [.str (Jj (wT rs R z)),.int (Z9 (wT rs R z):Nat)])=X2 at s5 hp5
     have nz:z∉(rs.map (·.1)).take i:=λm=>by
       have:=jM good.nd ez
       exact this (List.mem_map.mpr ⟨z,m,rfl⟩)
     obtain⟨o,put,wt'⟩:=(wt.mono s5).new nz (by rw[List.length_take];omega) hp5
     refine⟨_,rfl,_,rfl,D,_,rfl,put,_,rfl,(fr.same s5).at_d,?_⟩
     rw[List.take_add_one,ez]
     exact wt'
   . rintro σ' X ⟨v3,rfl,fr,wt⟩
     rw[List.length_map,List.take_of_length_le (Nat.le_refl _)]at wt
     exact⟨_,rfl,q X D R (λb u hb=>fr _ _ (s3 _ _ (s2 _ _ (s1 _ _ hb))) (qw hb hD0)) hD0 wt all⟩
end
end Rh
set_option Elab.async false
set_option linter.all false
set_option maxRecDepth 100000
set_option maxHeartbeats 4000000
namespace Rh
open PySem L2 PyProof.Rows MLab Rb
theorem uJ {rs:jk} {R:Rs Str} {z:Str} {n:Nat} (e:wT rs R z=.num n):qD R z=some n:=by
 cases k:qD R z with
 | some m=>rw[ZI k]at e;rw[W.num.inj e]
 | none=>rw[Xl k]at e;cases e
theorem uK {rs:jk} {R:Rs Str} {z:Str} {b:Nat} (e:wT rs R z=.edl b):qD R z=none/\b=setN (YG rs (qD R) z):=by
 cases k:qD R z with
 | some m=>rw[ZI k]at e;cases e
 | none=>rw[Xl k]at e;exact⟨rfl,(W.edl.inj e).symm⟩
theorem uH {rs:jk} (good:qt rs) {R:Rs Str} (all:All (QW rs) (rs.map (·.1)) 0 [] R):Wc (wT rs R) (rs.map (·.1)):=by
 have L:=yJ (QT good.nd) all
 refine⟨λz hz n e m lt=>?_,λz hz b e k hk=>?_,λz hz=>uI good L hz,λz hz=>?_⟩
 . obtain⟨y,hy,ey,_⟩:=L.n1 hz (uJ e) lt
   exact⟨y,QT good.nd z hz y hy,ZI ey⟩
 . obtain⟨e1,rfl⟩:=uK e
   rw[testBit_setN]at hk
   obtain⟨y,hy,ey⟩:=jY.mp (of_decide_eq_true hk)
   exact⟨y,QT good.nd z hz y hy,ZI ey⟩
 . obtain⟨r,hr,rfl⟩:=List.mem_map.mp hz
   exact good.nm r hr
theorem Wl {g:Str->Nat}:∀{a b:List Str},a.Nodup->(∀z∈a,z∈b)->(a.map g).sum<=(b.map g).sum
 | [],_,_,_=>Nat.zero_le _
 | x::a,b,nd,h=>by
   obtain⟨n1,n2⟩:=List.nodup_cons.mp nd
   have p:=List.perm_cons_erase (h x List.mem_cons_self)
   have e:=(p.map g).sum_nat
   rw[e,List.map_cons,List.map_cons,List.sum_cons,List.sum_cons]
   refine Nat.add_le_add_left (Wl n2 λz hz=>?_) _
   exact(List.mem_erase_of_ne (λq=>n1 (by rw[<-q];exact hz))).mpr (h z (List.mem_cons_of_mem _ hz))
theorem ur {rs:jk} (good:qt rs) {R:Rs Str} (all:All (QW rs) (rs.map (·.1)) 0 [] R) {fs:List (W×Str)} (h:Fs (wT rs R) (rs.map (·.1)) fs) {p:W×Str} (hp:p∈fs):(ends fs p).length<=(jq rs p.2).length:=by
 have L:=RK good (yJ (QT good.nd) all)
 obtain⟨m,e⟩:=h.of p hp
 cases k:p.1 with
 | num n=>
   rw[k]at e
   rw[JJ k,List.length_map]
   have h1:=QB (l:=List.range n) (m:=(jq rs p.2).filterMap (qD R)) List.nodup_range λj hj=>by
     obtain⟨y,hy,ey,_⟩:=L.n1 m (uJ e) (List.mem_range.mp hj)
     exact List.mem_filterMap.mpr ⟨y,hy,ey⟩
   exact Nat.le_trans h1 (List.length_filterMap_le ..)
 | edl b=>
   rw[k]at e
   rw[JK k,List.length_append,List.length_map,List.length_singleton]
   obtain⟨e1,eb⟩:=uK e
   have h1:=QB (l:=memN b 16) (m:=(jq rs p.2).filterMap (qD R)) (List.nodup_range.sublist List.filter_sublist) λj hj=>by
     have:=(jI.mp hj).2
     rw[eb,testBit_setN]at this
     obtain⟨y,hy,ey⟩:=jY.mp (of_decide_eq_true this)
     exact List.mem_filterMap.mpr ⟨y,(qH good m).mpr hy,ey⟩
   have lk:Lacks (lackN (kn rs (qD R) p.2)) (kn rs (qD R) p.2):=lackI_lacks _
   obtain⟨y,hy,ey,_⟩:=L.e m e1 (λj hj=>J6.mp (lk.2 j hj)) (λy hy z=>lk.1 (J6.mpr ⟨y,hy,z⟩))
   obtain⟨u,v,ep⟩:=List.append_of_mem hy
   rw[ep,List.filterMap_append,List.filterMap_cons,ey,List.length_append]at h1
   have h2:=List.length_filterMap_le (qD R) u
   have h3:=List.length_filterMap_le (qD R) v
   rw[ep,List.length_append,List.length_cons]
   have h1:(memN b 16).length<=(u.filterMap (qD R)).length+(v.filterMap (qD R)).length:=h1
   omega
theorem Y8 {rs:jk} (good:qt rs) {R:Rs Str} (all:All (QW rs) (rs.map (·.1)) 0 [] R) {fs:List (W×Str)} (h:Fs (wT rs R) (rs.map (·.1)) fs):((jU fs).map λr=>r.2.length).sum<=40:=by
 have e1:((jU fs).map λr=>r.2.length)=fs.map λp=>(ends fs p).length:=by unfold jU;rw[List.map_map];rfl
 rw[e1]
 have h1:∀l:List (W×Str),(∀p∈l,p∈fs)->(l.map λp=>(ends fs p).length).sum<=((l.map (·.2)).map λz=>(jq rs z).length).sum:=by
   intro l
   induction l with
   | nil=>intro _;exact Nat.le_refl _
   | cons p l ih=>
     intro hl
     rw[List.map_cons,List.map_cons,List.map_cons,List.sum_cons,List.sum_cons]
     exact Nat.add_le_add (ur good all h (hl p List.mem_cons_self)) (ih λq hq=>hl q (List.mem_cons_of_mem _ hq))
 refine Nat.le_trans (h1 fs λ_ z=>z) (Nat.le_trans (Wl (b:=rs.map (·.1)) h.nd2 λz hz=>?_) ?_)
 . obtain⟨p,hp,rfl⟩:=List.mem_map.mp hz
   exact(h.of p hp).1
 . have e2:(rs.map (·.1)).map (λz=>(jq rs z).length)=rs.map λr=>r.2.length:=by
     rw[List.map_map]
     exact List.map_congr_left λr hr=>by show (jq rs r.1).length=_;rw[JB good.nd hr]
   rw[e2]
   exact good.few
def R5 (H:Hp) (D:Addr) (o:Obj) (kvs:List (qA×V)) (F:Str->W) (zs:List Str):Prop:=H D=some (.frz o (.dK kvs))/\kvs.map (·.1)=zs.map Sum.inr/\∀z∈zs,∃t,qM kvs (Sum.inr z:qA)=some (.ref t)/\H t=some (.tup (tW (F z)))
theorem R5.mono {H H':Hp} {D:Addr} {o:Obj} {kvs:List (qA×V)} {F:Str->W} {zs:List Str} (h:R5 H D o kvs F zs) (s:qo H H'):R5 H' D o kvs F zs:=⟨s _ _ h.1,h.2.1,λz hz=>let ⟨t,a,b⟩:=h.2.2 z hz;⟨t,a,s _ _ b⟩⟩
def Re:Sp:=λvs H Q _=>∃(D:Addr) (o:Obj) (kvs:List (qA×V)) (F:Str->W) (zs:List Str),vs=[.ref D]/\R5 H D o kvs F zs/\zs.Nodup/\zs.length<=14/\
 ∀H' Fd,qo H H'->H Fd=none->H' Fd=some (.dT (fT (jQ F zs)))->Q (.ref Fd) H'
def kB:Sp:=λvs H Q _=>∃(Fd t:Addr) (F:Str->W) (zs:List Str) (fs:List (W×Str)) (p:W×Str),vs=[.ref Fd,.ref t]/\Rd H Fd (.dT (fT fs))/\H t=some (.tup (tW p.1))/\p∈fs/\Fs F zs fs/\Wc F zs/\
 ∀H' r q,qo H H'->H' r=some (.tup [.str p.2,.ref q])->H' q=some (.tup ((ends fs p).map V.str))->Q (.ref r) H'
theorem _root_.L2.Rd.mono {H H':Hp} {a:Addr} {u:HO} (h:Rd H a u) (s:qo H H'):Rd H' a u:=by
 rcases h with h | ⟨o,h⟩
 . exact .inl (s _ _ h)
 . exact .inr ⟨o,s _ _ h⟩
theorem jm.w {H:Hp} {Fd b:Addr} {fs:List (W×Str)} {u:W} {z:Str} (h:Rd H Fd (.dT (fT fs))) (hb:H b=some (.tup (tW u))) (nd:(fs.map (·.1)).Nodup) (m:(u,z)∈fs):jm H Fd (.ref b) (some (.str z)):=
 .inr ⟨_,kW u,b,h,rfl,by rw[ZP];exact hb,(XU nd m).symm⟩
section
variable {P:Program} {w:World} {K:PySem.W.Frag} {mg:Str->Option Value} {base:Heap}
abbrev NY:List Str:=["told","firsts","name","worth"]
theorem x5:qu NY ["told"] (qm Ni):=⟨rfl,rfl,rfl,by decide+kernel,rfl,by decide+kernel,by decide+kernel⟩
theorem Ry {f:Addr} {fd:FuncData} (F:j7 K "first_places" "first_places" Ni f fd):qv P w K mg base qV 1 f fd ["told"] Re:=by
 refine F.okJ x5 (λvs H Q E h=>?_) (λcdv A outer s H vs Q E hr h=>?_)
 . obtain⟨D,o,kvs,F,zs,rfl,_⟩:=h
   rfl
 . obtain⟨D,o,kvs,F,zs,rfl,wf,nd,le,q⟩:=h
   have hu:=jJ hr
   refine⟨_,qe (qx (i:=1) x5.nd rfl (Or.inl rfl) Yl)
     (qe (qW PassesOwn.never rfl (WM (jv 0)) (QJ rfl (qN (ql (i:=2) x5.nd rfl (Or.inl rfl)) (qN (ql (i:=3) x5.nd rfl (Or.inl rfl)) j2)))
       (qh (jT (yQ hu (jv 1) (jv 3) (jv 2) ⟨rfl,rfl,rfl,rfl⟩))))
     (qh (qB (jv 1)))),?_⟩
   intro Fd hFd
   have s1:qo H (upd H Fd (.dT [])):=qg hFd
   have h1:upd H Fd (.dT []) Fd=some (.dT []):=qd
   generalize upd H Fd (.dT [])=H1 at s1 h1
   have wf1:=wf.mono s1
   have lk:kvs.length=zs.length:=by simpa using congrArg List.length wf.2.1
   have ndk:(kvs.map (·.1)).Nodup:=by rw[wf.2.1];exact jN nd λa _ b _ e=>Sum.inr.inj e
   refine⟨_,rfl,D,o,.dK kvs,rfl,wf1.1,⟨zs,wf.2.1⟩,?_⟩
   have nDF:D≠Fd:=λe=>by have:=wf1.1;rw[e,h1]at this;cases this
   refine Y6 (u:=.dK kvs) (λi σ X=>∃v2 v3:Option V,σ=[some (.ref D),some (.ref Fd),v2,v3]/\Fr H1 Fd X/\X Fd=some (.dT (fT (jQ F (zs.take i))))) ⟨none,none,rfl,Fr.refl,h1⟩ (λi σ X _ ⟨_,_,_,f,_⟩=>f _ _ wf1.1 nDF) ?_ ?_
   . rintro i x y p σ X hi hp ⟨z,ek,rfl⟩ ⟨v2,v3,rfl,fr,hX⟩
     have hi':i < zs.length:=by have:i < kvs.length:=hi;omega
     have ez:zs[i]?=some z:=by
       have e3:(kvs.map (·.1))[i]?=some (Sum.inr z):=by rw[List.getElem?_map,ek];rfl
       rw[wf.2.1,List.getElem?_map]at e3
       rw[List.getElem?_eq_getElem hi']at e3 ⊢
       exact congrArg some (Sum.inr.inj (Option.some.inj e3))
     obtain⟨t,et,ht⟩:=wf1.2.2 z (List.mem_of_getElem? ez)
     have ey:y=.ref t:=by
       have:=zi ndk ek
       rw[et]at this
       exact(Option.some.inj this).symm
     subst ey
     have ntF:t≠Fd:=λe=>by rw[e,h1]at ht;cases ht
     have htX:=fr _ _ ht ntF
     have sp:qo X (upd X p (.tup [.str z,.ref t])):=qg hp
     have fs:=WS F (zs.take i)
     have lf:(fT (jQ F (zs.take i))).length < sizeLine:=by
       rw[XV]
       have:=fs.len
       rw[List.length_take]at this
       exact qk (by omega)
     have npF:p≠Fd:=λe=>by rw[e,hX]at hp;cases hp
     have snoc:jQ F (zs.take (i+1))=ZA F (jQ F (zs.take i)) z:=by rw[List.take_add_one,ez];exact Y5 ..
     refine⟨p,_,rfl,.of qd,rfl,_,_,rfl,_,_,rfl,rfl,?_⟩
     refine⟨_,rfl,Fd,rfl,.inr ⟨_,.inl (sp _ _ hX)⟩,_,rfl,_,rfl,fT (jQ F (zs.take i)),kW (F z),t,sp _ _ hX,rfl,by rw[ZP];exact sp _ _ htX,lf,λv ev=>?_,λen=>?_⟩
     . refine⟨_,_,rfl,fr.same sp,?_⟩
       have m:F z∈(jQ F (zs.take i)).map (·.1):=Classical.byContradiction λn=>by rw[zC n]at ev;cases ev
       rw[snoc,WR m]
       exact sp _ _ hX
     . refine⟨_,_,rfl,(fr.same sp).at_d,?_⟩
       have m:F z∉(jQ F (zs.take i)).map (·.1):=λm=>by
         rw[XU fs.nd (fs.look m).1]at en
         cases en
       rw[qd,snoc,xf m]
   . rintro σ X ⟨v2,v3,rfl,fr,hX⟩
     have eL:Ln (.dK kvs)=zs.length:=lk
     rw[eL,List.take_of_length_le (Nat.le_refl _)]at hX
     exact⟨_,rfl,q X Fd (λb u hb=>fr _ _ (s1 _ _ hb) (qw hb hFd)) hFd hX⟩
end
end Rh
set_option Elab.async false
set_option linter.all false
set_option maxRecDepth 100000
set_option maxHeartbeats 4000000
namespace Rh
open PySem L2 PyProof.Rows MLab Rb
def wQ (fs:List (W×Str)) (ks:List Nat):List Str:=ks.map λk=>look fs (.num k)
theorem WK {fs:List (W×Str)} {ks:List Nat} {i k:Nat} (e:ks[i]?=some k):(wQ fs (ks.take (i+1))).map V.str=(wQ fs (ks.take i)).map V.str++[.str (look fs (.num k))]:=by
 unfold wQ
 rw[List.take_add_one,e,List.map_append,List.map_append]
 rfl
theorem Kd (k:Nat):tW (.num k)=[.str (Str.ofString "number"),.int (k:Nat)]:=rfl
theorem K4 {ks:List Nat} {i:Nat} {y:V} (h:(JH ks)[i]?=some y):∃k,ks[i]?=some k/\k∈ks/\y=.int (k:Nat):=by
 unfold JH at h
 rw[List.getElem?_map]at h
 cases e:ks[i]? with
 | none=>rw[e]at h;cases h
 | some z=>rw[e]at h;exact⟨z,rfl,List.mem_of_getElem? e,(Option.some.inj h).symm⟩
def jn (fs:List (W×Str)) (F:Str->W) (zs:List Str):List (qA×V):=zs.map λz=>((Sum.inr z:qA),V.str (look fs (F z)))
def Rc (CG:Addr):Sp:=λvs H Q _=>∃(g:Addr) (rs:jk),vs=[.ref g]/\Qq CG H g rs/\qt rs/\0 < rs.length/\rs.length<=14/\
 ∀H' r x Pd R,qo H H'->H Pd=none->H' r=some (.tup [.ref x,.ref Pd])->Qq CG H' x (jU (jQ (wT rs R) (rs.map (·.1))))->Qq CG (upd H' Pd (.dK [])) x (jU (jQ (wT rs R) (rs.map (·.1))))->H' Pd=some (.dK (jn (jQ (wT rs R) (rs.map (·.1))) (wT rs R) (rs.map (·.1))))->
   All (QW rs) (rs.map (·.1)) 0 [] R->Q (.ref r) H'
section
variable {P:Program} {w:World} {K:PySem.W.Frag} {mg:Str->Option Value} {base:Heap}
abbrev nLR:List Str:=["firsts","worth","ends"]
abbrev NM:List Str:=["firsts","worth"]
theorem Rg:qu nLR NM (qm Uh):=⟨rfl,rfl,rfl,by decide+kernel,rfl,by decide+kernel,by decide+kernel⟩
theorem RA:(["number","firsts"]:List Str).Nodup:=by decide+kernel
theorem wC {f fN:Addr} {fd fdN:FuncData} (F:j7 K "least_row" "least_row" Uh f fd) (B:Jr mg) (G:QK mg) (hN:jG K mg "numbers_in" zN ["bits"] fN fdN):qv P w K mg base qV 2 f fd NM kB:=by
 have GN:qv P w K mg base qV 1 fN fdN ["bits"] V5:=yk hN.fn B
 refine F.okJ Rg (λvs H Q E h=>?_) (λcdv A outer s H vs Q E hr h=>?_)
 . obtain⟨Fd,t,F,zs,fs,p,rfl,_⟩:=h
   rfl
 . obtain⟨Fd,t,F,zs,fs,p,rfl,hF,ht,hp,h,c,q⟩:=h
   have hu:=jJ hr
   have r1:jg 1 _:=hr.mono (by decide)
   refine⟨_,qe (q5 (qr QI (jA jD (jv 1) qj (λ_ _=>rfl)) qT (qz _))
       (qh (qB (jl (qb (qG hu (jv 0) (jv 1) (λ_ _=>rfl)) (qb (ji Qh (by rfl) G.tup boot_tuple (qb (jP (N':=["number","firsts"]) (ix:=[none,some 0]) (te:=Jt (qJ 1) (Xp (jr (tC (.str (Str.ofString "number"))) (jr (qJ 0) QX)))) rfl ⟨rfl,rfl,rfl,rfl,rfl⟩ (ja (by rfl) B.rng (qb (jA jD (jv 1) qj (λ_ _=>rfl)) qf)) (λC s2 H2 fp pins=>
         ⟨ql (i:=0) RA rfl (Or.inl rfl),js,qG hu (jv 1) (jl (qb qT (qb (jv 0) qf))) (λ_ _=>rfl)⟩)) qf)) qf))))) qE)
     (qe (Qo (i:=2) (N':=["number","firsts"]) (ix:=[none,some 0]) (te:=Jt (qJ 1) (Xp (jr (tC (.str (Str.ofString "number"))) (jr (qJ 0) QX)))) Rg.nd rfl (Or.inl rfl) rfl ⟨rfl,rfl,rfl,rfl,rfl⟩ (qL (qY hN GN r1 (by rfl) (qb (jA jD (jv 1) qj (λ_ _=>rfl)) qf))) (λC s2 H2 fp pins=>
         ⟨ql (i:=0) RA rfl (Or.inl rfl),js,qG hu (jv 1) (jl (qb qT (qb (jv 0) qf))) (λ_ _=>rfl)⟩))
     (qh (qB (jl (qb (qG hu (jv 0) (jv 1) (λ_ _=>rfl)) (qb (ji Qh (by rfl) G.tup boot_tuple (qb (qP Uu (jv 2) (QS (qb (qG hu (jv 0) (jv 1) (λ_ _=>rfl)) qf))) qf)) qf)))))),?_⟩
   have hs:=h.has c hp
   have gp:∀{X:Hp},qo H X->jm X Fd (.ref t) (some (.str p.2)):=λsx=>jm.w (hF.mono sx) (sx _ _ ht) h.nd hp
   have ht':H t=some (.tup [.str (Jj p.1),.int (Z9 p.1:Nat)]):=by rw[ht,Wi]
   refine⟨_,rfl,t,_,0,_,rfl,rfl,.of ht',Qi (j:=0) rfl,rfl,_,rfl,?_⟩
   have ne:(Str.ofString "number")≠(Str.ofString "endless"):=by decide+kernel
   have turn:∀{X:Hp} {D:Addr} {k:Nat} {ys:List V} {N:L2.St->Hp->Prop} {v1:Option V},qo H X->H D=none->X D=some (.lst ys)->ys.length < sizeLine->W.num k∈fs.map (·.1)->
       (∀b,X b=none->b≠D->N [some (.int (k:Nat)),some (.ref Fd)] (upd (upd X b (.tup [.str (Str.ofString "number"),.int (k:Nat)])) D (.lst (ys++[.str (look fs (.num k))]))))->
       Qx 0 (.int (k:Nat)) [v1,some (.ref Fd)] X (Z8 GH (Jt (qJ 1) (Xp (jr (tC (.str (Str.ofString "number"))) (jr (qJ 0) QX)))) D N):=by
     intro X D k ys N v1 sx nD hD ly hk n
     refine⟨_,rfl,_,rfl,by show 2<=sizeLine;decide,λb hb=>?_⟩
     have nb:b≠D:=λe=>by rw[e,hD]at hb;cases hb
     have sb:=qg (o:=HO.tup [.str (Str.ofString "number"),.int (k:Nat)]) hb
     exact⟨Fd,_,rfl,jm.w ((hF.mono sx).mono sb) (by rw[Kd];exact qd) h.nd (h.look hk).1,ys,sb _ _ hD,ly,n b hb nb⟩
   cases e:p.1 with
   | num n=>
     rw[e]at hs
     refine Q9 (decide_eq_true rfl) ?_
     rw[e]at ht'
     refine⟨_,rfl,_,rfl,Fd,_,rfl,gp (λ_ _ z=>z),?_⟩
     refine⟨_,rfl,t,_,1,_,rfl,rfl,.of ht',Qi (j:=1) rfl,(n:Int),rfl,by omega,by have:=hs.1;omega,λD hD=>?_⟩
     rw[Int.toNat_natCast]
     refine QF (λi σ' X=>∃v0:Option V,σ'=[v0,some (.ref Fd)]/\qo H X/\X D=some (.lst ((wQ fs ((List.range n).take i)).map V.str))) ⟨none,rfl,qg hD,qd⟩ ?_ ?_
     . rintro i σ' X hi ⟨v0,rfl,sx,hX⟩
       have ei:(List.range n)[i]?=some i:=by rw[List.getElem?_range hi]
       have e0:(0+(i:Int))=((i:Nat):Int):=Int.zero_add _
       rw[e0]
       refine turn (v1:=v0) sx hD hX ?_ (hs.2 i hi) λb hb nb=>⟨_,rfl,qo.upd (sx.trans (qg hb)) hD,?_⟩
       . unfold wQ
         rw[List.length_map,List.length_map,List.length_take,List.length_range]
         exact qk (by have:=hs.1;omega)
       . rw[qd,WK ei]
     . rintro σ' X ⟨v0,rfl,sx,hX⟩
       rw[List.take_of_length_le (by rw[List.length_range];exact Nat.le_refl _)]at hX
       refine⟨D,_,rfl,.inl ⟨.of hX,λq' hq'=>⟨by show 2<=sizeLine;decide,λr hr'=>?_⟩⟩⟩
       refine q _ r q' ((sx.trans (qg hq')).trans (qg hr')) qd (qp ?_ hr')
       rw[JJ e]
       exact qd
   | edl b=>
     rw[e]at hs
     refine Ja (decide_eq_false λz=>ne (V.str.inj z).symm) ?_
     rw[e]at ht'
     refine⟨_,rfl,t,_,1,_,rfl,rfl,.of ht',Qi (j:=1) rfl,b,rfl,hs.1,λln hln=>?_⟩
     have s1:qo H (upd H ln (.lst (JH (memN b 16)))):=qg hln
     have h1:upd H ln (.lst (JH (memN b 16))) ln=some (.lst (JH (memN b 16))):=qd
     generalize upd H ln (.lst (JH (memN b 16)))=H1 at s1 h1
     have l16:(memN b 16).length<=16:=Nat.le_trans (List.length_filter_le ..) (by rw[List.length_range];exact Nat.le_refl _)
     refine⟨ln,rfl,⟨_,.of h1⟩,λD hD=>?_⟩
     have hD0:H D=none:=jt s1 hD
     refine jS (K:=K) (a:=ln) (xs:=JH (memN b 16)) (λi σ' X=>∃v0:Option V,σ'=[v0,some (.ref Fd)]/\qo H1 X/\X D=some (.lst ((wQ fs ((memN b 16).take i)).map V.str))) ⟨none,rfl,qg hD,qd⟩ (λi σ' X _ ⟨_,_,sx,_⟩=>.of (sx _ _ h1)) ?_ ?_
     . rintro i y σ' X hy ⟨v0,rfl,sx,hX⟩
       obtain⟨k,ek,hk,rfl⟩:=K4 hy
       refine turn (v1:=v0) (s1.trans sx) hD0 hX ?_ (hs.2 k (jI.mp hk).2) λb' hb nb=>⟨_,rfl,qo.upd (sx.trans (qg hb)) hD,?_⟩
       . unfold wQ
         rw[List.length_map,List.length_map,List.length_take]
         exact qk (by omega)
       . rw[qd,WK ek]
     . rintro σ' X ⟨v0,rfl,sx,hX⟩
       have le:(JH (memN b 16)).length=(memN b 16).length:=by unfold JH;rw[List.length_map]
       rw[le,List.take_of_length_le (Nat.le_refl _)]at hX
       have s0:=s1.trans sx
       refine⟨_,rfl,_,rfl,Fd,_,rfl,gp s0,_,rfl,_,rfl,_,rfl,Fd,_,rfl,gp s0,by show 1<=sizeLine;decide,λl1 hl1=>?_⟩
       have s2:=qg (o:=HO.lst [V.str p.2]) hl1
       refine⟨D,l1,_,_,rfl,rfl,.of (s2 _ _ hX),.of qd,?_,λl2 hl2=>?_⟩
       . unfold wQ
         rw[List.length_map,List.length_map]
         exact Nat.le_of_lt (qk (by simp;omega))
       have s3:=qg (o:=HO.lst ((wQ fs (memN b 16)).map V.str++[V.str p.2])) hl2
       refine⟨l2,_,rfl,.inl ⟨.of qd,λq' hq'=>⟨by show 2<=sizeLine;decide,λr hr'=>?_⟩⟩⟩
       refine q _ r q' ((((s0.trans s2).trans s3).trans (qg hq')).trans (qg hr')) qd (qp ?_ hr')
       rw[JK e,List.map_append]
       exact qd
end
end Rh
set_option Elab.async false
set_option linter.all false
set_option maxRecDepth 100000
set_option maxHeartbeats 4000000
namespace Rh
open PySem L2 PyProof.Rows MLab Rb
theorem Yd {X:Hp} {l2:Addr} {ps:List Addr} {rs:jk} {CG:Addr} {R:Hp->Prop} (hl:X l2=some (.lst (ps.map V.ref))) (rat:qU X ps rs) (good:qt rs) (pos:0 < rs.length) (le14:rs.length<=14)
   {x dx:Addr} (hx:X x=none) (hdx:X dx=none) (ndx:dx≠x) {E:XK} (k:∀H4,qo X H4->Qq CG H4 x rs->R H4):
   zo CG [.ref x,.ref l2] (upd (upd X dx (.own x)) x (.ins CG dx [])) (λv H'=>v=.non/\R H') E:=by
 have s3:qo X (upd (upd X dx (.own x)) x (.ins CG dx [])):=λb u hb=>by
   rw[qi (qw hb hx),qi (qw hb hdx)]
   exact hb
 refine⟨x,dx,l2,ps,rs,rfl,⟨s3 _ _ hl,rat.mono s3,good,pos,le14⟩,qd,λH4 gr fr4=>⟨rfl,k H4 (λb u hb=>fr4 b u (s3 _ _ hb) (qw hb hx)) gr⟩⟩
theorem yC {fs:List (W×Str)} {i:Nat} {p:W×Str} (e:fs[i]?=some p):(jU fs).take (i+1)=(jU fs).take i++[(p.2,ends fs p)]:=by
 have:(jU fs)[i]?=some (p.2,ends fs p):=by unfold jU;rw[List.getElem?_map,e];rfl
 rw[List.take_add_one,this]
 rfl
theorem QL (fs:List (W×Str)):(jU fs).length=fs.length:=List.length_map ..
theorem Zr (fs:List (W×Str)) (F:Str->W) (zs:List Str):(jn fs F zs).map (·.1)=zs.map Sum.inr:=by
 unfold jn
 rw[List.map_map]
 rfl
section
variable {P:Program} {w:World} {K:PySem.W.Frag} {mg:Str->Option Value} {base:Heap}
abbrev NR:List Str:=["ground","told","firsts","least","places","name"]
theorem YS:qu NR ["ground"] (qm Nh):=⟨rfl,rfl,rfl,by decide+kernel,rfl,by decide+kernel,by decide+kernel⟩
theorem Rz:(["worth","firsts"]:List Str).Nodup:=by decide+kernel
theorem KB {f CG:Addr} {fd:FuncData} (F:j7 K "least_ground" "least_ground" Nh f fd) (h:WF K mg) (B:Jr mg) (Z:Wk K mg) (G:QK mg) (T:Jh K mg) (N:xw K mg) (M:GM K mg CG) (Y:xx K mg) (O:uE K mg):qv P w K mg base qV 10 f fd ["ground"] (Rc CG):=by
 obtain⟨fI,fdI,C⟩:=M.cls
 obtain⟨fW,fdW,hW⟩:=O.need
 obtain⟨fU,fdU,hT⟩:=O.wt
 obtain⟨fP,fdP,hP⟩:=O.fp
 obtain⟨fR,fdR,hR⟩:=O.lr
 obtain⟨fN,fdN,hN⟩:=O.nin
 have GI:qv P w K mg base qV 6 fI fdI ["self","rows"] (zo CG):=WC C B G T N hW
 have GT:qv P w K mg base qV 9 fU fdU ["ground"] (uO CG):=yh hT.fn h B Z G T M Y O
 have GP:qv P w K mg base qV 1 fP fdP ["told"] Re:=Ry hP.fn
 have GR:qv P w K mg base qV 2 fR fdR NM kB:=wC hR.fn B G hN
 refine F.okJ YS (λvs H Q E z=>?_) (λcdv A outer s H vs Q E hr z=>?_)
 . obtain⟨g,rs,rfl,_⟩:=z
   rfl
 . obtain⟨g,rs,rfl,gr,good,pos,le14,q⟩:=z
   have hu:=jJ hr
   have r1:jg 1 _:=hr.mono (by decide)
   have r2:jg 2 _:=hr.mono (by decide)
   have r7:jg 7 _:=hr.mono (by decide)
   refine⟨_,qe (qx (i:=1) YS.nd rfl (Or.inl rfl) (yP (qY hT GT hr (by rfl) (qb (jv 0) qf))))
     (qe (qx (i:=2) YS.nd rfl (Or.inr rfl) (ub (qY hP GP r1 (by rfl) (qb (jv 1) qf))))
     (qe (qx (i:=3) YS.nd rfl (Or.inl rfl) (zy C.mkr GI r7 (by rfl) C.ns C.bi .nil Zs (qb (jP (N':=["worth","firsts"]) (ix:=[none,some 2]) (te:=Wj kB [] E0 (jr (qJ 1) (jr (qJ 0) QX))) rfl ⟨rfl,rfl,rfl,rfl,rfl⟩ (w6 (jv 2)) (λC s2 H2 fp pins=>
         ⟨ql (i:=0) Rz rfl (Or.inl rfl),js,qY hR GR r2 (by rfl) (qb (jv 1) (qb (jv 0) qf))⟩)) qf)))
     (qe (qx (i:=4) YS.nd rfl (Or.inl rfl) jw)
     (qe (qW PassesOwn.never rfl (XR (jv 1)) (ql (i:=5) YS.nd rfl (Or.inl rfl))
       (qh (qS hu (jv 4) (jv 5) (qG hu (jv 2) (qG hu (jv 1) (jv 5) (λ_ _=>rfl)) (λ_ _=>rfl)) rfl)))
     (qh (qB (jl (qb (jv 3) (qb (jv 4) qf))))))))),?_⟩
   refine⟨_,rfl,g,rs,rfl,gr,good,le14,λH1 D R s1 nD wt all=>?_⟩
   obtain⟨kvs,hD1,ek,ev⟩:=wt.at_
   refine⟨D,kvs,rfl,hD1,λo=>?_⟩
   have s2:qo H (upd H1 D (.frz o (.dK kvs))):=qo.upd s1 nD
   have wf2:R5 (upd H1 D (.frz o (.dK kvs))) D o kvs (wT rs R) (rs.map (·.1)):=⟨qd,ek,λz hz=>let ⟨t,a,b⟩:=ev z hz;⟨t,a,by rw[qi (λe=>by rw[e,hD1]at b;cases b)];exact b⟩⟩
   generalize upd H1 D (.frz o (.dK kvs))=H2 at s2 wf2
   have lz:(rs.map (·.1)).length<=14:=by rw[List.length_map];exact le14
   refine⟨_,rfl,D,o,kvs,wT rs R,rs.map (·.1),rfl,wf2,good.nd,lz,λH3 Fd s3 nFd hFd=>⟨Fd,_,rfl,hFd,λo'=>?_⟩⟩
   have fsh:=WS (wT rs R) (rs.map (·.1))
   have wc:=uH good all
   have few:=Y8 good all fsh
   have goodl:=Yn fsh wc few
   have fl:=fsh.len
   have fpos:0 < (jQ (wT rs R) (rs.map (·.1))).length:=by
     cases rs with
     | nil=>cases pos
     | cons r0 rs0=>
       have:=fsh.all r0.1 List.mem_cons_self
       obtain⟨p,hp,_⟩:=List.mem_map.mp this
       exact List.length_pos_of_mem hp
   have s4:qo H2 (upd H3 Fd (.frz o' (.dT (fT (jQ (wT rs R) (rs.map (·.1))))))):=qo.upd s3 nFd
   have h4:upd H3 Fd (.frz o' (.dT (fT (jQ (wT rs R) (rs.map (·.1)))))) Fd=some (.frz o' (.dT (fT (jQ (wT rs R) (rs.map (·.1)))))):=qd
   generalize hfs:jQ (wT rs R) (rs.map (·.1))=fs at*
   generalize upd H3 Fd (.frz o' (.dT (fT fs)))=H4 at s4 h4
   refine⟨_,rfl,Fd,o',.dT (fT fs),rfl,h4,True.intro,λV0 hV=>?_⟩
   have eLn:Ln (.dT (fT fs))=fs.length:=XV fs
   refine xp (u:=.dT (fT fs)) (λi σ' X=>∃(v0:Option V) (ps:List Addr),σ'=[v0,some (.ref Fd)]/\qo H4 X/\X V0=some (.lst (ps.map V.ref))/\qU X ps ((jU fs).take i)) ⟨none,[],rfl,qg hV,qd,rfl,λi p r e=>by simp at e⟩ (λi σ' X _ ⟨_,_,_,sx,_⟩=>sx _ _ h4) ?_ ?_
   . rintro i x y σ' X hi ⟨k,b,e,rfl,hb⟩ ⟨v0,ps,rfl,sx,hX,rat⟩
     obtain⟨p,ep,hp,rfl,_⟩:=u8 e
     rw[ZP]at hb
     refine⟨_,rfl,_,rfl,Fd,b,wT rs R,rs.map (·.1),fs,p,rfl,.inr ⟨o',sx _ _ h4⟩,hb,hp,fsh,wc,λX2 r q' sx2 hr' hq'=>?_⟩
     have hX2:=sx2 _ _ hX
     have lps:=rat.1
     refine⟨_,hX2,?_,_,ps++[r],rfl,qo.upd (sx.trans sx2) hV,by rw[qd,List.map_append];rfl,?_⟩
     . rw[List.length_map,lps,List.length_take]
       refine qk ?_
       rw[QL]
       omega
     . rw[yC ep]
       exact qU.upd_lst ((rat.mono sx2).snoc (r:=(p.2,ends fs p)) hr' hq') hX2
   . rintro σ' X ⟨v0,ps,rfl,sx,hX,rat⟩
     rw[eLn,List.take_of_length_le (by rw[QL];exact Nat.le_refl _)]at rat
     refine λx dx hx hdx ndx=>?_
     refine Yd hX rat goodl (by rw[QL];exact fpos) (by rw[QL];omega) hx hdx ndx λH6 s6 gr6=>?_
     intro Pd hPd
     have s46:=sx.trans s6
     have s26:=s4.trans s46
     have nP:H Pd=none:=jt (s2.trans s26) hPd
     have s7:qo H6 (upd H6 Pd (.dK [])):=qg hPd
     have h7:upd H6 Pd (.dK []) Pd=some (.dK []):=qd
     generalize upd H6 Pd (.dK [])=H7 at s7 h7
     have wf7:=wf2.mono (s26.trans s7)
     have hF7:=(s46.trans s7) _ _ h4
     have nDP:D≠Pd:=λe=>by have:=wf7.1;rw[e,h7]at this;cases this
     have NY:Fd≠Pd:=λe=>by rw[e,h7]at hF7;cases hF7
     refine⟨_,rfl,D,o,kvs,rs.map (·.1),rfl,wf7.1,ek,?_⟩
     refine UI (λi σ X=>∃v5:Option V,σ=[some (.ref g),some (.ref D),some (.ref Fd),some (.ref x),some (.ref Pd),v5]/\Fr H7 Pd X/\X Pd=some (.dK (jn fs (wT rs R) ((rs.map (·.1)).take i)))) ⟨none,rfl,Fr.refl,h7⟩ (λi σ X _ ⟨_,_,fr,_⟩=>fr _ _ wf7.1 nDP) ?_ ?_
     . rintro i z σ X ez ⟨v5,rfl,fr,hP⟩
       have hz:=List.mem_of_getElem? ez
       have hi:=(List.getElem?_eq_some_iff.mp ez).1
       obtain⟨t,et,ht⟩:=wf7.2.2 z hz
       have htX:=fr _ _ ht (λe=>by rw[e,h7]at ht;cases ht)
       have gd1:jm X D (.str z) (some (.ref t)):=.inl ⟨kvs,Sum.inr z,.inr ⟨o,fr _ _ wf7.1 nDP⟩,rfl,et.symm⟩
       have gd2:jm X Fd (.ref t) (some (.str (look fs (wT rs R z)))):=jm.w (.inr ⟨o',fr _ _ hF7 NY⟩) htX fsh.nd (fsh.look (fsh.all z hz)).1
       have nz:z∉(rs.map (·.1)).take i:=λm=>jM good.nd ez (List.mem_map.mpr ⟨z,m,rfl⟩)
       have vn:qM (jn fs (wT rs R) ((rs.map (·.1)).take i)) (Sum.inr z:qA)=none:=Qj (by
         rw[Zr]
         exact λm=>by obtain⟨y,hy,e⟩:=List.mem_map.mp m;exact nz (Sum.inr.inj e▸hy))
       have lk:(jn fs (wT rs R) ((rs.map (·.1)).take i)).length < sizeLine:=by
         unfold jn
         rw[List.length_map,List.length_take]
         exact qk (by omega)
       refine⟨_,rfl,_,rfl,_,rfl,D,_,rfl,gd1,Fd,_,rfl,gd2,_,rfl,_,rfl,Pd,_,rfl,Qf.k (k:=(Sum.inr z:qA)) hP lk,?_⟩
       refine⟨_,rfl,fr.at_d,?_⟩
       rw[qd,jW _ vn,List.take_add_one,ez]
       unfold jn
       rw[List.map_append]
       rfl
     . rintro σ X ⟨v5,rfl,fr,hP⟩
       rw[List.take_of_length_le (Nat.le_refl _)]at hP
       refine⟨_,rfl,_,rfl,by show 2<=sizeLine;decide,λr hr'=>?_⟩
       have sX:qo H6 (upd (upd X r (.tup [.ref x,.ref Pd])) Pd (.dK [])):=λb u hb=>by
         have nb:=qw hb hPd
         rw[qi nb]
         exact qp (fr _ _ (s7 _ _ hb) nb) hr'
       have sX':qo H6 (upd X r (.tup [.ref x,.ref Pd])):=λb u hb=>qp (fr _ _ (s7 _ _ hb) (qw hb hPd)) hr'
       have:=q (upd X r (.tup [.ref x,.ref Pd])) r x Pd R ((s2.trans s26).trans sX') nP qd
       rw[hfs]at this
       exact this (gr6.mono sX') (gr6.mono sX) (qp hP hr') all
end
end Rh
set_option Elab.async false
set_option linter.all false
set_option maxRecDepth 100000
set_option maxHeartbeats 4000000
namespace Rh
open PySem L2 PyProof.Rows MLab Rb
abbrev ZL:Stmt:=QM (top 27) 3
abbrev wb:Stmt:=top 59
abbrev we:Stmt:=top 58
def Js (rs:jk):jk:=rs.map λr=>(r.1,j6 rs r)
abbrev Rm (K:PySem.W.Frag):List V->Hp->VK->Prop:=λxs H Q=>∃p ys,xs=[.ref p]/\((SqL K H p ys/\∀l,H l=none->Q (.ref l) (upd H l (.tup ys)))\/(zE K H p ys/\Q (.ref p) H))
def Xu (CG:Addr):Sp:=λvs H Q _=>∃(a:Addr) (rs:jk),vs=[.ref a]/\Qq CG H a rs/\rs.length<=14/\∀l ps H',qo H H'->H l=none->H' l=some (.lst (ps.map V.ref))->qU H' ps (Js rs)->Q (.ref l) H'
section
variable {P:Program} {w:World} {K:PySem.W.Frag} {mg:Str->Option Value} {base:Heap}
theorem NB:qu ["self"] ["self"] (qm ZL):=⟨rfl,rfl,rfl,by decide+kernel,rfl,by decide+kernel,by decide+kernel⟩
theorem WB {f fI CG:Addr} {fd fdI:FuncData} (F:j7 K "rows" "Ground.rows" ZL f fd) (C:GD K mg CG fI fdI) (G:QK mg):qv P w K mg base qV 1 f fd ["self"] (Xu CG):=by
 refine F.okJ NB (λvs H Q E h=>?_) (λcdv A outer s H vs Q E hr h=>?_)
 . obtain⟨a,rs,rfl,_⟩:=h
   rfl
 . obtain⟨a,rs,rfl,gr,le14,q⟩:=h
   have hu:=jJ hr
   refine⟨_,qh (qB (jP (N':=["name","self"]) (ix:=[none,some 0]) (te:=Xp (jr (qJ 0) (jr (Nf (Rm K) (jr (Jt (GX K (qJ 1) "roads") (qJ 0)) QX)) QX))) rfl ⟨rfl,rfl,rfl,rfl,rfl⟩ (qL (Q7 (jv 0) rfl)) (λC s2 H2 fp pins=>
       ⟨ql (i:=0) (show (["name","self"]:List Str).Nodup by decide+kernel) rfl (Or.inl rfl),js,jl (qb (jv 0) (qb (ji Qh (by rfl) G.tup boot_tuple (qb (qG hu (Q7 (jv 1) rfl) (jv 0) (λ_ _=>rfl)) qf)) qf))⟩))),?_⟩
   obtain⟨dx,lo,rd,kvs,h1,h2,h3,h4⟩:=gr
   refine⟨_,rfl,a,CG,dx,_,_,rfl,h1,C.cl,C.no,NZ _ _,lo,rfl,⟨_,.of h2⟩,λD hD=>?_⟩
   refine jS (K:=K) (a:=lo) (xs:=(rs.map (·.1)).map V.str) (λi σ' X=>∃(v:Option V) (ps:List Addr),σ'=[v,some (.ref a)]/\qo H X/\X D=some (.lst (ps.map V.ref))/\qU X ps ((rs.take i).map λr=>(r.1,j6 rs r)))
     ⟨none,[],rfl,qg hD,qd,rfl,λi p r e=>(nomatch e)⟩ (λi σ' X _ ⟨_,_,_,s,_⟩=>.of (s _ _ h2)) ?_ ?_
   . rintro i y σ' X hy ⟨v,ps,rfl,sX,hX,rat⟩
     rw[List.getElem?_map,List.getElem?_map]at hy
     cases er:rs[i]? with
     | none=>rw[er]at hy;cases hy
     | some r=>
       rw[er]at hy
       obtain rfl:=(Option.some.inj hy).symm
       have hr':=List.mem_of_getElem? er
       have hi:=(List.getElem?_eq_some_iff.mp er).1
       obtain⟨qq,hv,hq⟩:=h4 r hr'
       have gz:jm X rd (.str r.1) (some (.ref qq)):=by
         have:=jm.k (k:=(Sum.inr r.1:qA)) (sX _ _ h3)
         rw[hv]at this
         exact this
       refine⟨_,rfl,_,rfl,a,CG,dx,_,_,rfl,sX _ _ h1,C.cl,C.nr,Nj _ _,_,rfl,rd,_,rfl,gz,qq,_,rfl,.inl ⟨.of (sX _ _ hq),λp2 hp2=>⟨by show 2<=sizeLine;decide,λp3 hp3=>?_⟩⟩⟩
       have a3:qo X (upd (upd X p2 (.tup ((j6 rs r).map V.str))) p3 (.tup [.str r.1,.ref p2])):=(qg hp2).trans (qg hp3)
       have b2:upd (upd X p2 (.tup ((j6 rs r).map V.str))) p3 (.tup [.str r.1,.ref p2]) p2=some (.tup ((j6 rs r).map V.str)):=qp qd hp3
       have b3:upd (upd X p2 (.tup ((j6 rs r).map V.str))) p3 (.tup [.str r.1,.ref p2]) p3=some (.tup [.str r.1,.ref p2]):=qd
       generalize upd (upd X p2 (.tup ((j6 rs r).map V.str))) p3 (.tup [.str r.1,.ref p2])=X3 at a3 b2 b3
       have hX3:=a3 _ _ hX
       have lps:=rat.1
       rw[List.length_map,List.length_take]at lps
       refine⟨_,hX3,by rw[List.length_map];exact qk (by omega),_,ps++[p3],rfl,qo.upd (sX.trans a3) hD,by rw[List.map_append];exact qd,?_⟩
       rw[List.take_add_one,er,List.map_append]
       refine qU.upd_lst ?_ hX3
       exact qU.snoc (q:=p2) (rat.mono a3) b3 b2
   . rintro σ' X ⟨v,ps,rfl,sX,hX,rat⟩
     have e0:rs.take ((rs.map (·.1)).map V.str).length=rs:=List.take_of_length_le (by rw[List.length_map,List.length_map];exact Nat.le_refl _)
     rw[e0]at rat
     exact q D ps X sX hD hX rat
end
structure zh (H:Hp) (D:Addr) (rs:jk):Prop where
 at_:∃kvs:List (qA×V),H D=some (.dK kvs)/\kvs.map (·.1)=(rs.map (·.1)).map Sum.inr/\∀r∈rs,∃t ys,qM kvs (Sum.inr r.1:qA)=some (.ref t)/\H t=some (.lst (ys.map V.str))/\ys.Perm r.2/\sortedS ys=true
theorem zh.fr {H H':Hp} {D:Addr} {rs:jk} (h:zh H D rs) (s:qo H H'):zh H' D rs:=⟨let ⟨kvs,a,b,c⟩:=h.at_;⟨kvs,s _ _ a,b,λr hr=>let ⟨t,ys,u,v,w⟩:=c r hr;⟨t,ys,u,s _ _ v,w⟩⟩⟩
theorem zh.new {H:Hp} {D t:Addr} {rs:jk} {r:Str×List Str} {ys:List Str} (h:zh H D rs) (hz:r.1∉rs.map (·.1)) (l:rs.length<=14) (ht:H t=some (.lst (ys.map V.str))) (pm:ys.Perm r.2) (so:sortedS ys=true):∃o,Qf H D (.str r.1) (.ref t) (upd H D o)/\zh (upd H D o) D (rs++[r]):=by
 obtain⟨kvs,a,b,c⟩:=h.at_
 have lk:kvs.length=rs.length:=by have:=congrArg List.length b;simpa using this
 have vn:qM kvs (Sum.inr r.1:qA)=none:=Qj (by
   rw[b]
   exact λm=>by obtain⟨y,hy,e⟩:=List.mem_map.mp m;exact hz (Sum.inr.inj e▸hy))
 refine⟨.dK (jp kvs (Sum.inr r.1) (.ref t)),Qf.k (k:=(Sum.inr r.1:qA)) a (qk (by omega)),⟨_,qd,?_,λx hx=>?_⟩⟩
 . rw[jW _ vn,List.map_append,List.map_append,List.map_append,b]
   rfl
 . have nl:∀{q:Addr} {zs:List V},H q=some (.lst zs)->q≠D:=λe z=>by rw[z,a]at e;cases e
   rcases List.mem_append.mp hx with hx | hx
   . obtain⟨t',ys',u,v,w'⟩:=c x hx
     refine⟨t',ys',?_,by rw[qi (nl v)];exact v,w'⟩
     rw[jz,if_neg (λe=>hz (by rw[<-Sum.inr.inj e];exact List.mem_map.mpr ⟨x,hx,rfl⟩))]
     exact u
   . have:x=r:=by simpa using hx
     subst this
     exact⟨t,ys,by rw[jz,if_pos rfl],by rw[qi (nl ht)];exact ht,pm,so⟩
theorem KN (a b:V):([(Str.ofString "order",a),(Str.ofString "roads",b)]:List (Str×V)).lookup (Str.ofString "rows")=none:=by
 have e1:((Str.ofString "rows")==(Str.ofString "order"))=false:=by decide+kernel
 have e2:((Str.ofString "rows")==(Str.ofString "roads"))=false:=by decide+kernel
 simp [List.lookup,e1,e2]
def uS (CG:Addr):Sp:=λvs H Q _=>∃(g:Addr) (rs:jk),vs=[.ref g]/\Qq CG H g rs/\qt rs/\rs.length<=14/\∀H' D,qo H H'->H D=none->zh H' D (Js rs)->Q (.ref D) H'
theorem QG (rs:jk):(Js rs).map (·.1)=rs.map (·.1):=by unfold Js;rw[List.map_map];rfl
section
variable {P:Program} {w:World} {K:PySem.W.Frag} {mg:Str->Option Value} {base:Heap}
abbrev NU:List Str:=["_law_ground","_law_found","_law_name","_law_others"]
theorem Uf:qu NU ["_law_ground"] (qm wb):=⟨rfl,rfl,rfl,by decide+kernel,rfl,by decide+kernel,by decide+kernel⟩
theorem Kz {f CG fM:Addr} {fd fdM:FuncData} (F:j7 K "_law_leads_of" "_law_leads_of" wb f fd) (G:QK mg) (M:GM K mg CG) (hM:kc K CG "rows" "Ground.rows" ZL ["self"] fM fdM):qv P w K mg base qV 2 f fd ["_law_ground"] (uS CG):=by
 obtain⟨fI,fdI,C⟩:=M.cls
 have GM:qv P w K mg base qV 1 fM fdM ["self"] (Xu CG):=WB hM.fn C G
 refine F.okJ Uf (λvs H Q E z=>?_) (λcdv A outer s H vs Q E hr z=>?_)
 . obtain⟨g,rs,rfl,_⟩:=z
   rfl
 . obtain⟨g,rs,rfl,gr,good,le14,q⟩:=z
   have hu:=jJ hr
   have r1:jg 1 _:=hr.mono (by decide)
   refine⟨_,qe (qx (i:=1) Uf.nd rfl (Or.inl rfl) jw)
     (qe (qW PassesOwn.never rfl (qL (Yk hM C.cl GM r1 (jv 0))) (QJ rfl (qN (ql (i:=2) Uf.nd rfl (Or.inl rfl)) (qN (ql (i:=3) Uf.nd rfl (Or.inl rfl)) j2)))
       (qh (qS hu (jv 1) (jv 2) (qC VH (by rfl) G.srt boot_sorted (qb (jv 3) qf)) rfl)))
     (qh (qB (jv 1)))),?_⟩
   intro D hD
   have s1:qo H (upd H D (.dK [])):=qg hD
   have h1:upd H D (.dK []) D=some (.dK []):=qd
   generalize upd H D (.dK [])=H1 at s1 h1
   obtain⟨dx,lo,rd,kv0,hg,_⟩:=gr.mono s1
   refine⟨_,rfl,g,dx,_,rfl,hg,KN _ _,g,rs,rfl,gr.mono s1,le14,λl ps H2 s2 nl hl rat=>⟨l,rfl,⟨_,.of hl⟩,?_⟩⟩
   have lps:=rat.1
   have lt:(Js rs).length=rs.length:=List.length_map ..
   have nlD:l≠D:=λe=>by rw[e,h1]at nl;cases nl
   have hD2:=s2 _ _ h1
   refine jo (K:=K) (a:=l) (xs:=ps.map V.ref) (λi σ X=>∃v2 v3:Option V,σ=[some (.ref g),some (.ref D),v2,v3]/\Fr H2 D X/\zh X D ((Js rs).take i)) ⟨none,none,rfl,Fr.refl,⟨[],hD2,rfl,λr h=>(nomatch h)⟩⟩ (λi σ X _ ⟨_,_,_,fr,_⟩=>.of (fr _ _ hl nlD)) ?_ ?_
   . rintro i y σ X hy ⟨v2,v3,rfl,fr,ld⟩
     rw[List.getElem?_map]at hy
     cases ep:ps[i]? with
     | none=>rw[ep]at hy;cases hy
     | some p=>
       rw[ep]at hy
       obtain rfl:=(Option.some.inj hy).symm
       have hi:i < (Js rs).length:=by rw[<-lps];exact(List.getElem?_eq_some_iff.mp ep).1
       have er:(Js rs)[i]?=some (Js rs)[i]:=List.getElem?_eq_getElem hi
       generalize (Js rs)[i]=r at er
       obtain⟨t,hp,ht⟩:=rat.2 i p r ep er
       have nt:∀{b:Addr} {xs:List V},H2 b=some (.tup xs)->b≠D:=λe z=>by rw[z,hD2]at e;cases e
       have hpX:=fr _ _ hp (nt hp)
       have htX:=fr _ _ ht (nt ht)
       have lr2:r.2.length<=14:=by
         obtain⟨r0,_,e0⟩:=List.mem_map.mp (List.mem_of_getElem? er)
         rw[<-e0]
         exact Nat.le_trans (XD r0) le14
       have nz:r.1∉((Js rs).take i).map (·.1):=λm=>by
         rw[List.map_take,QG]at m
         have e2:(rs.map (·.1))[i]?=some r.1:=by rw[<-QG,List.getElem?_map,er];rfl
         exact jM good.nd e2 (List.mem_map.mpr ⟨_,m,rfl⟩)
       refine⟨p,_,rfl,.of hpX,rfl,_,_,rfl,_,_,rfl,rfl,?_⟩
       refine⟨_,rfl,t,r.2,rfl,.of htX,Nat.lt_of_le_of_lt lr2 (by decide),λl' ys hl' pm so=>?_⟩
       obtain⟨o,put,ld'⟩:=(ld.fr (qg (o:=.lst (ys.map V.str)) hl')).new nz (by rw[List.length_take];omega) qd pm so
       refine⟨_,rfl,_,rfl,D,_,rfl,put,_,_,rfl,(fr.same (qg hl')).at_d,?_⟩
       rw[List.take_add_one,er]
       exact ld'
   . rintro σ X ⟨v2,v3,rfl,fr,ld⟩
     rw[List.length_map,lps,List.take_of_length_le (Nat.le_refl _)]at ld
     exact⟨_,rfl,q X D (λb u hb=>fr _ _ (s2 _ _ (s1 _ _ hb)) (qw hb hD)) hD ld⟩
end
end Rh
set_option Elab.async false
set_option linter.all false
set_option maxRecDepth 100000
set_option maxHeartbeats 4000000
namespace Rh
open PySem L2 PyProof.Rows MLab Rb
def Sm (H:Hp) (ps:List Addr) (us:List W):Prop:=ps.length=us.length/\∀(i:Nat) (p:Addr) (u:W),ps[i]?=some p->us[i]?=some u->H p=some (.tup (tW u))
theorem Sm.mono {H H':Hp} {ps:List Addr} {us:List W} (h:Sm H ps us) (s:qo H H'):Sm H' ps us:=⟨h.1,λi p u e1 e2=>s _ _ (h.2 i p u e1 e2)⟩
theorem Sm.nil (H:Hp):Sm H [] []:=⟨rfl,λi p u e=>by simp at e⟩
theorem Sm.snoc {H:Hp} {ps:List Addr} {us:List W} {p:Addr} {u:W} (h:Sm H ps us) (hp:H p=some (.tup (tW u))):Sm H (ps++[p]) (us++[u]):=by
 refine⟨by rw[List.length_append,List.length_append,h.1];rfl,λi p' u' e1 e2=>?_⟩
 by_cases hi:i < ps.length
 . rw[List.getElem?_append_left hi]at e1
   rw[List.getElem?_append_left (by rw[<-h.1];exact hi)]at e2
   exact h.2 i p' u' e1 e2
 . have hi':i=ps.length:=by
     have:=(List.getElem?_eq_some_iff.mp e1).1
     rw[List.length_append,List.length_singleton]at this
     omega
   subst hi'
   rw[List.getElem?_append_right (Nat.le_refl _),Nat.sub_self]at e1
   rw[h.1,List.getElem?_append_right (Nat.le_refl _),Nat.sub_self]at e2
   obtain rfl:=(Option.some.inj e1).symm
   obtain rfl:=(Option.some.inj e2).symm
   exact hp
theorem Sm.lst {H:Hp} {ps:List Addr} {us:List W} {D:Addr} {ys zs:List V} (h:Sm H ps us) (hD:H D=some (.lst ys)):Sm (upd H D (.lst zs)) ps us:=⟨h.1,λi p u e1 e2=>by
 have hp:=h.2 i p u e1 e2
 rw[qi (λe=>by rw[e,hD]at hp;cases hp)]
 exact hp⟩
theorem Rl:∀n,n < 16->(List.range 16).filter (λk=>decide (k < n))=List.range n:=by decide+kernel
def c1 (u:W) (k:Nat):Bool:=decide (V.str (Jj u)=V.str (Str.ofString "number"))&&decide (k < Z9 u)
def fl (c:Nat->Bool) (i:Nat):List W:=((List.range i).filter c).map W.num
theorem ul (c:Nat->Bool) (i:Nat):fl c (i+1)=fl c i++if c i=true then [W.num i] else []:=by
 unfold fl
 rw[List.range_succ,List.filter_append,List.map_append]
 cases e:c i<;>simp [e]
theorem K9 (c:Nat->Bool) (i:Nat):(fl c i).length<=i:=by
 unfold fl
 rw[List.length_map]
 exact Nat.le_trans (List.length_filter_le ..) (by rw[List.length_range];exact Nat.le_refl _)
theorem Vo:(Str.ofString "endless")≠(Str.ofString "number"):=by decide+kernel
theorem K8 {n:Nat} (h:n < 16):fl (c1 (.num n)) 16=(List.range n).map W.num:=by
 unfold fl
 congr 1
 rw[<-Rl n h]
 exact List.filter_congr λk _=>by
   unfold c1
   rw[show Jj (.num n)=Str.ofString "number" from rfl,decide_eq_true rfl,Bool.true_and]
   rfl
theorem um (b:Nat):fl (λk=>b.testBit k) 16=(memN b 16).map W.num:=rfl
def ZR:W->List W
 | .num n=>(List.range n).map W.num
 | .edl b=>(memN b 16).map W.num++[.edl b]
theorem Y4 {F:Str->W} {zs:List Str} {fs:List (W×Str)} (h:Fs F zs fs) {p:W×Str} (hp:p∈fs):(ZR p.1).map (look fs)=ends fs p:=by
 cases e:p.1 with
 | num n=>rw[JJ e];unfold ZR;rw[List.map_map];rfl
 | edl b=>
   rw[JK e]
   unfold ZR
   rw[List.map_append,List.map_map]
   congr 1
   show [look fs (.edl b)]=[p.2]
   rw[zu h.nd (z:=p.2) (by rw[<-e];exact hp)]
theorem uk {F:Str->W} {zs:List Str} {fs:List (W×Str)} (h:Fs F zs fs) (c:Wc F zs) {p:W×Str} (hp:p∈fs):∀u∈ZR p.1,u∈fs.map (·.1):=λu hu=>by
 have hs:=h.has c hp
 cases e:p.1 with
 | num n=>
   rw[e]at hs hu
   obtain⟨k,hk,rfl⟩:=List.mem_map.mp hu
   exact hs.2 k (List.mem_range.mp hk)
 | edl b=>
   rw[e]at hs hu
   rcases List.mem_append.mp hu with hu | hu
   . obtain⟨k,hk,rfl⟩:=List.mem_map.mp hu
     exact hs.2 k (jI.mp hk).2
   . rw[List.mem_singleton.mp hu,<-e]
     exact List.mem_map.mpr ⟨p,hp,rfl⟩
theorem y9 {F:Str->W} {zs:List Str} {fs:List (W×Str)} (h:Fs F zs fs) (c:Wc F zs) {p:W×Str} (hp:p∈fs):(ZR p.1).length<=17:=by
 have hs:=h.has c hp
 cases e:p.1 with
 | num n=>rw[e]at hs;unfold ZR;rw[List.length_map,List.length_range];have:=hs.1;omega
 | edl b=>
   unfold ZR
   rw[List.length_append,List.length_map,List.length_singleton]
   have:(memN b 16).length<=16:=Nat.le_trans (List.length_filter_le ..) (by rw[List.length_range];exact Nat.le_refl _)
   omega
abbrev tP:TE:=Xp (jr (tC (.str (Str.ofString "number"))) (jr (qJ 0) QX))
theorem xn {tt:TT} {c:Nat->Bool} {b D:Addr} {Y:Hp} {Q:Hp->Prop} (hD:Y D=none) (ht:∀(k:Nat) (X:Hp) (R:Bool->Hp->Prop),k < 16->qo Y X->R (c k) X->tt [some (.int (0+(k:Int))),some (.ref b)] X R)
   (hq:∀X ps,qo Y X->X D=some (.lst (ps.map V.ref))->Sm X ps (fl c 16)->Q X):Zh (uD 0 16) (Qx 0) tt tP D [none,some (.ref b)] Y Q:=by
 refine QF (lo:=0) (n:=16) (λi σ' X=>∃(v0:Option V) (ps:List Addr),σ'=[v0,some (.ref b)]/\qo Y X/\X D=some (.lst (ps.map V.ref))/\Sm X ps (fl c i)) ⟨none,[],rfl,qg hD,qd,.nil _⟩ ?_ ?_
 . rintro i σ' X hi ⟨v0,ps,rfl,sx,hX,sm⟩
   refine ht i X _ hi sx ?_
   have sn:=ul c i
   cases e:c i with
   | true=>
     rw[e,if_pos rfl]at sn
     refine Qc ⟨_,rfl,by show 2<=sizeLine;decide,λp hp=>?_⟩
     have sp:=qg (o:=HO.tup [V.str (Str.ofString "number"),.int (0+(i:Int))]) hp
     refine⟨_,sp _ _ hX,?_,_,ps++[p],rfl,qo.upd (sx.trans sp) hD,by rw[qd,List.map_append];rfl,?_⟩
     . rw[List.length_map,sm.1]
       exact qk (by have:=K9 c i;omega)
     . rw[sn]
       refine Sm.lst ((sm.mono sp).snoc ?_) (sp _ _ hX)
       rw[qd,Int.zero_add]
       rfl
   | false=>
     rw[e,if_neg Bool.false_ne_true,List.append_nil]at sn
     exact jx ⟨_,ps,rfl,sx,hX,by rw[sn];exact sm⟩
 . rintro σ' X ⟨v0,ps,rfl,sx,hX,sm⟩
   exact hq X ps sx hX sm
def uT:Sp:=λvs H Q _=>∃(l Wd:Addr) (ps:List Addr) (rs:jk) (F:Str->W),vs=[.ref l,.ref Wd]/\Qe H l ps rs/\X8 H Wd F (rs.map (·.1))/\Wc F (rs.map (·.1))/\
 ∀H' r Ld Pd,qo H H'->H Ld=none->H Pd=none->Ld≠Pd->H' r=some (.tup [.ref Ld,.ref Pd])->zh H' Ld (jU (jQ F (rs.map (·.1))))->H' Pd=some (.dK (jn (jQ F (rs.map (·.1))) F (rs.map (·.1))))->Q (.ref r) H'
section
variable {P:Program} {w:World} {K:PySem.W.Frag} {mg:Str->Option Value} {base:Heap}
abbrev NV:List Str:=["_law_rows_here","_law_worths_here","_law_firsts","_law_name","_law_others","_law_leads_here","_law_worth","_law_some"]
abbrev wv:List Str:=["_law_rows_here","_law_worths_here"]
theorem Zl:qu NV wv (qm we):=⟨rfl,rfl,rfl,by decide+kernel,rfl,by decide+kernel,by decide+kernel⟩
theorem nb1:(["_law_k","_law_worth"]:List Str).Nodup:=by decide+kernel
theorem nb3:(["_law_one","_law_firsts"]:List Str).Nodup:=by decide+kernel
theorem nb4:(["_law_name","_law_others","_law_firsts","_law_worths_here"]:List Str).Nodup:=by decide+kernel
abbrev tN (K:PySem.W.Frag):TT:=xL (zF (YA NJ (YA (Wx K) (qJ 1) (tC (.int 0))) (tC (.str (Str.ofString "number"))))) (zF (YA (ki λi j=>.bl (decide (i < j))) (qJ 0) (YA (Wx K) (qJ 1) (tC (.int 1)))))
abbrev tE (K:PySem.W.Frag):TT:=zF (YA NJ (YA (ki λi j=>.int (Builtin.bitAnd i j)) (YA (rI (λ_ j=>0<=j) λi j=>.int (i / 2^j.toNat)) (YA (Wx K) (qJ 1) (tC (.int 1))) (qJ 0)) (tC (.int 1))) (tC (.int 1)))
theorem KA {f:Addr} {fd:FuncData} (F:j7 K "_law_least" "_law_least" we f fd) (B:Jr mg) (G:QK mg) (hdi:mg "dict"=none):qv P w K mg base qV 1 f fd wv uT:=by
 refine F.okJ Zl (λvs H Q E z=>?_) (λcdv A outer s H vs Q E hr z=>?_)
 . obtain⟨l,Wd,ps,rs,F,rfl,_⟩:=z
   rfl
 . obtain⟨l,Wd,ps,rs,F,rfl,ga,wt,wc,q⟩:=z
   have hu:=jJ hr
   refine⟨_,qe (qx (i:=2) Zl.nd rfl (Or.inr rfl) Yl)
     (qe (qW PassesOwn.never rfl (qL (jv 0)) (QJ rfl (qN (ql (i:=3) Zl.nd rfl (Or.inl rfl)) (qN (ql (i:=4) Zl.nd rfl (Or.inl rfl)) j2)))
       (qh (q5 (j1 (QD hu (qG hu (jv 1) (jv 3) (λ_ _=>rfl)) (jv 2))) (qh (qS hu (jv 2) (qG hu (jv 1) (jv 3) (λ_ _=>rfl)) (jv 3) rfl)) qE)))
     (qe (qx (i:=5) Zl.nd rfl (Or.inl rfl) jw)
     (qe (wY (qW PassesOwn.never rfl (WM (jv 2)) (QJ rfl (qN (ql (i:=6) Zl.nd rfl (Or.inr rfl)) (qN (ql (i:=3) Zl.nd rfl (Or.inl rfl)) j2)))
       (qe (Qo (i:=7) (N':=["_law_k","_law_worth"]) (ix:=[none,some 6]) (tt:=tN K) (te:=tP) Zl.nd rfl (Or.inl rfl) rfl ⟨rfl,rfl,rfl,rfl,rfl⟩ (ja (by rfl) B.rng (qb qj qf)) (λC s2 H2 fp pins=>
         ⟨ql (i:=0) nb1 rfl (Or.inl rfl),jF (JW.pt (jZ (qr QI (jA jD (jv 1) qj (λ_ _=>rfl)) qT (qz _)) (jO (qr Qw (jv 0) (jA jD (jv 1) qj (λ_ _=>rfl)) (qz _))))),jl (qb qT (qb (jv 0) qf))⟩))
       (wX (q5 (qr QI (jA jD (jv 6) qj (λ_ _=>rfl)) qT (qz _))
         (qh (qx (i:=7) Zl.nd rfl (Or.inl rfl) (qP Uu (jP (N':=["_law_k","_law_worth"]) (ix:=[none,some 6]) (tt:=tE K) (te:=tP) rfl ⟨rfl,rfl,rfl,rfl,rfl⟩ (ja (by rfl) B.rng (qb qj qf)) (λC s2 H2 fp pins=>
           ⟨ql (i:=0) nb1 rfl (Or.inl rfl),jF (qr QI (qP yg (qP yb (jA jD (jv 1) qj (λ_ _=>rfl)) (jv 0)) qj) qj (qz _)),jl (qb qT (qb (jv 0) qf))⟩)) (QS (qb (jv 6) qf))))) qE)
       (qh (qS hu (jv 5) (jv 3) (qC VI (by rfl) G.srt boot_sorted (qb (jP (N':=["_law_one","_law_firsts"]) (ix:=[none,some 2]) (te:=Jt (qJ 1) (qJ 0)) rfl ⟨rfl,rfl,rfl,rfl,rfl⟩ (qL (jv 7)) (λC s2 H2 fp pins=>
           ⟨ql (i:=0) nb3 rfl (Or.inl rfl),js,qG hu (jv 1) (jv 0) (λ_ _=>rfl)⟩)) qf)) rfl))))))
     (qh (qB (jl (qb (jv 5) (qb (ji (Zb rfl) (by rfl) hdi boot_dict (qb (jP (N':=["_law_name","_law_others","_law_firsts","_law_worths_here"]) (ix:=[none,none,some 2,some 1]) (g:=K5 K 2 (WQ (Qx 0) (WQ (Qx 1) K7))) (te:=Xp (jr (qJ 0) (jr (Jt (qJ 2) (Jt (qJ 3) (qJ 0))) QX))) rfl ⟨rfl,rfl,rfl,rfl,rfl⟩ (qL (jv 0)) (λC s2 H2 fp pins=>
           ⟨QJ rfl (qN (ql (i:=0) nb4 rfl (Or.inl rfl)) (qN (ql (i:=1) nb4 rfl (Or.inl rfl)) j2)),js,jl (qb (jv 0) (qb (qG hu (jv 2) (qG hu (jv 3) (jv 0) (λ_ _=>rfl)) (λ_ _=>rfl)) qf))⟩)) qf)) qf)))))))),?_⟩
   obtain⟨kw,hW,ekw,evw⟩:=wt.at_
   intro Fd hFd
   have s1:qo H (upd H Fd (.dT [])):=qg hFd
   have h1:upd H Fd (.dT []) Fd=some (.dT []):=qd
   generalize upd H Fd (.dT [])=H1 at s1 h1
   have hW1:=s1 _ _ hW
   have hl1:=s1 _ _ ga.at_
   have rat1:=ga.rows.mono s1
   have lps:=ga.rows.1
   have le:=ga.le
   have nWF:Wd≠Fd:=λe=>by rw[e,h1]at hW1;cases hW1
   have nlF:l≠Fd:=λe=>by rw[e,h1]at hl1;cases hl1
   have ntF:∀{b:Addr} {xs:List V},H1 b=some (.tup xs)->b≠Fd:=λe z=>by rw[z,h1]at e;cases e
   have lz:(rs.map (·.1)).length=rs.length:=List.length_map ..
   refine⟨_,rfl,l,rfl,⟨_,.of hl1⟩,?_⟩
   refine jo (K:=K) (a:=l) (xs:=ps.map V.ref) (λi σ X=>∃v3 v4:Option V,σ=[some (.ref l),some (.ref Wd),some (.ref Fd),v3,v4,none,none,none]/\Fr H1 Fd X/\X Fd=some (.dT (fT (jQ F ((rs.map (·.1)).take i))))) ⟨none,none,rfl,Fr.refl,h1⟩ (λi σ X _ ⟨_,_,_,fr,_⟩=>.of (fr _ _ hl1 nlF)) ?_ ?_
   . rintro i y σ X hy ⟨v3,v4,rfl,fr,hX⟩
     rw[List.getElem?_map]at hy
     cases ep:ps[i]? with
     | none=>rw[ep]at hy;cases hy
     | some p=>
       rw[ep]at hy
       obtain rfl:=(Option.some.inj hy).symm
       have hi:i < rs.length:=by rw[<-lps];exact(List.getElem?_eq_some_iff.mp ep).1
       have er:rs[i]?=some rs[i]:=List.getElem?_eq_getElem hi
       generalize rs[i]=r at er
       obtain⟨t0,hp,_⟩:=rat1.2 i p r ep er
       have hpX:=fr _ _ hp (ntF hp)
       have ez:(rs.map (·.1))[i]?=some r.1:=by rw[List.getElem?_map,er];rfl
       obtain⟨t,et,ht⟩:=evw r.1 (List.mem_of_getElem? ez)
       have ht1:=s1 _ _ ht
       have htX:=fr _ _ ht1 (ntF ht1)
       have gd:=jm.k (k:=(Sum.inr r.1:qA)) (fr _ _ hW1 nWF)
       rw[et]at gd
       have gf:jm X Fd (.ref t) (qM (fT (jQ F ((rs.map (·.1)).take i))) (kW (F r.1))):=jm.t hX (by rw[ZP];exact htX)
       have snoc:jQ F ((rs.map (·.1)).take (i+1))=ZA F (jQ F ((rs.map (·.1)).take i)) r.1:=by rw[List.take_add_one,ez];exact Y5 ..
       have fsi:=WS F ((rs.map (·.1)).take i)
       refine⟨p,_,rfl,.of hpX,rfl,_,_,rfl,_,_,rfl,rfl,?_⟩
       refine⟨_,rfl,_,rfl,Wd,_,rfl,gd,_,rfl,Fd,_,rfl,gf,_,rfl,?_⟩
       by_cases m:F r.1∈(jQ F ((rs.map (·.1)).take i)).map (·.1)
       . rw[XU fsi.nd (fsi.look m).1]
         refine jx ⟨_,_,rfl,fr,?_⟩
         rw[snoc,WR m]
         exact hX
       . rw[zC m]
         have lf:(fT (jQ F ((rs.map (·.1)).take i))).length < sizeLine:=by
           rw[XV]
           have:=fsi.len
           rw[List.length_take]at this
           exact qk (by omega)
         refine Qc ⟨_,rfl,_,rfl,_,rfl,_,rfl,Wd,_,rfl,gd,Fd,_,rfl,Qf.t hX (by rw[ZP];exact htX) lf,?_⟩
         refine⟨_,_,rfl,fr.at_d,?_⟩
         rw[qd,snoc,xf m]
   . rintro σ X ⟨v3,v4,rfl,fr,hX⟩
     rw[List.length_map,lps,List.take_of_length_le (by rw[lz];exact Nat.le_refl _)]at hX
     intro Ld hLd
     have fsh:=WS F (rs.map (·.1))
     have fl14:=fsh.len
     generalize hfs:jQ F (rs.map (·.1))=fs at*
     have nFL:Fd≠Ld:=λe=>by rw[<-e,hX]at hLd;cases hLd
     have nLH:H Ld=none:=Classical.byContradiction λn=>by
       obtain⟨o,ho⟩:=Option.ne_none_iff_exists'.mp n
       rw[fr _ _ (s1 _ _ ho) (Ne.symm nFL)]at hLd
       cases hLd
     have hF2:upd X Ld (.dK []) Fd=some (.dT (fT fs)):=qp hX hLd
     refine⟨Fd,_,hF2,λo=>?_⟩
     have fr3:Fr H1 Fd (upd (upd X Ld (.dK [])) Fd (.frz o (.dT (fT fs)))):=(Fr.same fr (qg hLd)).at_d
     have h3:upd (upd X Ld (.dK [])) Fd (.frz o (.dT (fT fs))) Fd=some (.frz o (.dT (fT fs))):=qd
     have h3L:upd (upd X Ld (.dK [])) Fd (.frz o (.dT (fT fs))) Ld=some (.dK []):=by rw[qi (Ne.symm nFL)];exact qd
     generalize upd (upd X Ld (.dK [])) Fd (.frz o (.dT (fT fs)))=H3 at fr3 h3 h3L
     refine⟨_,rfl,Fd,o,.dT (fT fs),rfl,h3,True.intro,?_⟩
     have eLn:Ln (.dT (fT fs))=fs.length:=XV fs
     refine Y6 (u:=.dT (fT fs)) (λi σ Y=>∃v3 v6 v7:Option V,σ=[some (.ref l),some (.ref Wd),some (.ref Fd),v3,v4,some (.ref Ld),v6,v7]/\Fr H3 Ld Y/\zh Y Ld ((jU fs).take i)) ⟨_,_,_,rfl,Fr.refl,⟨[],h3L,rfl,λr h=>(nomatch h)⟩⟩ (λi σ Y _ ⟨_,_,_,_,fr,_⟩=>fr _ _ h3 nFL) ?_ ?_
     . rintro i x y p σ Y hi hp ⟨k,b,e,rfl,hb⟩ ⟨v3,v6,v7,rfl,frY,ld⟩
       obtain⟨pr,epr,hpr,rfl,rfl⟩:=u8 e
       rw[ZP,Wi]at hb
       have s5:qo Y (upd Y p (.tup [.ref b,.str pr.2])):=qg hp
       refine⟨p,_,rfl,.of qd,rfl,_,_,rfl,_,_,rfl,rfl,?_⟩
       generalize upd Y p (.tup [.ref b,.str pr.2])=Y1 at s5
       have hb1:=s5 _ _ hb
       have hF1:=s5 _ _ (frY _ _ h3 nFL)
       have hs:=fsh.has wc hpr
       refine⟨16,rfl,by decide,by decide,λD1 hD1=>?_⟩
       refine xn (c:=c1 pr.1) hD1 (λk X R hk sx kR=>?_) λZ1 ps1 sz1 hZ1 sm1=>?_
       . refine⟨_,rfl,b,_,0,_,rfl,rfl,.of (sx _ _ hb1),Qi (j:=0) rfl,rfl,_,rfl,?_⟩
         unfold c1 at kR
         cases ce:decide (V.str (Jj pr.1)=V.str (Str.ofString "number")) with
         | false=>
           rw[ce,Bool.false_and]at kR
           exact jx kR
         | true=>
           rw[ce,Bool.true_and]at kR
           refine Qc ⟨_,rfl,_,rfl,b,_,1,_,rfl,rfl,.of (sx _ _ hb1),Qi (j:=1) rfl,_,_,rfl,rfl,_,rfl,?_⟩
           have e2:decide ((0:Int)+(k:Int) < ((Z9 pr.1:Nat):Int))=decide (k < Z9 pr.1):=decide_eq_decide.mpr ⟨λz=>by omega,λz=>by omega⟩
           rw[e2]
           exact kR
       refine⟨λσ' Z=>∃(D7:Addr) (qs:List Addr),σ'=[some (.ref l),some (.ref Wd),some (.ref Fd),some (.str pr.2),v4,some (.ref Ld),some (.ref b),some (.ref D7)]/\qo Y1 Z/\Z D7=some (.lst (qs.map V.ref))/\Sm Z qs (ZR pr.1),?_,?_⟩
       . refine⟨_,rfl,b,_,0,_,rfl,rfl,.of (sz1 _ _ hb1),Qi (j:=0) rfl,rfl,_,rfl,?_⟩
         cases ew:pr.1 with
         | num n=>
           rw[ew]at sm1 hs
           rw[K8 hs.1]at sm1
           refine Ja (decide_eq_false λz=>Vo (V.str.inj z).symm) ⟨D1,ps1,rfl,sz1,hZ1,sm1⟩
         | edl bb=>
           rw[ew]at hs
           refine Q9 (decide_eq_true rfl) ?_
           rw[ew]at hb1
           refine⟨16,rfl,by decide,by decide,λD2 hD2=>?_⟩
           refine xn (c:=λk=>bb.testBit k) hD2 (λk X R hk sx kR=>?_) λZ2 ps2 sz2 hZ2 sm2=>?_
           . refine⟨_,rfl,b,_,1,_,rfl,rfl,.of (sx _ _ (sz1 _ _ hb1)),Qi (j:=1) rfl,_,rfl,_,_,rfl,rfl,by show (0:Int)<=0+(k:Int);omega,_,_,rfl,rfl,rfl,_,rfl,?_⟩
             have e7:Builtin.bitAnd (((bb:Nat):Int) / 2^ (0+(k:Int)).toNat) 1=(((bb.testBit k).toNat:Nat):Int):=by
               rw[Int.zero_add,Int.toNat_natCast]
               exact Uc bb k
             show R (decide (V.int (Builtin.bitAnd (((bb:Nat):Int) / 2^ (0+(k:Int)).toNat) 1)=V.int 1)) X
             rw[e7]
             cases ct:bb.testBit k with
             | true=>rw[ct]at kR;exact kR
             | false=>rw[ct]at kR;exact kR
           . rw[um]at sm2
             refine⟨_,rfl,by show 1<=sizeLine;decide,λl1 hl1'=>?_⟩
             have s6:=qg (o:=HO.lst [V.ref b]) hl1'
             refine⟨D2,l1,_,_,rfl,rfl,.of (s6 _ _ hZ2),.of qd,?_,λl2 hl2'=>?_⟩
             . rw[List.length_map,sm2.1,List.length_map]
               have:(memN bb 16).length<=16:=Nat.le_trans (List.length_filter_le ..) (by rw[List.length_range];exact Nat.le_refl _)
               exact Nat.le_of_lt (qk (by simp;omega))
             . have s7:=qg (o:=HO.lst (ps2.map V.ref++[V.ref b])) hl2'
               have s27:=s6.trans s7
               refine⟨l2,ps2++[b],rfl,(sz1.trans sz2).trans s27,by rw[qd,List.map_append];rfl,?_⟩
               exact(sm2.mono s27).snoc (u:=.edl bb) (by rw[Wi];exact s27 _ _ (sz2 _ _ (sz1 _ _ hb1)))
       . rintro σ' Z ⟨D7,qs,rfl,sZ,hD7,sm⟩
         have flen:=y9 fsh wc hpr
         have lq:=sm.1
         refine⟨_,rfl,D7,rfl,⟨_,.of hD7⟩,λD3 hD3=>?_⟩
         have hFZ:=sZ _ _ hF1
         refine jS (K:=K) (a:=D7) (xs:=qs.map V.ref) (λj σ'' X=>∃v0:Option V,σ''=[v0,some (.ref Fd)]/\qo Z X/\X D3=some (.lst ((((ZR pr.1).take j).map (look fs)).map V.str))) ⟨none,rfl,qg hD3,qd⟩ (λj σ'' X _ ⟨_,_,sx,_⟩=>.of (sx _ _ hD7)) ?_ ?_
         . rintro j y σ'' X hy ⟨v0,rfl,sx,hX3⟩
           rw[List.getElem?_map]at hy
           cases eq1:qs[j]? with
           | none=>rw[eq1]at hy;cases hy
           | some q1=>
             rw[eq1]at hy
             obtain rfl:=(Option.some.inj hy).symm
             have hj:j < (ZR pr.1).length:=by rw[<-lq];exact(List.getElem?_eq_some_iff.mp eq1).1
             have eu:(ZR pr.1)[j]?=some (ZR pr.1)[j]:=List.getElem?_eq_getElem hj
             generalize (ZR pr.1)[j]=u at eu
             have hu1:=sm.2 j q1 u eq1 eu
             have mu:=uk fsh wc hpr u (List.mem_of_getElem? eu)
             refine⟨_,rfl,_,rfl,Fd,_,rfl,jm.w (.inr ⟨o,sx _ _ hFZ⟩) (sx _ _ hu1) fsh.nd (fsh.look mu).1,_,hX3,?_,_,rfl,qo.upd sx hD3,?_⟩
             . rw[List.length_map,List.length_map,List.length_take]
               exact qk (by omega)
             . rw[qd,List.take_add_one,eu,List.map_append,List.map_append]
               rfl
         . rintro σ'' X ⟨v0,rfl,sx,hX3⟩
           rw[List.length_map,lq,List.take_of_length_le (Nat.le_refl _),Y4 fsh hpr]at hX3
           have el:(ends fs pr).length < 64:=by
             rw[<-Y4 fsh hpr,List.length_map]
             omega
           refine⟨D3,ends fs pr,rfl,.of hX3,el,λl' ys hl' pm so=>?_⟩
           have sY:qo Y (upd X l' (.lst (ys.map V.str))):=((s5.trans sZ).trans sx).trans (qg hl')
           have hi':i < fs.length:=by rw[<-eLn];exact hi
           have er:(jU fs)[i]?=some (pr.2,ends fs pr):=by unfold jU;rw[List.getElem?_map,epr];rfl
           have nz:pr.2∉((jU fs).take i).map (·.1):=λm=>by
             rw[List.map_take,jB]at m
             have e2:(fs.map (·.2))[i]?=some pr.2:=by rw[List.getElem?_map,epr];rfl
             exact jM fsh.nd2 e2 (List.mem_map.mpr ⟨_,m,rfl⟩)
           obtain⟨oo,put,ld'⟩:=(ld.fr sY).new (r:=(pr.2,ends fs pr)) nz (by rw[List.length_take,QL];omega) qd pm so
           refine⟨_,rfl,_,rfl,Ld,_,rfl,put,_,_,_,rfl,(frY.same sY).at_d,?_⟩
           rw[List.take_add_one,er]
           exact ld'
     . rintro σ Y ⟨v3,v6,v7,rfl,frY,ld⟩
       rw[eLn,List.take_of_length_le (by rw[QL];exact Nat.le_refl _)]at ld
       have nlL:l≠Ld:=λe=>by have:=fr3 _ _ hl1 nlF;rw[e,h3L]at this;cases this
       have nWL:Wd≠Ld:=λe=>by rw[e,nLH]at hW;cases hW
       have hlY:=frY _ _ (fr3 _ _ hl1 nlF) nlL
       have hWY:=frY _ _ (fr3 _ _ hW1 nWF) nWL
       have hFY:=frY _ _ h3 nFL
       have tY:∀{b:Addr} {xs:List V},H1 b=some (.tup xs)->Y b=some (.tup xs):=λ{b xs} hb=>by
         have:=fr3 _ _ hb (ntF hb)
         exact frY _ _ this (λe=>by rw[e,h3L]at this;cases this)
       have sHY:∀b u,H b=some u->Y b=some u:=λb u hb=>by
         have n1:b≠Fd:=λe=>by rw[e,hFd]at hb;cases hb
         have n2:b≠Ld:=λe=>by rw[e,nLH]at hb;cases hb
         exact frY _ _ (fr3 _ _ (s1 _ _ hb) n1) n2
       refine⟨_,rfl,_,rfl,l,rfl,⟨_,.of hlY⟩,λD4 hD4=>?_⟩
       refine jS (K:=K) (a:=l) (xs:=ps.map V.ref) (λi σ'' X=>∃(v0 v1:Option V) (qs:List Addr),σ''=[v0,v1,some (.ref Fd),some (.ref Wd)]/\qo Y X/\X D4=some (.lst (qs.map V.ref))/\qs.length=i/\∀(j:Nat) (a:Addr) (z:Str),qs[j]?=some a->(rs.map (·.1))[j]?=some z->X a=some (.tup [.str z,.str (look fs (F z))])) ⟨none,none,[],rfl,qg hD4,qd,rfl,λj a z e=>by simp at e⟩ (λi σ'' X _ ⟨_,_,_,_,sx,_⟩=>.of (sx _ _ hlY)) ?_ ?_
       . rintro i y σ'' X hy ⟨v0,v1,qs,rfl,sx,hX4,lq,all⟩
         rw[List.getElem?_map]at hy
         cases ep:ps[i]? with
         | none=>rw[ep]at hy;cases hy
         | some p=>
           rw[ep]at hy
           obtain rfl:=(Option.some.inj hy).symm
           have hi:i < rs.length:=by rw[<-lps];exact(List.getElem?_eq_some_iff.mp ep).1
           have er:rs[i]?=some rs[i]:=List.getElem?_eq_getElem hi
           generalize rs[i]=r at er
           obtain⟨t0,hp,_⟩:=rat1.2 i p r ep er
           have ez:(rs.map (·.1))[i]?=some r.1:=by rw[List.getElem?_map,er];rfl
           have hz:=List.mem_of_getElem? ez
           obtain⟨t,et,ht⟩:=evw r.1 hz
           have gd:=jm.k (k:=(Sum.inr r.1:qA)) (sx _ _ hWY)
           rw[et]at gd
           refine⟨p,_,rfl,.of (sx _ _ (tY hp)),rfl,_,_,rfl,_,_,rfl,rfl,?_⟩
           refine⟨_,rfl,_,rfl,_,rfl,_,rfl,Wd,_,rfl,gd,Fd,_,rfl,jm.w (.inr ⟨o,sx _ _ hFY⟩) (sx _ _ (sHY _ _ ht)) fsh.nd (fsh.look (fsh.all r.1 hz)).1,by show 2<=sizeLine;decide,λa ha=>?_⟩
           have sa:=qg (o:=HO.tup [V.str r.1,.str (look fs (F r.1))]) ha
           refine⟨_,sa _ _ hX4,?_,_,_,qs++[a],rfl,qo.upd (sx.trans sa) hD4,by rw[qd,List.map_append];rfl,by rw[List.length_append,lq];rfl,λj a' z e1 e2=>?_⟩
           . rw[List.length_map,lq]
             exact qk (by omega)
           . have nD:∀{c:Addr} {xs:List V},(upd X a (.tup [V.str r.1,.str (look fs (F r.1))])) c=some (.tup xs)->c≠D4:=λe z=>by rw[z,sa _ _ hX4]at e;cases e
             by_cases hj:j < qs.length
             . rw[List.getElem?_append_left hj]at e1
               have:=sa _ _ (all j a' z e1 e2)
               rw[qi (nD this)]
               exact this
             . have hj':j=qs.length:=by
                 have:=(List.getElem?_eq_some_iff.mp e1).1
                 rw[List.length_append,List.length_singleton]at this
                 omega
               subst hj'
               rw[List.getElem?_append_right (Nat.le_refl _),Nat.sub_self]at e1
               obtain rfl:=(Option.some.inj e1).symm
               rw[lq,ez]at e2
               obtain rfl:=(Option.some.inj e2).symm
               rw[qi (nD qd)]
               exact qd
       . rintro σ'' X ⟨v0,v1,qs,rfl,sx,hX4,lq,all⟩
         rw[List.length_map]at lq
         have lpk:(jn fs F (rs.map (·.1))).length=rs.length:=by unfold jn;rw[List.length_map,lz]
         refine⟨D4,qs,jn fs F (rs.map (·.1)),rfl,.of hX4,by rw[lq,lpk,lps],λi a kv e1 e2=>?_,by rw[lpk];omega,λPd hPd=>?_⟩
         . unfold jn at e2
           rw[List.getElem?_map]at e2
           cases ez:(rs.map (·.1))[i]? with
           | none=>rw[ez]at e2;cases e2
           | some z=>
             rw[ez]at e2
             obtain rfl:=(Option.some.inj e2).symm
             exact .of (all i a z e1 ez)
         . have nk:((jn fs F (rs.map (·.1))).map (·.1)).Nodup:=by
             rw[Zr]
             exact jN ga.good.nd λa _ b _ e=>Sum.inr.inj e
           rw[JU nk (λk _ m=>by simp at m),List.nil_append]
           refine⟨by show 2<=sizeLine;decide,λr hr'=>?_⟩
           have sP:=qg (o:=HO.dK (jn fs F (rs.map (·.1)))) hPd
           have sr:=qg (o:=HO.tup [V.ref Ld,.ref Pd]) hr'
           have sF:=(sx.trans sP).trans sr
           have nPH:H Pd=none:=Classical.byContradiction λn=>by
             obtain⟨u,hu'⟩:=Option.ne_none_iff_exists'.mp n
             rw[sx _ _ (sHY _ _ hu')]at hPd
             cases hPd
           have nLP:Ld≠Pd:=λe=>by
             obtain⟨kk,ak,_⟩:=ld.at_
             rw[<-e,sx _ _ ak]at hPd
             cases hPd
           have:=q (upd (upd X Pd (.dK (jn fs F (rs.map (·.1))))) r (.tup [.ref Ld,.ref Pd])) r Ld Pd (λb u hb=>sF _ _ (sHY b u hb)) nLH nPH nLP qd
           exact this (ld.fr sF) (qp qd hr')
end
end Rh
set_option Elab.async false
set_option linter.all false
set_option maxRecDepth 100000
set_option maxHeartbeats 4000000
namespace Rh
open PySem L2 PyProof.Rows MLab Rb
def vV (r:Str×List Str):PyData:=.tuple [.str r.1,.tuple (r.2.map PyData.str)]
theorem qU.tail {H:Hp} {p:Addr} {ps:List Addr} {r:Str×List Str} {rs:jk} (h:qU H (p::ps) (r::rs)):qU H ps rs:=⟨Nat.succ.inj h.1,λi a b e1 e2=>h.2 (i+1) a b (by simpa using e1) (by simpa using e2)⟩
theorem Yz {K:PySem.W.Frag} {H:Hp}:∀{ps:List Addr} {rs:jk},qU H ps rs->DVs K H (ps.map V.ref) (rs.map vV)
 | [],[],_=>.nil
 | [],_::_,h=>by cases h.1
 | _::_,[],h=>by cases h.1
 | p::ps,r::rs,h=>by
   obtain⟨q,a,b⟩:=h.2 0 p r rfl rfl
   exact .cons (.tup (.of a) (.cons (.str _) (.cons (.tup (.of b) (Yy _)) .nil))) (Yz h.tail)
theorem W1:∀{rs:jk},(∀r∈rs,jc r.1=true/\∀z∈r.2,jc z=true)->PyData.canLayAll0 (rs.map vV)=true
 | [],_=>rfl
 | r::rs,h=>by
   rw[List.map_cons,PyData.canLayAll0,W1 λy hy=>h y (List.mem_cons_of_mem _ hy),Bool.and_true]
   obtain⟨h1,h2⟩:=h r List.mem_cons_self
   show (PyData.strOk r.1&&(PyData.canLayAll0 (r.2.map PyData.str)&&true))=true
   rw[XL h1,Gf h2]
   rfl
theorem WW:∀(rs:jk),PyData.depthAll (rs.map vV)<=2
 | []=>by decide
 | r::rs=>by
   have:=WW rs
   rw[List.map_cons]
   simp only[PyData.depthAll,PyData.depth,vV,Gc]
   omega
theorem xR {rs:jk} (g:qt rs):PySem.SeqAt.shaped (.list (rs.map vV))=true:=by
 unfold PySem.SeqAt.shaped
 rw[Bool.and_eq_true]
 refine⟨W1 λr hr=>⟨g.nm r hr,g.names r hr⟩,decide_eq_true ?_⟩
 have:=WW rs
 simp only[PyData.depth]
 omega
def V8 (K:PySem.W.Frag):Sp:=λvs H Q _=>∃(a:Addr) (ns:List Int),vs=[.ref a]/\SqL K H a (ns.map V.int)/\ns.length<=63/\∀H',Q (.bl true) H'
theorem _root_.L2.SqL.mono {K:PySem.W.Frag} {H H':Hp} {p:Addr} {xs:List V} (h:SqL K H p xs) (s:qo H H'):SqL K H' p xs:=by
 rcases h with (h | ⟨o,h⟩) | h
 . exact .inl (.inl (s _ _ h))
 . exact .inl (.inr ⟨o,s _ _ h⟩)
 . exact .inr h
theorem RI {r:Int} (h0:0<=r) (h1:r < 4):∃mo:Nat,xq [V.int 5,.int 7,.int 9,.int 14] r=some (.int (mo:Int))/\0 < mo/\mo<=14:=by
 have:r=0\/r=1\/r=2\/r=3:=by omega
 rcases this with rfl | rfl | rfl | rfl
 . exact⟨5,rfl,by decide,by decide⟩
 . exact⟨7,rfl,by decide,by decide⟩
 . exact⟨9,rfl,by decide,by decide⟩
 . exact⟨14,rfl,by decide,by decide⟩
theorem RO {n jj:Int} (h0:0<=n) (h:(if (if n < (8:Int) then n else (8:Int)) > 1 then (if n < (8:Int) then n else (8:Int)) else 1)=jj):-(2^62)<=jj/\jj < 2^62:=by
 subst h
 split<;>split<;>omega
theorem Kl {z:Str} (h:jc z=true):PySem.SeqAt.shaped (.str z)=true:=by
 unfold PySem.SeqAt.shaped
 simp only[PyData.canLay0,XL h,PyData.depth]
 rfl
def Gq (H:Hp) (D:Addr) (kvs:List (qA×V)) (rs:jk):Prop:=Rd H D (.dK kvs)/\kvs.map (·.1)=(rs.map (·.1)).map Sum.inr/\∀r∈rs,∃t ys,qM kvs (Sum.inr r.1:qA)=some (.ref t)/\H t=some (.lst (ys.map V.str))/\ys.Perm r.2/\sortedS ys=true
theorem Gq.fr {H H':Hp} {D:Addr} {kvs:List (qA×V)} {rs:jk} (h:Gq H D kvs rs) (s:qo H H'):Gq H' D kvs rs:=⟨h.1.mono s,h.2.1,λr hr=>let ⟨t,ys,u,v,w⟩:=h.2.2 r hr;⟨t,ys,u,s _ _ v,w⟩⟩
theorem zh.r {H:Hp} {D:Addr} {rs:jk} (h:zh H D rs):∃kvs,Gq H D kvs rs:=let ⟨kvs,a,b,c⟩:=h.at_;⟨kvs,.of a,b,c⟩
theorem xv {K:PySem.W.Frag} {H H':Hp} {p d:Addr} {ns:List Int} {kvs:List (qA×V)} (h:SqL K H p (ns.map V.int)) (hd:H d=some (.dK kvs)) (f:Fr H d H'):SqL K H' p (ns.map V.int):=by
 rcases h with (h | ⟨o,h⟩) | h
 . exact .inl (.inl (f _ _ h (λe=>by rw[e,hd]at h;cases h)))
 . exact .inl (.inr ⟨o,f _ _ h (λe=>by rw[e,hd]at h;cases h)⟩)
 . exact .inr h
theorem U9 {H H':Hp} {d:Addr} {o:HO} (s:qo H H'):qo (upd H d o) (upd H' d o):=λb u hb=>by
 by_cases e:b=d
 . subst e
   rw[qd]at hb ⊢
   exact hb
 . rw[qi e]at hb ⊢
   exact s _ _ hb
theorem wU {K:PySem.W.Frag} {H:Hp} {D E:Addr} {rs us:jk} (good:qt rs) {kvs kws:List (qA×V)} (h:Gq H D kvs us) (k:Gq H E kws rs) (names:us.map (·.1)=rs.map (·.1)) (same:∀(i:Nat) (u r:Str×List Str),us[i]?=some u->rs[i]?=some r->u.2.Perm r.2) {Q:VK} (q:Q (.bl false) H):kY K (.ref D) (.ref E) H Q:=by
 obtain⟨a,b,c⟩:=h
 obtain⟨a',b',c'⟩:=k
 have l1:kvs.length=us.length:=by have:=congrArg List.length b;simpa using this
 have l2:kws.length=rs.length:=by have:=congrArg List.length b';simpa using this
 have l3:us.length=rs.length:=by have:=congrArg List.length names;simpa using this
 refine⟨D,E,kvs,kws,rfl,rfl,a,a',by omega,λp hp=>?_,q⟩
 obtain⟨i,ei⟩:=List.getElem?_of_mem hp
 have hi:=(List.getElem?_eq_some_iff.mp ei).1
 have eu:us[i]?=some us[i]:=List.getElem?_eq_getElem (by omega)
 have er:rs[i]?=some rs[i]:=List.getElem?_eq_getElem (by omega)
 generalize us[i]=u at eu
 generalize rs[i]=r at er
 have ek:p.1=Sum.inr u.1:=by
   have e1:(kvs.map (·.1))[i]?=some p.1:=by rw[List.getElem?_map,ei];rfl
   rw[b,List.getElem?_map,List.getElem?_map,eu]at e1
   exact(Option.some.inj e1).symm
 have en:u.1=r.1:=by
   have e1:(us.map (·.1))[i]?=some u.1:=by rw[List.getElem?_map,eu];rfl
   rw[names,List.getElem?_map,er]at e1
   exact(Option.some.inj e1).symm
 obtain⟨t,ys,v1,v2,v3,v4⟩:=c u (List.mem_of_getElem? eu)
 obtain⟨t',ys',w1,w2,w3,w4⟩:=c' r (List.mem_of_getElem? er)
 have ep:p.2=.ref t:=by
   have nd:(kvs.map (·.1)).Nodup:=by
     rw[b,names]
     exact jN good.nd λa _ b _ e=>Sum.inr.inj e
   have:=zi (k:=p.1) (v:=p.2) nd ei
   rw[ek,v1]at this
   exact(Option.some.inj this).symm
 have ey:ys=ys':=U5 v3 w3 (same i u r eu er) v4 w4
 subst ey
 refine⟨.ref t',dL ys,by rw[ek,en];exact w1,by rw[ep];exact uF v2,uF w2,shL λz hz=>?_⟩
 have:=good.to r (List.mem_of_getElem? er) z (w3.mem_iff.mp hz)
 obtain⟨r2,hr2,rfl⟩:=List.mem_map.mp this
 exact good.nm r2 hr2
theorem Uq {K:PySem.W.Frag} {H:Hp} {D E:Addr} {zs:List Str} {f g:Str->Str} (nd:zs.Nodup) (nm:∀z∈zs,jc (f z)=true) (e:∀z∈zs,f z=g z) (h:Rd H D (.dK (zs.map λz=>((Sum.inr z:qA),V.str (f z))))) (k:Rd H E (.dK (zs.map λz=>((Sum.inr z:qA),V.str (g z))))) {Q:VK} (q:Q (.bl false) H):kY K (.ref D) (.ref E) H Q:=by
 refine⟨D,E,_,_,rfl,rfl,h,k,by rw[List.length_map,List.length_map],λp hp=>?_,q⟩
 obtain⟨z,hz,rfl⟩:=List.mem_map.mp hp
 obtain⟨i,ei⟩:=List.getElem?_of_mem hz
 refine⟨.str (g z),.str (f z),zi (i:=i) ?_ ?_,.str _,by rw[e z hz];exact .str _,Kl (nm z hz)⟩
 . rw[List.map_map]
   exact jN nd λa _ b _ e=>Sum.inr.inj e
 . rw[List.getElem?_map,ei]
   rfl
theorem U2 {rs:jk} (g:qt rs) {i:Nat} {u r:Str×List Str} (eu:(Js rs)[i]?=some u) (er:rs[i]?=some r):u.2.Perm r.2:=by
 unfold Js at eu
 rw[List.getElem?_map,er]at eu
 obtain rfl:=(Option.some.inj eu).symm
 have hr:=List.mem_of_getElem? er
 exact(List.perm_ext_iff_of_nodup (by unfold j6;exact g.nd.sublist List.filter_sublist) (g.rd r hr)).mpr λy=>z6 g hr
section
variable {P:Program} {w:World} {K:PySem.W.Frag} {mg:Str->Option Value} {base:Heap}
abbrev NS:List Str:=["_law_script","_law_k","_law_source_here","_law_rows_here","_law_ground","_law_leads_here","_law_places","_law_lap","_law_found","_law_told","_law_again"]
theorem Jk:qu NS ["_law_script"] (qm YE):=⟨rfl,rfl,rfl,by decide+kernel,rfl,by decide+kernel,by decide+kernel⟩
structure Na (K:PySem.W.Frag) (mg:Str->Option Value):Prop where
 cell:∃f fd,jG K mg "_law_cell_at" Uk ["_law_script","_law_k"] f fd
 source:∃f fd,jG K mg "_law_source" zq ["_law_cell"] f fd
 take:∃f fd,jG K mg "_law_take" zM ["_law_source_here","_law_many"] f fd
 names:∃f fd,jG K mg "_law_names" zO ["_law_source_here","_law_many"] f fd
 leads:∃f fd,jG K mg "_law_leads" zR z9 f fd
 rows:∃f fd,jG K mg "_law_rows" Ug ["_law_source_here","_law_most"] f fd
 gets:∃f fd,jG K mg "_law_gets" zS Rv f fd
 worths:∃f fd,jG K mg "_law_worths" Zo ["_law_rows_here"] f fd
 least:∃f fd,jG K mg "_law_least" we wv f fd
 lof:∃f fd,jG K mg "_law_leads_of" wb ["_law_ground"] f fd
theorem KC {f CG fRw:Addr} {fd fdRw:FuncData} (F:j7 K "law" "law" YE f fd) (h:WF K mg) (B:Jr mg) (Zk:Wk K mg) (G:QK mg) (T:Jh K mg) (N:xw K mg) (M:GM K mg CG) (Y:xx K mg) (O:uE K mg) (Z:Na K mg) (hRw:kc K CG "rows" "Ground.rows" ZL ["self"] fRw fdRw)
   (zd:mg "dict"=none) (kdd:PySem.W.kitOne K (.type "dict") (.type "dict")=some true):qv P w K mg base qV 11 f fd ["_law_script"] (V8 K):=by
 obtain⟨fO,fdO,hO⟩:=Z.cell
 obtain⟨fL,fdL,hL⟩:=Z.source
 obtain⟨fT,fdT,hT⟩:=Z.take
 obtain⟨fN,fdN,hN⟩:=Z.names
 obtain⟨fD,fdD,hD⟩:=Z.leads
 obtain⟨fR,fdR,hR⟩:=Z.rows
 obtain⟨fW,fdW,hW⟩:=O.need
 obtain⟨a1,b1,hGe⟩:=Z.gets
 obtain⟨a2,b2,hWo⟩:=Z.worths
 obtain⟨a3,b3,hLe⟩:=Z.least
 obtain⟨a4,b4,hLo⟩:=Z.lof
 obtain⟨a5,b5,hLg⟩:=O.lg
 obtain⟨fI,fdI,C⟩:=M.cls
 obtain⟨fM,fdM,hM⟩:=M.nm
 have GO:qv P w K mg base qV 1 fO fdO ["_law_script","_law_k"] (kF K):=wI hO.fn B
 have GL:qv P w K mg base qV 1 fL fdL ["_law_cell"] Wp:=vm hL.fn B
 have GT:qv P w K mg base qV 1 fT fdT ["_law_source_here","_law_many"] zI:=zt hT.fn
 have GR:qv P w K mg base qV 3 fR fdR ["_law_source_here","_law_most"] kA:=wA hR.fn B G hT hN hD
 have GI:qv P w K mg base qV 6 fI fdI ["self","rows"] (zo CG):=WC C B G T N hW
 have GN:qv P w K mg base qV 1 fM fdM ["self"] (Ju CG):=JQ hM.fn C G
 have GRw:qv P w K mg base qV 1 fRw fdRw ["self"] (Xu CG):=WB hRw.fn C G
 have GWo:qv P w K mg base qV 2 a2 b2 ["_law_rows_here"] uR:=Vm hWo.fn B T zd hGe
 have GLe:qv P w K mg base qV 1 a3 b3 wv uT:=KA hLe.fn B G zd
 have GLo:qv P w K mg base qV 2 a4 b4 ["_law_ground"] (uS CG):=Kz hLo.fn G M hRw
 have GLg:qv P w K mg base qV 10 a5 b5 ["ground"] (Rc CG):=KB hLg.fn h B Zk G T N M Y O
 refine F.okJ Jk (λvs H Q E z=>?_) (λcdv A outer s H vs Q E hr z=>?_)
 . obtain⟨a,ns,rfl,_⟩:=z
   rfl
 . obtain⟨a,ns,rfl,hq,hlen,k⟩:=z
   have hu:=jJ hr
   have hu7:(A.deeper (envOfC (Str.ofString "law") (qm YE) s.heap.objs.size f cdv)).units+70 < cLine:=by have:=hr.un;omega
   have r1:jg 1 _:=hr.mono (by decide)
   have r2:jg 2 _:=hr.mono (by decide)
   have r3:jg 3 _:=hr.mono (by decide)
   have r7:jg 7 _:=hr.mono (by decide)
   refine⟨_,qe (qW PassesOwn.never rfl (ja (by rfl) B.rng (qb (qC (Xb rfl) (by rfl) B.max boot_max (qb qj (qb (qC (vX rfl) (by rfl) B.min boot_min (qb qj (qb (qC jf (by rfl) B.len boot_len (qb (jv 0) qf)) qf))) qf))) qf))
       (ql (i:=1) Jk.nd rfl (Or.inl rfl))
       (qe (qx (i:=2) Jk.nd rfl (Or.inl rfl) (qY hL GL r1 (by rfl) (qb (qY hO GO r1 (by rfl) (qb (jv 0) (qb (jv 1) qf))) qf)))
       (qe (qx (i:=3) Jk.nd rfl (Or.inl rfl) (qY hR GR r3 (by rfl) (qb (jv 2) (qb (jA Zw (QS (qb qj (qb qj (qb qj (qb qj qf))))) (qY hT GT r1 (by rfl) (qb (jv 2) (qb qj qf))) (λ_ _=>rfl)) qf))))
       (qe (qx (i:=4) Jk.nd rfl (Or.inl rfl) (zy C.mkr GI r7 (by rfl) C.ns C.bi .nil Zs (qb (ji Jd (by rfl) G.lst boot_list (qb (jv 3) qf)) qf)))
       (qe (Vv (qY hLe GLe r1 (by rfl) (qb (jv 3) (qb (qY hWo GWo r2 (by rfl) (qb (jv 3) qf)) qf))) (QJ rfl (qN (ql (i:=5) Jk.nd rfl (Or.inl rfl)) (qN (ql (i:=6) Jk.nd rfl (Or.inl rfl)) j2))))
       (qe (wZ (qW PassesOwn.never rfl (ja (by rfl) B.rng (qb qj qf)) (ql (i:=7) Jk.nd rfl (Or.inl rfl))
         (qe (Vv (qY hLg GLg hr (by rfl) (qb (jv 4) qf)) (QJ rfl (qN (ql (i:=8) Jk.nd rfl (Or.inl rfl)) (qN (ql (i:=9) Jk.nd rfl (Or.inl rfl)) j2))))
         (qe (q5 (JW.pt (Jm (qr (yd hr.units) (Yk hM C.cl GN r1 (jv 8)) (ji (VL rfl) (by rfl) G.lst boot_list (qb (jv 5) qf)) (qz _)) (Qu (qr (XI hu7) (qY hLo GLo r2 (by rfl) (qb (jv 8) qf)) (jv 5) (qz _))))) (qh (qB j3)) qE)
         (qe (q5 (JW.pt (Jm (JD (Qb (qC jK (by rfl) T.isi boot_isinstance (qb (jv 9) (qb (Q8 (v:=.ty "dict") (by rfl) zd boot_dict rfl) qf))))) (Qu (qr (XI hu7) (jv 9) (jv 6) (qz _))))) (qh (qB j3)) qE)
         (qh (jT (Vw PySem.F.plainAttrs_dict PySem.F.slot_dict_clear PySem.F.type_dict_clear vw (jv 9)))))))))
       (qe (Vv (qY hLg GLg hr (by rfl) (qb (jv 8) qf)) (QJ rfl (qN (ql (i:=10) Jk.nd rfl (Or.inl rfl)) (qN (ql (i:=9) Jk.nd rfl (Or.inl rfl)) j2))))
       (qh (q5 (JW.pt (Jm (qr (yd hr.units) (Yk hRw C.cl GRw r1 (jv 10)) (Yk hRw C.cl GRw r1 (jv 8)) (qz _)) (Qu (qr (XI hu7) (jv 9) (ji (Zb rfl) (by rfl) zd boot_dict (qb (jP (N':=["_law_name"]) (ix:=[none]) (te:=Xp (jr (qJ 0) (jr (qJ 0) QX))) rfl ⟨rfl,rfl,rfl,rfl,rfl⟩ (XR (jv 5)) (λC s2 H2 fp pins=>
           ⟨ql (i:=0) (show (["_law_name"]:List Str).Nodup by decide+kernel) rfl (Or.inl rfl),js,jl (qb (jv 0) (qb (jv 0) qf))⟩)) qf)) (qz _))))) (qh (qB j3)) qE)))))))))
     (qh (qB j3)),?_⟩
   refine⟨_,rfl,a,_,rfl,.inl hq,_,_,rfl,_,_,rfl,?_⟩
   generalize hj:(if (if ((ns.map V.int).length:Int) < (8:Int) then ((ns.map V.int).length:Int) else (8:Int)) > 1 then (if ((ns.map V.int).length:Int) < (8:Int) then ((ns.map V.int).length:Int) else (8:Int)) else 1)=jj
   have jb:=RO (by omega) hj
   refine⟨jj,rfl,jb.1,jb.2,?_⟩
   refine QE (λi σ H'=>∃v1 v2 v3 v4 v5 v6 v7 v8 v9 v10,σ=[some (.ref a),v1,v2,v3,v4,v5,v6,v7,v8,v9,v10]/\SqL K H' a (ns.map V.int)) ⟨_,_,_,_,_,_,_,_,_,_,rfl,hq⟩ ?_ ?_
   . rintro i σ H' hi ⟨v1,v2,v3,v4,v5,v6,v7,v8,v9,v10,rfl,hq2⟩
     refine⟨_,rfl,_,rfl,a,ns,_,rfl,hq2,by omega,λc=>⟨c,rfl,λd n sd hd=>?_⟩⟩
     have hq3:=hq2.mono (qg (o:=.dK (src n sd 0)) hd)
     have hd3:upd H' d (.dK (src n sd 0)) d=some (.dK (src n sd 0)):=qd
     generalize upd H' d (.dK (src n sd 0))=H3 at hq3 hd3
     refine⟨_,rfl,by show 4<=sizeLine;decide,λlp hlp=>?_⟩
     have ndp:lp≠d:=λe=>by rw[e,hd3]at hlp;cases hlp
     have hq4:=hq3.mono (qg (o:=.lst [.int 5,.int 7,.int 9,.int 14]) hlp)
     have hd4:=qp (o':=HO.lst [.int 5,.int 7,.int 9,.int 14]) hd3 hlp
     refine⟨_,rfl,d,4,n,sd,0,rfl,hd4,by decide,by decide,λr' n3 t3 r0' r1'=>?_⟩
     obtain⟨mo,em,m0,m14⟩:=RI r0' r1'
     have hq5:SqL K (upd (upd H3 lp (.lst [.int 5,.int 7,.int 9,.int 14])) d (.dK (src n3 sd t3))) a (ns.map V.int):=xv hq4 hd4 (λb o hb nb=>by rw[qi nb];exact hb)
     refine⟨lp,_,r',_,rfl,rfl,.of (by rw[qi ndp];exact qd),em,d,mo,n3,sd,t3,rfl,qd,m0,m14,λl ps rs n' t' H7 hl hl7 rat good pos le hd7 fr7=>?_⟩
     have hq7:=xv hq5 qd fr7
     have le14:=Nat.le_trans le m14
     refine⟨_,rfl,l,_,rfl,.inl (.of hl7),λl2 hl2 x dx hx hdx ndx=>?_⟩
     have s1:qo H7 (upd H7 l2 (.lst (ps.map V.ref))):=qg hl2
     refine Yd (X:=upd H7 l2 (.lst (ps.map V.ref))) qd (rat.mono s1) good pos le14 hx hdx ndx λH8 s8 gr=>?_
     have s78:=s1.trans s8
     obtain⟨R,all⟩:=All.ex (G:=QW rs) (N:=rs.map (·.1)) _ 0 [] (Nat.le_refl _)
     have ga8:Qe H8 l ps rs:=⟨s78 _ _ hl7,rat.mono s78,good,pos,le14⟩
     refine⟨_,rfl,_,rfl,l,ps,rs,rfl,ga8,λH9 Wd F s9 nW wt hF ok=>?_⟩
     have wt':=wt.congr λz hz=>hF R all z hz
     have ga9:Qe H9 l ps rs:=⟨s9 _ _ ga8.at_,ga8.rows.mono s9,good,pos,le14⟩
     have wc:=uH good all
     refine⟨l,Wd,ps,rs,wT rs R,rfl,ga9,wt',wc,λH10 r Ld Pd0 s10 nL nP nLP hr' ldL hP0=>?_⟩
     refine⟨r,_,rfl,.of hr',rfl,_,_,rfl,_,_,rfl,rfl,?_⟩
     have fsh:=WS (wT rs R) (rs.map (·.1))
     have goodl:=Yn fsh wc (Y8 good all fsh)
     have flen:=fsh.len
     rw[List.length_map]at flen
     have fpos:0 < (jQ (wT rs R) (rs.map (·.1))).length:=by
       cases rs with
       | nil=>cases pos
       | cons r0 rs0=>
         obtain⟨p,hp,_⟩:=List.mem_map.mp (fsh.all r0.1 List.mem_cons_self)
         exact List.length_pos_of_mem hp
     generalize hfs:jQ (wT rs R) (rs.map (·.1))=fs at*
     have posl:0 < (jU fs).length:=by rw[QL];exact fpos
     have lel:(jU fs).length<=14:=by rw[QL];omega
     have nmL:∀z∈(jU fs).map (·.1),jc z=true:=λz hz=>by
       obtain⟨r2,hr2,rfl⟩:=List.mem_map.mp hz
       exact goodl.nm r2 hr2
     obtain⟨kvL,aL,bL,cL⟩:=ldL.at_
     refine⟨Ld,kvL,aL,λo=>?_⟩
     have s11:qo H9 (upd H10 Ld (.frz o (.dK kvL))):=qo.upd s10 nL
     have ld11:Gq (upd H10 Ld (.frz o (.dK kvL))) Ld kvL (jU fs):=⟨.inr ⟨o,qd⟩,bL,λr hr=>let ⟨t,ys,u,v,w⟩:=cL r hr;⟨t,ys,u,by rw[qi (λe=>by rw[e,aL]at v;cases v)];exact v,w⟩⟩
     have hL11:upd H10 Ld (.frz o (.dK kvL)) Ld=some (.frz o (.dK kvL)):=qd
     have hP11:upd H10 Ld (.frz o (.dK kvL)) Pd0=some (.dK (jn fs (wT rs R) (rs.map (·.1)))):=by rw[qi (Ne.symm nLP)];exact hP0
     generalize upd H10 Ld (.frz o (.dK kvL))=H11 at s11 ld11 hL11 hP11
     have s8b:=s9.trans s11
     have gr11:=gr.mono s8b
     have hq11:=(hq7.mono s78).mono s8b
     have nmP:∀z∈rs.map (·.1),jc (look fs (wT rs R z))=true:=λz hz=>by
       have:=(fsh.look (fsh.all z hz)).2.1
       exact wc.nm _ this
     refine⟨2,rfl,by decide,by decide,?_⟩
     refine QE (λj σ X=>∃v7 v8 v9:Option V,σ=[some (.ref a),some (.int (0+(i:Int))),some (.ref d),some (.ref l),some (.ref x),some (.ref Ld),some (.ref Pd0),v7,v8,v9,v10]/\qo H11 X/\(0 < j->∃y,v8=some (.ref y)/\Qq CG X y (jU fs))) ⟨_,_,_,rfl,λ_ _ z=>z,λz=>absurd z (by decide)⟩ ?_ ?_
     . rintro j σ X hj ⟨v7,v8,v9,rfl,sX,_⟩
       refine⟨_,rfl,x,rs,rfl,gr11.mono sX,good,pos,le14,λX1 r1 y Pd R1 sx1 nPd hr1 gr1 gr1c hPd all1=>?_⟩
       have eR:R1=R:=all1.uniq good.nd all
       subst eR
       rw[hfs]at gr1 gr1c hPd
       refine⟨r1,_,rfl,.of hr1,rfl,_,_,rfl,_,_,rfl,rfl,?_⟩
       obtain⟨dxy,fsy,hgy,l1y,l2y⟩:=gr1.ins
       refine⟨_,rfl,y,dxy,fsy,rfl,hgy,l1y,y,jU fs,rfl,gr1,λln hln=>?_⟩
       have s2:qo X1 (upd X1 ln (.lst (((jU fs).map (·.1)).map V.str))):=qg hln
       have hl2:upd X1 ln (.lst (((jU fs).map (·.1)).map V.str)) ln=some (.lst (((jU fs).map (·.1)).map V.str)):=qd
       generalize upd X1 ln (.lst (((jU fs).map (·.1)).map V.str))=X2 at s2 hl2
       have sA:=(sX.trans sx1).trans s2
       refine⟨_,rfl,Ld,kvL,_,rfl,(ld11.fr sA).1,bL,λl3 hl3=>?_⟩
       have s3:=qg (o:=HO.lst (((jU fs).map (·.1)).map V.str)) hl3
       refine⟨dL ((jU fs).map (·.1)),uF (s3 _ _ hl2),uF qd,shL nmL,_,rfl,jx ?_⟩
       generalize upd X2 l3 (.lst (((jU fs).map (·.1)).map V.str))=X3 at s3
       have s13:=s2.trans s3
       refine⟨_,rfl,y,jU fs,rfl,gr1.mono s13,goodl,lel,λX4 E s4 nE ldE=>⟨_,rfl,?_⟩⟩
       have s14:=s13.trans s4
       have sB:=(sX.trans sx1).trans s14
       obtain⟨kvE,ldE⟩:=ldE.r
       refine wU goodl ldE (ld11.fr sB) (QG _) (λi u r eu er=>U2 goodl eu er) ⟨_,rfl,jx ?_⟩
       have hPd4:=s14 _ _ hPd
       refine⟨_,rfl,_,_,_,_,rfl,rfl,.dK hPd4,kdd,_,rfl,jx ?_⟩
       refine⟨_,rfl,_,rfl,?_⟩
       refine Uq good.nd nmP (λ_ _=>rfl) (.of hPd4) (.of (sB _ _ hP11)) ⟨_,rfl,jx ?_⟩
       refine⟨_,rfl,.inr (.inr (.inl ⟨rfl,.inl ⟨_,hPd4⟩⟩)),Pd,_,rfl,rfl,hPd4,?_⟩
       exact⟨_,_,_,rfl,qo.upd sB (jt sX nPd),λ_=>⟨y,rfl,gr1c.mono (U9 s14)⟩⟩
     . rintro σ X ⟨v7,v8,v9,rfl,sX,hy⟩
       obtain⟨y,rfl,gry⟩:=hy (by decide)
       refine⟨_,rfl,y,jU fs,rfl,gry,goodl,posl,lel,λX1 r1 y2 Pd R1 sx1 nPd hr1 gr1 _ hPd all1=>?_⟩
       have eF:∀p∈fs,wT (jU fs) R1 p.2=p.1:=λp hp=>kl fsh wc goodl all1 hp
       have e1:jQ (wT (jU fs) R1) ((jU fs).map (·.1))=fs:=by rw[jB];exact vR fsh eF
       rw[e1]at gr1 hPd
       refine⟨r1,_,rfl,.of hr1,rfl,_,_,rfl,_,_,rfl,rfl,?_⟩
       obtain⟨dx2,lo2,rd2,kv2,hg2,_⟩:=id gr1
       refine⟨_,rfl,y2,dx2,_,rfl,hg2,KN _ _,y2,jU fs,rfl,gr1,lel,λm1 ps1 X2 s2 nm1 hm1 rat1=>?_⟩
       obtain⟨dx3,lo3,rd3,kv3,hg3,_⟩:=id (gry.mono (sx1.trans s2))
       refine⟨_,rfl,y,dx3,_,rfl,hg3,KN _ _,y,jU fs,rfl,gry.mono (sx1.trans s2),lel,λm2 ps2 X3 s3 nm2 hm2 rat2=>?_⟩
       have goodt:qt (Js (jU fs)):=by
         refine⟨λr hr=>?_,by rw[QG];exact goodl.nd,λr hr z hz=>?_,λr hr=>?_,?_⟩
         . obtain⟨r0,h0,rfl⟩:=List.mem_map.mp hr
           exact goodl.nm r0 h0
         . obtain⟨r0,h0,rfl⟩:=List.mem_map.mp hr
           rw[QG]
           exact(List.mem_filter.mp hz).1
         . obtain⟨r0,h0,rfl⟩:=List.mem_map.mp hr
           exact goodl.nd.sublist List.filter_sublist
         . have e:(Js (jU fs)).map (λr=>r.2.length)=(jU fs).map λr=>r.2.length:=by
             unfold Js
             rw[List.map_map]
             refine List.map_congr_left λr hr=>?_
             exact((List.perm_ext_iff_of_nodup (goodl.nd.sublist List.filter_sublist) (goodl.rd r hr)).mpr λy=>z6 goodl hr).length_eq
           rw[e]
           exact goodl.few
       refine⟨.list ((Js (jU fs)).map vV),.lst (.of (s3 _ _ hm1)) (Yz (rat1.mono s3)),.lst (.of hm2) (Yz rat2),xR goodt,_,rfl,jx ?_⟩
       have sA:=(sX.trans sx1).trans (s2.trans s3)
       refine⟨_,rfl,_,rfl,Ld,o,kvL,_,rfl,sA _ _ hL11,bL,λD4 hD4=>?_⟩
       refine UQ (λi σ'' Y=>∃(v0:Option V) (qs:List Addr),σ''=[v0]/\qo X3 Y/\Y D4=some (.lst (qs.map V.ref))/\qs.length=i/\∀(j:Nat) (a:Addr) (z:Str),qs[j]?=some a->((jU fs).map (·.1))[j]?=some z->Y a=some (.tup [.str z,.str z])) ⟨none,[],rfl,qg hD4,qd,rfl,λj a z e=>by simp at e⟩ (λi σ'' Y _ ⟨_,_,_,sx,_⟩=>sx _ _ (sA _ _ hL11)) ?_ ?_
       . rintro i z σ'' Y ez ⟨v0,qs,rfl,sx,hY,lq,al⟩
         have hi:=(List.getElem?_eq_some_iff.mp ez).1
         rw[List.length_map]at hi
         refine⟨_,rfl,_,rfl,by show 2<=sizeLine;decide,λq hq'=>?_⟩
         have sq:=qg (o:=HO.tup [V.str z,.str z]) hq'
         refine⟨_,sq _ _ hY,?_,_,qs++[q],rfl,qo.upd (sx.trans sq) hD4,by rw[qd,List.map_append];rfl,by rw[List.length_append,lq];rfl,λj a' z' e1 e2=>?_⟩
         . rw[List.length_map,lq]
           exact qk (by omega)
         . have nD:∀{c:Addr} {xs:List V},(upd Y q (.tup [V.str z,.str z])) c=some (.tup xs)->c≠D4:=λe z=>by rw[z,sq _ _ hY]at e;cases e
           by_cases hj:j < qs.length
           . rw[List.getElem?_append_left hj]at e1
             have:=sq _ _ (al j a' z' e1 e2)
             rw[qi (nD this)]
             exact this
           . have hj':j=qs.length:=by
               have:=(List.getElem?_eq_some_iff.mp e1).1
               rw[List.length_append,List.length_singleton]at this
               omega
             subst hj'
             rw[List.getElem?_append_right (Nat.le_refl _),Nat.sub_self]at e1
             obtain rfl:=(Option.some.inj e1).symm
             rw[lq,ez]at e2
             obtain rfl:=(Option.some.inj e2).symm
             rw[qi (nD qd)]
             exact qd
       . rintro σ'' Y ⟨v0,qs,rfl,sx,hY,lq,al⟩
         have lm:(((jU fs).map (·.1)).map λz=>((Sum.inr z:qA),V.str z)).length=((jU fs).map (·.1)).length:=List.length_map ..
         refine⟨D4,qs,((jU fs).map (·.1)).map λz=>((Sum.inr z:qA),V.str z),rfl,.of hY,by rw[lq,lm],λi a kv e1 e2=>?_,by rw[lm,List.length_map];omega,λE hE=>?_⟩
         . rw[List.getElem?_map]at e2
           cases ez:((jU fs).map (·.1))[i]? with
           | none=>rw[ez]at e2;cases e2
           | some z=>
             rw[ez]at e2
             obtain rfl:=(Option.some.inj e2).symm
             exact .of (al i a z e1 ez)
         . have nk:((((jU fs).map (·.1)).map λz=>((Sum.inr z:qA),V.str z)).map (·.1)).Nodup:=by
             rw[List.map_map]
             exact jN goodl.nd λa _ b _ e=>Sum.inr.inj e
           rw[JU nk (λk _ m=>by simp at m),List.nil_append]
           have sE:=qg (o:=HO.dK (((jU fs).map (·.1)).map λz=>((Sum.inr z:qA),V.str z))) hE
           have sZ:=((s2.trans s3).trans sx).trans sE
           have eL:∀z∈(jU fs).map (·.1),look fs (wT (jU fs) R1 z)=z:=λz hz=>by
             rw[jB]at hz
             obtain⟨p,hp,rfl⟩:=List.mem_map.mp hz
             rw[eF p hp]
             exact zu fsh.nd hp
           refine Uq goodl.nd (λz hz=>by rw[eL z hz];exact nmL z hz) eL (.of (sZ _ _ hPd)) (.of qd) ⟨_,rfl,jx ?_⟩
           exact⟨_,_,_,_,_,_,_,_,_,_,rfl,hq11.mono ((sX.trans sx1).trans sZ)⟩
   . rintro σ H' ⟨v1,v2,v3,v4,v5,v6,v7,v8,v9,v10,rfl,hq2⟩
     exact k _
end
end Rh
set_option Elab.async false
set_option linter.all false
set_option maxRecDepth 100000
set_option maxHeartbeats 4000000
namespace Rh
open PySem L2 PyProof.Rows MLab
theorem kss {K:PySem.W.Frag}:PySem.W.kitOne K (.type "str") (.type "str")=some true:=by kernel_rfl
theorem ktt {K:PySem.W.Frag}:PySem.W.kitOne K (.type "tuple") (.type "tuple")=some true:=by kernel_rfl
theorem kll {K:PySem.W.Frag}:PySem.W.kitOne K (.type "list") (.type "list")=some true:=by kernel_rfl
theorem kii {K:PySem.W.Frag}:PySem.W.kitOne K (.type "int") (.type "int")=some true:=by kernel_rfl
theorem kib {K:PySem.W.Frag}:PySem.W.kitOne K (.type "int") (.type "bool")=some false:=by kernel_rfl
theorem kdd {K:PySem.W.Frag}:PySem.W.kitOne K (.type "dict") (.type "dict")=some true:=by kernel_rfl
section
variable {K:PySem.W.Frag}
def MF (K:PySem.W.Frag) (n q:Str) (s:Stmt) (f:Addr):Prop:=∃fd,j7 K n q s f fd
theorem MF.mk' {x qual:Str} {st:Stmt} {f:Addr} {oc:Value} {od an:Option Addr} {osl:Array (Option Value)} {kV doc pm cdv ct:Value} (l:K.lookup f=some ⟨oc,od,.func (PySem.W.fnOf x qual (QN st) (Qg st) (qm st) .none kV doc pm an cdv ct),osl⟩) (c:PySem.W.codeIn K cdv qual=true) (k:PySem.W.keepIn K (.ref f)=true):MF K x qual st f:=⟨_,VA l c k⟩
def HF (K:PySem.W.Frag) (n:Str) (s:Stmt) (f:Addr):Prop:=PySem.W.nsIn K mainGlobals n=some (some (.ref f))/\MF K n n s f
theorem HF.mk' {x:Str} {st:Stmt} {f:Addr} {oc:Value} {od an:Option Addr} {osl:Array (Option Value)} {kV doc pm cdv ct:Value} (a:PySem.W.nsIn K mainGlobals x=some (some (.ref f))) (l:K.lookup f=some ⟨oc,od,.func (PySem.W.fnOf x x (QN st) (Qg st) (qm st) .none kV doc pm an cdv ct),osl⟩) (c:PySem.W.codeIn K cdv x=true) (k:PySem.W.keepIn K (.ref f)=true):HF K x st f:=⟨a,_,VA l c k⟩
theorem HF.has {h:Heap} {mg:Str->Option Value} {n:Str} {s:Stmt} {f:Addr} {ps:List Str} (l:HF K n s f) (X:K.In h) (G:h.Ns mainGlobals mg) (b:∀{fd},j7 K n n s f fd->j8 K fd ps []):∃fd,jG K mg n s ps f fd:=let ⟨a,fd,F⟩:=l;⟨fd,F,PySem.W.mg_of X G a,b F⟩
end
theorem all_mk {l:PySem.W.OpenLaw} {w:World} {K:PySem.W.Frag} {h:Heap} {mg:Str->Option Value} {fa:Addr} (X:K.In h) (G:h.Ns mainGlobals mg) (hfa:mg "law"=some (.ref fa))
   {fO fL fT fN fD fR fA1 fA2 fA3 fA4 fA5 fA6 fA7 fA8 fB1 fB2 fB3 fB4 fB5 fB6 fB7 fB8 fW1 fW2 fW3 fW5 fP1 fP2 fP3 fP4 fP5 fC2 fC3 fC4 fC5 fCGi fCGM fCGF fCGR fCNi fCNT fCEi fCET:Addr}
   {fLAW:Addr} {odLAW anLAW:Option Addr} {slLAW:Array (Option Value)} {ocLAW kVLAW dcLAW pmLAW cdLAW ctLAW:Value}
   {CG:Addr}
   {CN:Addr}
   {CE:Addr}
   {tm1:Tok}
   {tm2:Tok}
   {tm3:Tok}
   {tm4:Tok}
   {tm5:Tok}
   {tm6:Tok}
   (lO:HF K "_law_cell_at" Uk fO)
   (lL:HF K "_law_source" zq fL)
   (lT:HF K "_law_take" zM fT)
   (lN:HF K "_law_names" zO fN)
   (lD:HF K "_law_leads" zR fD)
   (lR:HF K "_law_rows" Ug fR)
   (lA1:HF K "is_name" Zn fA1)
   (lA2:HF K "is_tuple_of_names" YT fA2)
   (lA3:HF K "is_row" zU fA3)
   (lA4:HF K "need_form" Ui fA4)
   (lA5:HF K "need_own_names" x9 fA5)
   (lA6:HF K "need_ends" Uj fA6)
   (lA7:HF K "need_few_roads" wg fA7)
   (lA8:HF K "need_rows" Wu fA8)
   (lB1:HF K "lacking" Ql fB1)
   (lB2:HF K "set_of" XA fB2)
   (lB3:HF K "numbers_behind" uV fB3)
   (lB4:HF K "gets_number" zV fB4)
   (lB5:HF K "round_of" ZK fB5)
   (lB6:HF K "give_number" Wv fB6)
   (lB7:HF K "give_numbers" XB fB7)
   (lB8:HF K "labels_of" zr fB8)
   (lW1:HF K "is_whole" Jw fW1)
   (lW2:HF K "is_number" Zm fW2)
   (lW3:HF K "is_set" zT fW3)
   (lW5:HF K "numbers_in" zN fW5)
   (lP1:HF K "worths_told" Xz fP1)
   (lP2:HF K "first_places" Ni fP2)
   (lP3:HF K "label_worth" Ng fP3)
   (lP4:HF K "least_row" Uh fP4)
   (lP5:HF K "least_ground" Nh fP5)
   (lC2:HF K "_law_gets" zS fC2)
   (lC3:HF K "_law_worths" Zo fC3)
   (lC4:HF K "_law_least" we fC4)
   (lC5:HF K "_law_leads_of" wb fC5)
   (aLAW:PySem.W.nsIn K mainGlobals "law"=some (some (.ref fLAW)))
   (lLAW:K.lookup fLAW=some ⟨ocLAW,odLAW,.func (PySem.W.fnOf "law" "law" (QN YE) (Qg YE) (qm YE) .none kVLAW dcLAW pmLAW anLAW cdLAW ctLAW),slLAW⟩)
   (cLAW:PySem.W.codeIn K cdLAW "law"=true)
   (kLAW:PySem.W.keepIn K (.ref fLAW)=true)
   (nCG:PySem.W.nsIn K mainGlobals "Ground"=some (some (.ref CG)))
   (pgCG:PySem.W.plainGet K CG Str.empty=true)
   (hdCG:PySem.W.hasDictIn K CG=true)
   (poCG:PySem.W.plainOver K CG=true)
   (saCG:PySem.W.findIn K (.ref CG) "__setattr__"=some (some (.builtin "object.__setattr__")))
   (mkCG:PySem.W.makesIn K CG=true)
   (inCG:PySem.W.findIn K (.ref CG) "__init__"=some (some (.ref fCGi)))
   (fiCG:PySem.W.isFn K (.ref fCGi)=true)
   (kcCG:PySem.W.keepIn K (.ref CG)=true)
   (noCG:PySem.W.findIn K (.ref CG) "order"=some none)
   (nrCG:PySem.W.findIn K (.ref CG) "roads"=some none)
   (lCGi:MF K "__init__" "Ground.__init__" Vk fCGi)
   (atCGM:PySem.W.findIn K (.ref CG) "names"=some (some (.ref fCGM)))
   (fnCGM:PySem.W.isFn K (.ref fCGM)=true)
   (lCGM:MF K "names" "Ground.names" Zp fCGM)
   (atCGF:PySem.W.findIn K (.ref CG) "roads_from"=some (some (.ref fCGF)))
   (fnCGF:PySem.W.isFn K (.ref fCGF)=true)
   (lCGF:MF K "roads_from" "Ground.roads_from" zW fCGF)
   (atCGR:PySem.W.findIn K (.ref CG) "rows"=some (some (.ref fCGR)))
   (fnCGR:PySem.W.isFn K (.ref fCGR)=true)
   (lCGR:MF K "rows" "Ground.rows" ZL fCGR)
   (nCN:PySem.W.nsIn K mainGlobals "Numbered"=some (some (.ref CN)))
   (pgCN:PySem.W.plainGet K CN Str.empty=true)
   (hdCN:PySem.W.hasDictIn K CN=true)
   (poCN:PySem.W.plainOver K CN=true)
   (saCN:PySem.W.findIn K (.ref CN) "__setattr__"=some (some (.builtin "object.__setattr__")))
   (mkCN:PySem.W.makesIn K CN=true)
   (inCN:PySem.W.findIn K (.ref CN) "__init__"=some (some (.ref fCNi)))
   (fiCN:PySem.W.isFn K (.ref fCNi)=true)
   (kcCN:PySem.W.keepIn K (.ref CN)=true)
   (naCN:PySem.W.findIn K (.ref CN) "number"=some none)
   (lCNi:MF K "__init__" "Numbered.__init__" zQ fCNi)
   (caCN:PySem.W.findIn K (.ref CN) "__class__"=some (some (.builtin "object.__class__")))
   (obCN:PySem.W.mroIn K CN (.type "object")=some true)
   (atCNT:PySem.W.findIn K (.ref CN) "told"=some (some (.ref fCNT)))
   (fnCNT:PySem.W.isFn K (.ref fCNT)=true)
   (lCNT:MF K "told" "Numbered.told" zP fCNT)
   (nCE:PySem.W.nsIn K mainGlobals "Endless"=some (some (.ref CE)))
   (pgCE:PySem.W.plainGet K CE Str.empty=true)
   (hdCE:PySem.W.hasDictIn K CE=true)
   (poCE:PySem.W.plainOver K CE=true)
   (saCE:PySem.W.findIn K (.ref CE) "__setattr__"=some (some (.builtin "object.__setattr__")))
   (mkCE:PySem.W.makesIn K CE=true)
   (inCE:PySem.W.findIn K (.ref CE) "__init__"=some (some (.ref fCEi)))
   (fiCE:PySem.W.isFn K (.ref fCEi)=true)
   (kcCE:PySem.W.keepIn K (.ref CE)=true)
   (naCE:PySem.W.findIn K (.ref CE) "bits"=some none)
   (lCEi:MF K "__init__" "Endless.__init__" zY fCEi)
   (caCE:PySem.W.findIn K (.ref CE) "__class__"=some (some (.builtin "object.__class__")))
   (obCE:PySem.W.mroIn K CE (.type "object")=some true)
   (atCET:PySem.W.findIn K (.ref CE) "told"=some (some (.ref fCET)))
   (fnCET:PySem.W.isFn K (.ref fCET)=true)
   (lCET:MF K "told" "Endless.told" zX fCET)
   (zlen:PySem.W.nsIn K mainGlobals "len"=some none)
   (zmax:PySem.W.nsIn K mainGlobals "max"=some none)
   (zmin:PySem.W.nsIn K mainGlobals "min"=some none)
   (zint:PySem.W.nsIn K mainGlobals "int"=some none)
   (zrange:PySem.W.nsIn K mainGlobals "range"=some none)
   (zisinstance:PySem.W.nsIn K mainGlobals "isinstance"=some none)
   (zstr:PySem.W.nsIn K mainGlobals "str"=some none)
   (zall:PySem.W.nsIn K mainGlobals "all"=some none)
   (zenumerate:PySem.W.nsIn K mainGlobals "enumerate"=some none)
   (zsum:PySem.W.nsIn K mainGlobals "sum"=some none)
   (zsorted:PySem.W.nsIn K mainGlobals "sorted"=some none)
   (zlist:PySem.W.nsIn K mainGlobals "list"=some none)
   (zreversed:PySem.W.nsIn K mainGlobals "reversed"=some none)
   (zset:PySem.W.nsIn K mainGlobals "set"=some none)
   (ztuple:PySem.W.nsIn K mainGlobals "tuple"=some none)
   (zdict:PySem.W.nsIn K mainGlobals "dict"=some none)
   (zbool:PySem.W.nsIn K mainGlobals "bool"=some none)
   (m1:PySem.W.nsIn K mainGlobals "LETTERS"=some (some (.str "abcdefghijklmnopqrstuvwxyz" tm1)))
   (m2:PySem.W.nsIn K mainGlobals "LONGEST_NAME"=some (some (.int 8 tm2)))
   (m3:PySem.W.nsIn K mainGlobals "MOST_PLACES"=some (some (.int 14 tm3)))
   (m4:PySem.W.nsIn K mainGlobals "MOST_ROADS"=some (some (.int 40 tm4)))
   (m5:PySem.W.nsIn K mainGlobals "MOST_NUMBER"=some (some (.int 15 tm5)))
   (m6:PySem.W.nsIn K mainGlobals "MOST_BITS"=some (some (.int 65535 tm6)))
   (ne:CN≠CE)
   :
   ∃fd:FuncData,(∀(s:Shared) (v:Value),BindsTo s fd ⟨[v],[]⟩ [("_law_script",v)])/\∀base:Heap,K.In base->base.Ns mainGlobals mg->qv l.prog w K mg base qV 11 fa fd ["_law_script"] (V8 K):=by
 have e:=hfa.symm.trans (PySem.W.mg_of X G aLAW)
 cases e
 obtain⟨_,hO⟩:=lO.has (ps:=["_law_script","_law_k"]) X G λF=>F.binds λ_ _ _ _ _ _ us hl=>by obtain⟨_,_,rfl⟩:=ZN hl;rfl
 obtain⟨_,hL⟩:=lL.has (ps:=["_law_cell"]) X G λF=>F.binds λ_ _ _ _ _ _ us hl=>by obtain⟨_,rfl⟩:=Qn hl;rfl
 obtain⟨_,hT⟩:=lT.has (ps:=["_law_source_here","_law_many"]) X G λF=>F.binds λ_ _ _ _ _ _ us hl=>by obtain⟨_,_,rfl⟩:=ZN hl;rfl
 obtain⟨_,hN⟩:=lN.has (ps:=["_law_source_here","_law_many"]) X G λF=>F.binds λ_ _ _ _ _ _ us hl=>by obtain⟨_,_,rfl⟩:=ZN hl;rfl
 obtain⟨_,hD⟩:=lD.has (ps:=["_law_source_here","_law_many","_law_shape","_law_low"]) X G λF=>F.binds λ_ _ _ _ _ _ us hl=>by obtain⟨_,_,_,_,rfl⟩:=KO hl;rfl
 obtain⟨_,hR⟩:=lR.has (ps:=["_law_source_here","_law_most"]) X G λF=>F.binds λ_ _ _ _ _ _ us hl=>by obtain⟨_,_,rfl⟩:=ZN hl;rfl
 obtain⟨_,hA1⟩:=lA1.has (ps:=["thing"]) X G λF=>F.binds λ_ _ _ _ _ _ us hl=>by obtain⟨_,rfl⟩:=Qn hl;rfl
 obtain⟨_,hA2⟩:=lA2.has (ps:=["thing"]) X G λF=>F.binds λ_ _ _ _ _ _ us hl=>by obtain⟨_,rfl⟩:=Qn hl;rfl
 obtain⟨_,hA3⟩:=lA3.has (ps:=["thing"]) X G λF=>F.binds λ_ _ _ _ _ _ us hl=>by obtain⟨_,rfl⟩:=Qn hl;rfl
 obtain⟨_,hA4⟩:=lA4.has (ps:=["rows"]) X G λF=>F.binds λ_ _ _ _ _ _ us hl=>by obtain⟨_,rfl⟩:=Qn hl;rfl
 obtain⟨_,hA5⟩:=lA5.has (ps:=["order"]) X G λF=>F.binds λ_ _ _ _ _ _ us hl=>by obtain⟨_,rfl⟩:=Qn hl;rfl
 obtain⟨_,hA6⟩:=lA6.has (ps:=["ends","order"]) X G λF=>F.binds λ_ _ _ _ _ _ us hl=>by obtain⟨_,_,rfl⟩:=ZN hl;rfl
 obtain⟨_,hA7⟩:=lA7.has (ps:=["rows"]) X G λF=>F.binds λ_ _ _ _ _ _ us hl=>by obtain⟨_,rfl⟩:=Qn hl;rfl
 obtain⟨_,hA8⟩:=lA8.has (ps:=["rows"]) X G λF=>F.binds λ_ _ _ _ _ _ us hl=>by obtain⟨_,rfl⟩:=Qn hl;rfl
 obtain⟨_,hB1⟩:=lB1.has (ps:=["numbers"]) X G λF=>F.binds λ_ _ _ _ _ _ us hl=>by obtain⟨_,rfl⟩:=Qn hl;rfl
 obtain⟨_,hB2⟩:=lB2.has (ps:=["numbers"]) X G λF=>F.binds λ_ _ _ _ _ _ us hl=>by obtain⟨_,rfl⟩:=Qn hl;rfl
 obtain⟨_,hB3⟩:=lB3.has (ps:=["ground","numbered","name"]) X G λF=>F.binds λ_ _ _ _ _ _ us hl=>by obtain⟨_,_,_,rfl⟩:=wS hl;rfl
 obtain⟨_,hB4⟩:=lB4.has (ps:=["ground","numbered","name","number"]) X G λF=>F.binds λ_ _ _ _ _ _ us hl=>by obtain⟨_,_,_,_,rfl⟩:=KO hl;rfl
 obtain⟨_,hB5⟩:=lB5.has (ps:=["ground","numbered","number"]) X G λF=>F.binds λ_ _ _ _ _ _ us hl=>by obtain⟨_,_,_,rfl⟩:=wS hl;rfl
 obtain⟨_,hB6⟩:=lB6.has (ps:=["ground","numbered","number"]) X G λF=>F.binds λ_ _ _ _ _ _ us hl=>by obtain⟨_,_,_,rfl⟩:=wS hl;rfl
 obtain⟨_,hB7⟩:=lB7.has (ps:=["ground","numbered"]) X G λF=>F.binds λ_ _ _ _ _ _ us hl=>by obtain⟨_,_,rfl⟩:=ZN hl;rfl
 obtain⟨_,hB8⟩:=lB8.has (ps:=["ground"]) X G λF=>F.binds λ_ _ _ _ _ _ us hl=>by obtain⟨_,rfl⟩:=Qn hl;rfl
 obtain⟨_,hW1⟩:=lW1.has (ps:=["thing"]) X G λF=>F.binds λ_ _ _ _ _ _ us hl=>by obtain⟨_,rfl⟩:=Qn hl;rfl
 obtain⟨_,hW2⟩:=lW2.has (ps:=["thing"]) X G λF=>F.binds λ_ _ _ _ _ _ us hl=>by obtain⟨_,rfl⟩:=Qn hl;rfl
 obtain⟨_,hW3⟩:=lW3.has (ps:=["thing"]) X G λF=>F.binds λ_ _ _ _ _ _ us hl=>by obtain⟨_,rfl⟩:=Qn hl;rfl
 obtain⟨_,hW5⟩:=lW5.has (ps:=["bits"]) X G λF=>F.binds λ_ _ _ _ _ _ us hl=>by obtain⟨_,rfl⟩:=Qn hl;rfl
 obtain⟨_,hP1⟩:=lP1.has (ps:=["ground"]) X G λF=>F.binds λ_ _ _ _ _ _ us hl=>by obtain⟨_,rfl⟩:=Qn hl;rfl
 obtain⟨_,hP2⟩:=lP2.has (ps:=["told"]) X G λF=>F.binds λ_ _ _ _ _ _ us hl=>by obtain⟨_,rfl⟩:=Qn hl;rfl
 obtain⟨_,hP3⟩:=lP3.has (ps:=["label"]) X G λF=>F.binds λ_ _ _ _ _ _ us hl=>by obtain⟨_,rfl⟩:=Qn hl;rfl
 obtain⟨_,hP4⟩:=lP4.has (ps:=["firsts","worth"]) X G λF=>F.binds λ_ _ _ _ _ _ us hl=>by obtain⟨_,_,rfl⟩:=ZN hl;rfl
 obtain⟨_,hP5⟩:=lP5.has (ps:=["ground"]) X G λF=>F.binds λ_ _ _ _ _ _ us hl=>by obtain⟨_,rfl⟩:=Qn hl;rfl
 obtain⟨_,hC2⟩:=lC2.has (ps:=["_law_leads_here","_law_numbers","_law_name","_law_number"]) X G λF=>F.binds λ_ _ _ _ _ _ us hl=>by obtain⟨_,_,_,_,rfl⟩:=KO hl;rfl
 obtain⟨_,hC3⟩:=lC3.has (ps:=["_law_rows_here"]) X G λF=>F.binds λ_ _ _ _ _ _ us hl=>by obtain⟨_,rfl⟩:=Qn hl;rfl
 obtain⟨_,hC4⟩:=lC4.has (ps:=["_law_rows_here","_law_worths_here"]) X G λF=>F.binds λ_ _ _ _ _ _ us hl=>by obtain⟨_,_,rfl⟩:=ZN hl;rfl
 obtain⟨_,hC5⟩:=lC5.has (ps:=["_law_ground"]) X G λF=>F.binds λ_ _ _ _ _ _ us hl=>by obtain⟨_,rfl⟩:=Qn hl;rfl
 have FLAW:=VA (st:=YE) lLAW cLAW kLAW
 obtain⟨_,FiCG⟩:=lCGi
 have clCG:GD K mg CG fCGi _:=⟨⟨pgCG,hdCG,poCG,saCG⟩,⟨mkCG,inCG,fiCG,kcCG⟩,PySem.W.mg_of X G nCG,noCG,nrCG,FiCG,FiCG.binds (ps:=["self","rows"]) λ_ _ _ _ _ _ us hl=>by obtain⟨_,_,rfl⟩:=ZN hl;rfl⟩
 obtain⟨_,FCGM⟩:=lCGM
 have mCGM:kc K CG "names" "Ground.names" Zp ["self"] fCGM _:=⟨FCGM,⟨atCGM,fnCGM,FCGM.kp⟩,FCGM.binds (ps:=["self"]) λ_ _ _ _ _ _ us hl=>by obtain⟨_,rfl⟩:=Qn hl;rfl⟩
 obtain⟨_,FCGF⟩:=lCGF
 have mCGF:kc K CG "roads_from" "Ground.roads_from" zW ["self","name"] fCGF _:=⟨FCGF,⟨atCGF,fnCGF,FCGF.kp⟩,FCGF.binds (ps:=["self","name"]) λ_ _ _ _ _ _ us hl=>by obtain⟨_,_,rfl⟩:=ZN hl;rfl⟩
 obtain⟨_,FCGR⟩:=lCGR
 have mCGR:kc K CG "rows" "Ground.rows" ZL ["self"] fCGR _:=⟨FCGR,⟨atCGR,fnCGR,FCGR.kp⟩,FCGR.binds (ps:=["self"]) λ_ _ _ _ _ _ us hl=>by obtain⟨_,rfl⟩:=Qn hl;rfl⟩
 obtain⟨_,FiCN⟩:=lCNi
 have clCN:Cl K mg "Numbered" "Numbered.__init__" "number" zQ CN fCNi _:=⟨⟨pgCN,hdCN,poCN,saCN⟩,⟨mkCN,inCN,fiCN,kcCN⟩,PySem.W.mg_of X G nCN,naCN,FiCN,FiCN.binds (ps:=["self","number"]) λ_ _ _ _ _ _ us hl=>by obtain⟨_,_,rfl⟩:=ZN hl;rfl,caCN,obCN⟩
 obtain⟨_,FCNT⟩:=lCNT
 have mCNT:kc K CN "told" "Numbered.told" zP ["self"] fCNT _:=⟨FCNT,⟨atCNT,fnCNT,FCNT.kp⟩,FCNT.binds (ps:=["self"]) λ_ _ _ _ _ _ us hl=>by obtain⟨_,rfl⟩:=Qn hl;rfl⟩
 obtain⟨_,FiCE⟩:=lCEi
 have clCE:Cl K mg "Endless" "Endless.__init__" "bits" zY CE fCEi _:=⟨⟨pgCE,hdCE,poCE,saCE⟩,⟨mkCE,inCE,fiCE,kcCE⟩,PySem.W.mg_of X G nCE,naCE,FiCE,FiCE.binds (ps:=["self","bits"]) λ_ _ _ _ _ _ us hl=>by obtain⟨_,_,rfl⟩:=ZN hl;rfl,caCE,obCE⟩
 obtain⟨_,FCET⟩:=lCET
 have mCET:kc K CE "told" "Endless.told" zX ["self"] fCET _:=⟨FCET,⟨atCET,fnCET,FCET.kp⟩,FCET.binds (ps:=["self"]) λ_ _ _ _ _ _ us hl=>by obtain⟨_,rfl⟩:=Qn hl;rfl⟩
 have B:Jr mg:=⟨PySem.W.mg_none_of X G zlen,PySem.W.mg_none_of X G zmax,PySem.W.mg_none_of X G zmin,PySem.W.mg_none_of X G zint,PySem.W.mg_none_of X G zrange⟩
 have Gk:QK mg:=⟨PySem.W.mg_none_of X G zsorted,PySem.W.mg_none_of X G zlist,PySem.W.mg_none_of X G zreversed,PySem.W.mg_none_of X G zset,PySem.W.mg_none_of X G ztuple⟩
 have T:Jh K mg:=⟨PySem.W.mg_none_of X G zisinstance,PySem.W.mg_none_of X G zstr,PySem.W.mg_none_of X G zall,PySem.W.mg_none_of X G zenumerate,PySem.W.mg_none_of X G zsum,⟨_,PySem.W.mg_of X G m1⟩,⟨_,PySem.W.mg_of X G m2⟩,⟨_,PySem.W.mg_of X G m3⟩,⟨_,PySem.W.mg_of X G m4⟩,kss,ktt,kll⟩
 have Nn:xw K mg:=⟨⟨_,_,hA1⟩,⟨_,_,hA2⟩,⟨_,_,hA3⟩,⟨_,_,hA4⟩,⟨_,_,hA5⟩,⟨_,_,hA6⟩,⟨_,_,hA7⟩⟩
 have M:GM K mg CG:=⟨⟨_,_,clCG⟩,⟨_,_,mCGM⟩,⟨_,_,mCGF⟩,⟨_,_,hA1⟩⟩
 have Y:xx K mg:=⟨⟨_,_,hB1⟩,⟨_,_,hB2⟩,⟨_,_,hB3⟩,⟨_,_,hB4⟩,⟨_,_,hB5⟩,⟨_,_,hB6⟩,⟨_,_,hB7⟩,⟨_,_,hB8⟩⟩
 have Wq:Wk K mg:=⟨PySem.W.mg_none_of X G zisinstance,PySem.W.mg_none_of X G zbool,kii,kib,⟨_,PySem.W.mg_of X G m5⟩,⟨_,PySem.W.mg_of X G m6⟩⟩
 let wf:WF K mg:=⟨CN,CE,fCNi,fCEi,fCNT,fCET,fW1,fW2,fW3,_,_,_,_,_,_,_,ne,clCN,clCE,mCNT,mCET,hW1,hW2,hW3⟩
 have O:uE K mg:=⟨⟨_,_,hP3⟩,⟨_,_,hW5⟩,⟨_,_,hP1⟩,⟨_,_,hP2⟩,⟨_,_,hP4⟩,⟨_,_,hP5⟩,⟨_,_,hA8⟩⟩
 have Z:Na K mg:=⟨⟨_,_,hO⟩,⟨_,_,hL⟩,⟨_,_,hT⟩,⟨_,_,hN⟩,⟨_,_,hD⟩,⟨_,_,hR⟩,⟨_,_,hC2⟩,⟨_,_,hC3⟩,⟨_,_,hC4⟩,⟨_,_,hC5⟩⟩
 exact⟨PySem.W.fnOf "law" "law" (QN YE) (Qg YE) (qm YE) .none kVLAW dcLAW pmLAW anLAW cdLAW ctLAW,λs v=>.of_eq rfl,λbase _ _=>KC FLAW wf B Wq Gk T Nn M Y O Z mCGR (PySem.W.mg_none_of X G zdict) kdd⟩
theorem walk {l:PySem.W.OpenLaw} {q:Program} {loose:List Str} {XP:(Str->Option Value)->Heap->Prop} {YP:World->Heap->Prop} {d:DefRec} {K:Params->PySem.W.Frag} (hn:l.most=some 63) (hdf:d.params.defaults=[])
   (hY:∀(w:World) (h:Heap),YP w h->(K w.params).In h)
   (F:∀(w:World) (mg:Str->Option Value) (fa:Addr) (h:Heap),(K w.params).In h->h.Ns mainGlobals mg->mg d.name=some (.ref fa)->
     ∃fd:FuncData,(∀(s:Shared) (u:Value),BindsTo s fd ⟨[u],[]⟩ [("_law_script",u)])/\∀base:Heap,(K w.params).In base->base.Ns mainGlobals mg->qv l.prog w (K w.params) mg base qV 11 fa fd ["_law_script"] (V8 (K w.params))):
   PySem.W.WalkO q loose XP YP l.row.toRowW d [] (λf vs=>PySem.call f vs):=
 L2.walk_of (n:=63) (k:=11) (x:="_law_script") (CX:=λ_=>qV) (sp:=λw=>V8 (K w.params)) hn (by decide) hdf ⟨rfl,by decide,by decide,rfl⟩ hY F (λ_ _ a ns hl _ hS=>⟨a,ns,rfl,hS,hl,λ_=>rfl⟩) λ_ _ _ _ _ z=>z
end Rh
open PySem PySem.W PyProof.Rows
def PySem.W.Fast.tw5687560648516745503 : Unit := ()
def PySem.W.Fast.tw861502493610598483 : Unit := ()
def PySem.W.Fast.tw16061995869074892340 : Unit := ()
def PySem.W.Fast.tw6964298268145473253 : Unit := ()
def PySem.W.Fast.tw9052937418870083693 : Unit := ()
def PySem.W.Fast.tw7774113678449685934 : Unit := ()
def PySem.W.Fast.tw457389641662401290 : Unit := ()
def PySem.W.Fast.tw4994507876928874405 : Unit := ()
def PySem.W.Fast.tw6008232320854092231 : Unit := ()
def PySem.W.Fast.tw18017129668781235815 : Unit := ()
def PySem.W.Fast.tw4976532014690838185 : Unit := ()
def PySem.W.Fast.tw14136365326194722155 : Unit := ()
def PySem.W.Fast.tw12902166330736054541 : Unit := ()
def PySem.W.Fast.tw17451581249640050385 : Unit := ()
def PySem.W.Fast.tw11346864328391097527 : Unit := ()
def PySem.W.Fast.tw9586009075069172419 : Unit := ()
def PySem.W.Fast.tw6607644564249050058 : Unit := ()
def PySem.W.Fast.tw4903002758410956813 : Unit := ()
def PySem.W.Fast.tw7485256538410118956 : Unit := ()
def PySem.W.Fast.tw14019768675606591570 : Unit := ()
def PySem.W.Fast.tw3992765435912101610 : Unit := ()
def PySem.W.Fast.tw4625118829043911747 : Unit := ()
def PySem.W.Fast.tw1599053048872161195 : Unit := ()
def PySem.W.Fast.tw8092328550381762920 : Unit := ()
def PySem.W.Fast.tw16202735626409321261 : Unit := ()
def PySem.W.Fast.tw5289818103960998278 : Unit := ()
def PySem.W.Fast.tw8422229294311615681 : Unit := ()
def PySem.W.Fast.tw16493865465440409018 : Unit := ()
def PySem.W.Fast.tw11373181179767321252 : Unit := ()
def PySem.W.Fast.tw14387916025512776202 : Unit := ()
def PySem.W.Fast.tw6690350156832105676 : Unit := ()
def PySem.W.Fast.tw6060609690816243450 : Unit := ()
def PySem.W.Fast.tw6408400580700104982 : Unit := ()
def PySem.W.Fast.tw16120054744476736488 : Unit := ()
def PySem.W.Fast.tw14560624547652848805 : Unit := ()
def PySem.W.Fast.tw12747814925858328940 : Unit := ()
def PySem.W.Fast.tw12301033059052437259 : Unit := ()
def PySem.W.Fast.tw17260811203177919210 : Unit := ()
def PySem.W.Fast.tw7921390202802761869 : Unit := ()
def PySem.W.Fast.tw13294680673763070992 : Unit := ()
def PySem.W.Fast.tw11153475782318119604 : Unit := ()
def PySem.W.Fast.tw12772213712371865176 : Unit := ()
def PySem.W.Fast.tw5285915839522022235 : Unit := ()
def PySem.W.Fast.tw1342123614928995077 : Unit := ()
def PySem.W.Fast.tw8042474839023259521 : Unit := ()
def PySem.W.Fast.tw5725222548895626118 : Unit := ()
def PySem.W.Fast.tw9197174079833555027 : Unit := ()
def PySem.W.Fast.tw1607123104830579860 : Unit := ()
def PySem.W.Fast.tw14261769069557060686 : Unit := ()
def PySem.W.Fast.tw561727478393794602 : Unit := ()
def PySem.W.Fast.tw8997383693586321770 : Unit := ()
def PySem.W.Fast.tw15831126876759372255 : Unit := ()
def PySem.W.Fast.tw16864618592142003386 : Unit := ()
def PySem.W.Fast.tw2107523057676978006 : Unit := ()
def PySem.W.Fast.tw6542358382571353910 : Unit := ()
def PySem.W.Fast.tw1000662321505670351 : Unit := ()
def PySem.W.Fast.tw12411574311111392344 : Unit := ()
def PySem.W.Fast.tw5467331546851215429 : Unit := ()
def PySem.W.Fast.tw15173544498738437827 : Unit := ()
def PySem.W.Fast.tw15541240446876304647 : Unit := ()
def PySem.W.Fast.tw6469784823511061222 : Unit := ()
def PySem.W.Fast.tw15554417296805563061 : Unit := ()
def PySem.W.Fast.tw1972164579936704799 : Unit := ()
def PySem.W.Fast.tw10988312798546598065 : Unit := ()
def PySem.W.Fast.tw16217903435359918192 : Unit := ()
def PySem.W.Fast.tw3300257896294614128 : Unit := ()
def PySem.W.Fast.tw13034982811429478159 : Unit := ()
def PySem.W.Fast.tw9977182230042388008 : Unit := ()
def PySem.W.Fast.tw1956260828630720203 : Unit := ()
def PySem.W.Fast.tw8157277791214410489 : Unit := ()
def PySem.W.Fast.tw5537553045615171315 : Unit := ()
def PySem.W.Fast.tw4734895289157585001 : Unit := ()
def PySem.W.Fast.tw2789304352393801511 : Unit := ()
def PySem.W.Fast.tw11408881796089955267 : Unit := ()
def PySem.W.Fast.tw4906484309439969231 : Unit := ()
def PySem.W.Fast.tw1835071406663858368 : Unit := ()
def PySem.W.Fast.tw10295913840692754127 : Unit := ()
def PySem.W.Fast.tw7943549864190904611 : Unit := ()
def PySem.W.Fast.tw15685335758407661847 : Unit := ()
def PySem.W.Fast.tw12297992134047619483 : Unit := ()
def PySem.W.Fast.tw11384182702204212275 : Unit := ()
def PySem.W.Fast.tw10698057553749749337 : Unit := ()
def PySem.W.Fast.tw3520257249291928256 : Unit := ()
def PySem.W.Fast.tw11481637867367846703 : Unit := ()
def PySem.W.Fast.tw11066385474520676512 : Unit := ()
def PySem.W.Fast.tw16298917771340976007 : Unit := ()
def PySem.W.Fast.tw9630203353718772412 : Unit := ()
def PySem.W.Fast.tw13160504802963445071 : Unit := ()
def PySem.W.Fast.tw17435391645217708394 : Unit := ()
def PySem.W.Fast.tw4480162626587320490 : Unit := ()
def PySem.W.Fast.tw8171798328758944481 : Unit := ()
def PySem.W.Fast.tw2080317491765294665 : Unit := ()
def PySem.W.Fast.tw9784134513789038367 : Unit := ()
def PySem.W.Fast.tw6148498323302512570 : Unit := ()
def PySem.W.Fast.tw855453113358079251 : Unit := ()
def PySem.W.Fast.tw4607425872040536859 : Unit := ()
def PySem.W.Fast.tw13913613514976480042 : Unit := ()
def PySem.W.Fast.tw1158361714356455011 : Unit := ()
def PySem.W.Fast.tw7480016910919988345 : Unit := ()
def PySem.W.Fast.tw7212858340449540239 : Unit := ()
def PySem.W.Fast.tw12887044766017154078 : Unit := ()
def PySem.W.Fast.tw4561898282857576226 : Unit := ()
def PySem.W.Fast.tw6549852094080907030 : Unit := ()
def PySem.W.Fast.tw4483904966330829159 : Unit := ()
def PySem.W.Fast.tw10879749546641988924 : Unit := ()
def PySem.W.Fast.tw15235614512728720 : Unit := ()
def PySem.W.Fast.tw12147665669636231765 : Unit := ()
def PySem.W.Fast.tw13385558918117058561 : Unit := ()
def PySem.W.Fast.tw4171853373547519906 : Unit := ()
def PySem.W.Fast.tw6278996535519779258 : Unit := ()
def PySem.W.Fast.tw17334828202450815106 : Unit := ()
def PySem.W.Fast.tw9402243437249704421 : Unit := ()
def PySem.W.Fast.tw15401437161963490237 : Unit := ()
def PySem.W.Fast.tw5217270863462422736 : Unit := ()
def PySem.W.Fast.tw8431482922422412695 : Unit := ()
def PySem.W.Fast.tw14727194681476072466 : Unit := ()
def PySem.W.Fast.tw5344687154915797982 : Unit := ()
def PySem.W.Fast.tw3238445694619138142 : Unit := ()
def PySem.W.Fast.tw4323258101793500111 : Unit := ()
def PySem.W.Fast.tw10888863842102328177 : Unit := ()
def PySem.W.Fast.tw2570914705882880060 : Unit := ()
def PySem.W.Fast.tw10792498714594961201 : Unit := ()
def PySem.W.Fast.tw15166322114958858414 : Unit := ()
def PySem.W.Fast.tw8565224436197482051 : Unit := ()
def PySem.W.Fast.tw6522051377940421278 : Unit := ()
def PySem.W.Fast.tw6968137755033780318 : Unit := ()
def PySem.W.Fast.tw5323657890516693427 : Unit := ()
def PySem.W.Fast.tw12459912946257978736 : Unit := ()
def PySem.W.Fast.tw4884199854448574 : Unit := ()
def PySem.W.Fast.tw10159399881129095643 : Unit := ()
def PySem.W.Fast.tw15214748959534726111 : Unit := ()
def PySem.W.Fast.tw16615150188913437886 : Unit := ()
def PySem.W.Fast.tw14963028359598502718 : Unit := ()
set_option maxRecDepth 100000
set_option maxHeartbeats 0
open_top hd for PySem.Challenge.rw_ringheaps_k82_least_grounds
set_option maxRecDepth 100000 in
set_option maxHeartbeats 0 in
theorem PySem.Challenge.cw_ringheaps_k82_least_grounds_holds : PySem.Challenge.rw_ringheaps_k82_least_grounds.Holds := by
 refine hd ?_
 k_fill
 refine Rh.walk (l:=PySem.Challenge.rw_ringheaps_k82_least_grounds) rfl rfl (λw h Y=>PySem.W.kIn_of Y) ?F
 case F=>
   intro w mg fa h KX G hmg
   refine' Rh.all_mk KX G hmg ?_ ?_ ?_ ?_ ?_ ?_ ?_ ?_ ?_ ?_ ?_ ?_ ?_ ?_ ?_ ?_ ?_ ?_ ?_ ?_ ?_ ?_ ?_ ?_ ?_ ?_ ?_ ?_ ?_ ?_ ?_ ?_ ?_ ?_ ?_ ?_ ?_ ?_ ?_ ?_ ?_ ?_ ?_ ?_ ?_ ?_ ?_ ?_ ?_ ?_ ?_ ?_ ?_ ?_ ?_ ?_ ?_ ?_ ?_ ?_ ?_ ?_ ?_ ?_ ?_ ?_ ?_ ?_ ?_ ?_ ?_ ?_ ?_ ?_ ?_ ?_ ?_ ?_ ?_ ?_ ?_ ?_ ?_ ?_ ?_ ?_ ?_ ?_ ?_ ?_ ?_ ?_ ?_ ?_ ?_ ?_ ?_ ?_ ?_ ?_ ?_ ?_ ?_ ?_ ?_ ?_ ?_ ?_ ?_ ?_ ?_ ?_ ?_ ?_ ?_ ?_
   any_goals first | (apply Rh.HF.mk'<;>k_is) | (apply Rh.MF.mk'<;>k_is) | k_is | kernel_rfl | rfl | decide
