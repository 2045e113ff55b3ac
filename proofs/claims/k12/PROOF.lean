import PyProof.Rows.All
import Wide.All
import OpenK.AllK
import Wide.FinOn
import Lean
import PyProof.EqAt
import PyProof.EqKinds
import PyProof.TupleCall
import PySem.Challenge.RW_ringheaps_k12_tables_looked_through
set_option Elab.async false
set_option linter.all false
set_option maxRecDepth 100000
namespace L2
open PySem PySem.Spec PyProof.Rows
abbrev qw:=Sum Int Str
def Za:qw->Value->Bool
 | .inl k,v=>Value.isInt k v
 | .inr x,v=>Value.isStrOf x v
def RK (w:World):qw->Int
 | .inl k=>hashInt k
 | .inr x=>hashStr w x
theorem qV:∀{k:qw} {v:Value},Za k v=true->(∃i t,k=Sum.inl i/\v=Value.int i t)\/(∃x t,k=Sum.inr x/\v=Value.str x t)
 | .inl i,v,h=>by
   obtain⟨t,e⟩:=Value.isInt_shape (k:=i) (v:=v) h
   exact .inl ⟨i,t,rfl,e⟩
 | .inr x,v,h=>by
   obtain⟨t,e⟩:=Value.isStrOf_shape (x:=x) (v:=v) h
   exact .inr ⟨x,t,rfl,e⟩
theorem V9 (i:Int) (t:Tok):Za (.inl i) (.int i t)=true:=by simp [Za,Value.isInt]
theorem V8 (x:Str) (t:Tok):Za (.inr x) (.str x t)=true:=by simp [Za,Value.isStrOf]
theorem uH (a b:Int):decide ((Sum.inl a:qw)=Sum.inl b)=(a==b):=by
 by_cases e:a=b
 . subst e;simp
 . have h:¬(Sum.inl a:qw)=Sum.inl b:=λq=>e (Sum.inl.inj q)
   rw[decide_eq_false h]
   exact(beq_eq_false_iff_ne.mpr e).symm
theorem uE (a b:Str):decide ((Sum.inr a:qw)=Sum.inr b)=decide (a=b):=by
 by_cases e:a=b
 . subst e;simp
 . have h:¬(Sum.inr a:qw)=Sum.inr b:=λq=>e (Sum.inr.inj q)
   rw[decide_eq_false h,decide_eq_false e]
theorem uG (a:Int) (b:Str):decide ((Sum.inl a:qw)=Sum.inr b)=false:=decide_eq_false (λq=>nomatch q)
theorem uF (a:Str) (b:Int):decide ((Sum.inr a:qw)=Sum.inl b)=false:=decide_eq_false (λq=>nomatch q)
def qF (prog:Program) (w:World):PySem.KeyKind prog w qw where
 is:=Za
 hash:=RK w
 inj:=λv a b ha hb=>by
   rcases qV ha with ⟨i,t,rfl,rfl⟩ | ⟨x,t,rfl,rfl⟩
   . rcases qV hb with ⟨j,u,rfl,e⟩ | ⟨y,u,rfl,e⟩
     . injection e with e1 _;rw[e1]
     . exact nomatch e
   . rcases qV hb with ⟨j,u,rfl,e⟩ | ⟨y,u,rfl,e⟩
     . exact nomatch e
     . injection e with e1 _;rw[e1]
 byValue:=λk v h=>by
   rcases qV h with ⟨i,t,rfl,rfl⟩ | ⟨x,t,rfl,rfl⟩<;>rfl
 pyHash:=λhv h=>by
   rcases qV hv with ⟨i,t,rfl,rfl⟩ | ⟨x,t,rfl,rfl⟩
   . exact wpAny_pyHash_int h
   . exact wpAny_pyHash_str h
 eqBool:=λhu hv h=>by
   rcases qV hu with ⟨i,t,rfl,rfl⟩ | ⟨x,t,rfl,rfl⟩
   . rcases qV hv with ⟨j,u,rfl,rfl⟩ | ⟨y,u,rfl,rfl⟩
     . rw[uH]at h;exact wpAny_eqBool_int h
     . rw[uG]at h;exact SeqAt.EqAt.int_str i t y u _ _ _ _ h
   . rcases qV hv with ⟨j,u,rfl,rfl⟩ | ⟨y,u,rfl,rfl⟩
     . rw[uF]at h;exact SeqAt.EqAt.str_int x t j u _ _ _ _ h
     . rw[uE]at h;exact wpAny_eqBool_str h
 «strs»:=λk x t v h=>by
   rcases qV h with ⟨i,u,rfl,e⟩ | ⟨y,u,rfl,e⟩
   . exact nomatch e
   . injection e with e1 _
     subst e1
     cases v<;>rfl
theorem XF (prog:Program) (w:World) (i:Int) (t:Tok):(qF prog w).is (.inl i) (.int i t)=true:=V9 i t
theorem Qy (prog:Program) (w:World) (x:Str) (t:Tok):(qF prog w).is (.inr x) (.str x t)=true:=V8 x t
end L2
namespace L2
open PySem PySem.Spec PyProof.Rows
inductive V where
 | non | bl (b:Bool) | int (i:Int) | str (x:Str) | byt (b:Array UInt8) | flt (b:UInt64) | ref (a:Addr) | ty (n:String)
 deriving DecidableEq
def qN:V->Value->Prop
 | .non,u=>u=Value.none
 | .bl b,u=>u=Value.bool b
 | .int i,u=>∃t,u=Value.int i t
 | .str x,u=>∃t,u=Value.str x t
 | .byt b,u=>∃t,u=Value.bytes b t
 | .flt b,u=>∃t,u=Value.float b t
 | .ref a,u=>u=Value.ref a
 | .ty n,u=>u=Value.type n
abbrev qL:List V->List Value->Prop:=Paired qN
theorem qL.length {xs:List V} {us:List Value} (r:qL xs us):xs.length=us.length:=Paired.length r
theorem qL.get:∀{xs:List V} {us:List Value} {i:Nat} {x:V},qL xs us->xs[i]?=some x->∃u,us[i]?=some u/\qN x u
 | _,_,_,_,.nil,e=>by simp at e
 | _,_,0,_,.cons r _,e=>by simp at e;subst e;exact⟨_,rfl,r⟩
 | _,_,i+1,x,.cons _ t,e=>by
   obtain⟨u,h1,h2⟩:=qL.get (i:=i) (x:=x) t (by simpa using e)
   exact⟨u,by simpa using h1,h2⟩
theorem qL.append:∀{xs ys:List V} {us ws:List Value},qL xs us->qL ys ws->qL (xs++ys) (us++ws)
 | _,_,_,_,.nil,s=>s
 | _,_,_,_,.cons r t,s=>.cons r (qL.append t s)
theorem qL.take:∀{xs:List V} {us:List Value} (n:Nat),qL xs us->qL (xs.take n) (us.take n)
 | _,_,0,_=>.nil
 | _,_,_+1,.nil=>.nil
 | _,_,n+1,.cons r t=>.cons r (qL.take n t)
theorem qL.drop:∀{xs:List V} {us:List Value} (n:Nat),qL xs us->qL (xs.drop n) (us.drop n)
 | _,_,0,r=>r
 | _,_,_+1,.nil=>.nil
 | _,_,n+1,.cons _ t=>qL.drop n t
theorem qL.none_of:∀{xs:List V} {us:List Value} {i:Nat},qL xs us->xs[i]?=none->us[i]?=none:=λ{xs us i} r e=>by
 have h1:=r.length
 have h2:xs.length<=i:=List.getElem?_eq_none_iff.mp e
 exact List.getElem?_eq_none_iff.mpr (by omega)
def Q0:Option V->Option Value->Prop
 | some v,some u=>qN v u
 | none,none=>True
 | _,_=>False
def KV {κ:Type}:List (κ×V)->List (κ×Value)->Prop:=Paired λ(p:κ×V) (q:κ×Value)=>p.1=q.1/\qN p.2 q.2
def kV:qw->V
 | .inl i=>.int i
 | .inr x=>.str x
inductive HO where
 | lst (xs:List V)
 | tup (xs:List V)
 | dK (kvs:List (qw×V)) | dT (kvs:List (List qw×V))
 | set (S:Int->Bool) (n:Nat)
 | ins (C dx:Addr) (fs:List (Str×V))
 | own (x:Addr)
 | xd (fs:List (Str×V))
 | met (f x:Addr)
 | rng (lo hi:Int)
 | frz (o:Obj) (u:HO)
 | tbl (ps:Array Value)
 | ext (φ:Heap->Prop)
abbrev Hp:=Addr->Option HO
def upd (H:Hp) (a:Addr) (o:HO):Hp:=λb=>if b=a then some o else H b
theorem qd {H:Hp} {a:Addr} {o:HO}:upd H a o a=some o:=by unfold upd;rw[if_pos rfl]
theorem qk {H:Hp} {a b:Addr} {o:HO} (h:b≠a):upd H a o b=H b:=by unfold upd;rw[if_neg h]
theorem jP {H:Hp} {a:Addr} {o u:HO}:upd (upd H a o) a u=upd H a u:=by
 funext b;unfold upd;split<;>rfl
theorem Qx {H:Hp} {a b:Addr} {o u:HO} (h:H a=some o) (h':H b=some u) (d:o≠u):a≠b:=by
 intro e;subst e;rw[h]at h';exact d (Option.some.inj h')
theorem qE {H:Hp} {a b:Addr} {o:HO} (h:H a=some o) (h':H b=none):a≠b:=by
 intro e;subst e;rw[h]at h';cases h'
def R3 (ps:Array Value) (oc:Obj):Prop:=∃(q:Str) (t:Tok) (vs:Array Value) (t':Tok),ps[0]?=some (.str q t)/\oc.data=.fields vs/\vs[1]?=some (.str q t')
section
variable (P:Program) (w:World)
def qU (H:Hp) (h:Heap) (a:Addr):HO->Prop
 | .lst xs=>xs.length<=sizeLine/\∃(its:List Value) (n:Nat),qL xs its/\h.get? a=some {cls:=.type "list",data:=.seq its.toArray n}
 | .tup xs=>xs.length<=sizeLine/\∃its:List Value,qL xs its/\IsTup h a its.toArray
 | .dK kvs=>kvs.length<=sizeLine/\(a==sysModules)=false/\∃vs,KV kvs vs/\h.DictOf (qF P w) a vs
 | .dT kvs=>kvs.length<=sizeLine/\(a==sysModules)=false/\∃xs:List (List qw×Addr×Value),
     Paired (λ(p:List qw×V) (q:List qw×Addr×Value)=>p.1=q.1/\H q.2.1=some (.tup (p.1.map kV))/\qN p.2 q.2.2) kvs xs/\
     ∃o es ep,h.get? a=some o/\o.ExactDict/\o.data=.dict es ep/\es.toList=xs.map (entryOfKey (tupleKind (qF P w)))/\(xs.map (·.1)).Nodup
 | .set S n=>h.SetOf (intKind P w) a S n
 | .ins C dx fs=>H dx=some (.own a)/\fs.length<=1000/\dx≠a/\h.get? a=some (PySem.W.instObj C dx)/\
     ∃mA,h.Ns1 dx mA/\(∀f,Q0 (fs.lookup f) (mA f))/\PySem.Within mA (fs.map (·.1))
 | .own _=>∃o,h.get? a=some o
 | .xd fs=>∃mA,h.Ns1 a mA/\∀f,Q0 (fs.lookup f) (mA f)
 | .rng lo hi=>∃t u v,h.get? a=some {cls:=.type "range",data:=.fields #[.int lo t,.int hi u,.int 1 v]}
 | .frz o u=>h.get? a=some o/\qU H h a u
 | .tbl ps=>∃ts:Array Value,h.get? a=some {cls:=.none,data:=.fields ts}/\TriplesOk ts.toList/\∀pos cv,codeAmong pos ts.toList=some cv->∃c oc,cv=.ref c/\H c=some (.frz oc (.own a))/\R3 ps oc
 | .met f x=>h.get? a=some (PySem.W.methodObj (.ref f) (.ref x))
 | .ext φ=>φ h/\(∃o,h.get? a=some o)/\∀h1 h2:Heap,φ h1->(∀o,h1.get? a=some o->h2.get? a=some o)->φ h2
def Jx (H:Hp) (h:Heap):Prop:=∀a o,H a=some o->qU P w H h a o
end
section
variable {P:Program} {w:World} {H H':Hp} {h h':Heap} {a:Addr} {o:HO}
theorem qU.lt (x:qU P w H h a o):a < h.objs.size:=by
 cases o with
 | lst xs=>obtain⟨_,_,_,_,e⟩:=x;exact Heap.lt_size e
 | tup xs=>obtain⟨_,_,_,p⟩:=x;exact p.lt
 | dK kvs=>obtain⟨_,_,_,_,o,_,_,e,_⟩:=x;exact Heap.lt_size e
 | dT kvs=>obtain⟨_,_,_,_,o,_,_,e,_⟩:=x;exact Heap.lt_size e
 | set S n=>obtain⟨o,_,_,_,e,_⟩:=x;exact Heap.lt_size e
 | ins C dx fs=>obtain⟨_,_,_,e,_⟩:=x;exact Heap.lt_size e
 | own y=>obtain⟨_,e⟩:=x;exact Heap.lt_size e
 | xd fs=>obtain⟨_,⟨_,_,_,e,_⟩,_⟩:=x;exact Heap.lt_size e
 | rng lo hi=>obtain⟨_,_,_,e⟩:=x;exact Heap.lt_size e
 | frz ob u=>obtain⟨e,_⟩:=x;exact Heap.lt_size e
 | tbl ps=>obtain⟨_,e,_⟩:=x;exact Heap.lt_size e
 | met f y=>exact Heap.lt_size (show h.get? a=some _ from x)
 | ext φ=>obtain⟨_,⟨_,e⟩,_⟩:=x;exact Heap.lt_size e
theorem Paired.mapP {α β:Type} {F G:α->β->Prop}:∀{l₁:List α} {l₂:List β},Paired F l₁ l₂->(∀a b,F a b->G a b)->Paired G l₁ l₂
 | _,_,.nil,_=>.nil
 | _,_,.cons r t,f=>.cons (f _ _ r) (Paired.mapP t f)
theorem qU.stay (x:qU P w H h a o) (k:∀b u,(b=a\/H b=some (.own a))->h.get? b=some u->h'.get? b=some u)
   (ho:∀b,H b=some (.own a)->H' b=some (.own a)) (ht:∀b xs,H b=some (.tup xs)->H' b=some (.tup xs)) (hf:∀b o,H b=some (.frz o (.own a))->H' b=some (.frz o (.own a)):=by exact λ_ _ q=>q):qU P w H' h' a o:=by
 induction o with
 | lst xs=>obtain⟨z,its,n,r,e⟩:=x;exact⟨z,its,n,r,k _ _ (.inl rfl) e⟩
 | tup xs=>obtain⟨z,its,r,ob,e,c⟩:=x;exact⟨z,its,r,ob,k _ _ (.inl rfl) e,c⟩
 | dK kvs=>obtain⟨z,y,vs,r,ob,es,ep,e,c⟩:=x;exact⟨z,y,vs,r,ob,es,ep,k _ _ (.inl rfl) e,c⟩
 | dT kvs=>
   obtain⟨z,y,xs,r,ob,es,ep,e,c⟩:=x
   exact⟨z,y,xs,Paired.mapP r λp q z=>⟨z.1,ht _ _ z.2.1,z.2.2⟩,ob,es,ep,k _ _ (.inl rfl) e,c⟩
 | set S n=>obtain⟨ob,es,ep,t,e,c⟩:=x;exact⟨ob,es,ep,t,k _ _ (.inl rfl) e,c⟩
 | ins C dx fs=>
   obtain⟨d,z,ne,e,mA,⟨od,es,ep,e2,c⟩,r⟩:=x
   exact⟨ho _ d,z,ne,k _ _ (.inl rfl) e,mA,⟨od,es,ep,k _ _ (.inr d) e2,c⟩,r⟩
 | own y=>obtain⟨ob,e⟩:=x;exact⟨ob,k _ _ (.inl rfl) e⟩
 | xd fs=>obtain⟨mA,⟨od,es,ep,e,c⟩,r⟩:=x;exact⟨mA,⟨od,es,ep,k _ _ (.inl rfl) e,c⟩,r⟩
 | rng lo hi=>obtain⟨t,u,v,e⟩:=x;exact⟨t,u,v,k _ _ (.inl rfl) e⟩
 | frz ob u ih=>obtain⟨e,q⟩:=x;exact⟨k _ _ (.inl rfl) e,ih q⟩
 | tbl ps=>
   obtain⟨ts,e,tr,cs⟩:=x
   exact⟨ts,k a _ (.inl rfl) e,tr,λpos cv q=>let ⟨c,oc,e1,e2,e3⟩:=cs pos cv q;⟨c,oc,e1,hf c oc e2,e3⟩⟩
 | met f y=>
   have e:h.get? a=some (PySem.W.methodObj (.ref f) (.ref y)):=x
   show h'.get? a=some (PySem.W.methodObj (.ref f) (.ref y))
   exact k a _ (.inl rfl) e
 | ext φ=>obtain⟨p,⟨o,e⟩,st⟩:=x;exact⟨st _ _ p λo q=>k _ _ (.inl rfl) q,⟨o,k _ _ (.inl rfl) e⟩,st⟩
theorem Jx.lt (x:Jx P w H h) (e:H a=some o):a < h.objs.size:=(x a o e).lt
theorem Jx.fresh (x:Jx P w H h) (e:h.objs.size<=a):H a=none:=by
 cases q:H a with
 | none=>rfl
 | some u=>exact absurd (Nat.lt_of_lt_of_le (x.lt q) e) (Nat.lt_irrefl _)
theorem Jx.kept (x:Jx P w H h) (k:∀b u,h.get? b=some u->h'.get? b=some u):Jx P w H h':=λa o e=>
 (x a o e).stay (λb u _ q=>k b u q) (λ_ q=>q) λ_ _ q=>q
theorem Jx.laid (x:Jx P w H h) (k:∀b u,h.get? b=some u->h'.get? b=some u) (hp:h.objs.size<=a) (new:qU P w (upd H a o) h' a o):Jx P w (upd H a o) h':=λb u e=>by
 have hn:=x.fresh hp
 by_cases hb:b=a
 . subst hb;rw[qd]at e;cases e;exact new
 . rw[qk hb]at e
   exact(x b u e).stay (λc v _ q=>k c v q) (λc q=>by rw[qk (qE q hn)];exact q) (λc xs q=>by rw[qk (qE q hn)];exact q) (λc o q=>by rw[qk (qE q hn)];exact q)
end
def Rd (H:Hp) (a:Addr) (u:HO):Prop:=H a=some u\/∃o,H a=some (.frz o u)
theorem Rd.ok {P:Program} {w:World} {H:Hp} {h:Heap} {a:Addr} {u:HO} (r:Rd H a u) (x:Jx P w H h):qU P w H h a u:=by
 rcases r with r | ⟨o,r⟩
 . exact x a u r
 . obtain⟨_,q⟩:=x a _ r
   exact q
def Ka:Option HO->Prop
 | some (.lst _)=>True
 | some (.dK _)=>True
 | some (.dT _)=>True
 | some (.set _ _)=>True
 | some (.ins _ _ _)=>True
 | some (.ext _)=>True
 | _=>False
section
variable {P:Program} {w:World} {H:Hp} {h h':Heap} {x e:Addr} {o':HO}
theorem Jx.write (ok:Jx P w H h) (mu:Ka (H x)) (he:e=x\/H e=some (.own x)) (k:∀b u,b≠e->h.get? b=some u->h'.get? b=some u) (heo:∃u,h'.get? e=some u)
   (new:qU P w (upd H x o') h' x o'):Jx P w (upd H x o') h':=λb u q=>by
 have nown:∀c y,H c=some (.own y)->c≠x:=λc y r z=>by subst z;rw[r]at mu;exact mu
 have ntup:∀c xs,H c=some (.tup xs)->c≠x:=λc xs r z=>by subst z;rw[r]at mu;exact mu
 by_cases hb:b=x
 . subst hb;rw[qd]at q;cases q;exact new
 . rw[qk hb]at q
   by_cases hbe:b=e
   . have q':H b=some (.own x):=by
       rcases he with z | z
       . exact absurd (hbe.trans z) hb
       . rw[hbe];exact z
     rw[q]at q';cases q'
     obtain⟨v,hv⟩:=heo
     exact⟨v,by rw[hbe];exact hv⟩
   . refine(ok b u q).stay (λc v hc r=>k c v ?_ r) (λc r=>by rw[qk (nown c b r)];exact r) (λc xs r=>by rw[qk (ntup c xs r)];exact r) (λc o r=>by rw[qk (λz=>by subst z;rw[r]at mu;exact mu)];exact r)
     rcases hc with rfl | hc
     . exact hbe
     . rintro rfl
       rcases he with z | z
       . exact nown c b hc z
       . rw[hc]at z;cases z;exact hb rfl
end
structure Un (fs ex:List Addr) (H H':Hp) (h h':Heap):Prop where
 keep:∀b o,h.get? b=some o->H b=none->b∉fs->b∉ex->h'.get? b=some o
 slot:∀b o,h.get? b=some o->H b=none->b∈fs->b∉ex->∃sl,h'.get? b=some {o with slots:=sl}
 free:∀b o,h.get? b=some o->H b=none->b∉ex->H' b=none
 there:∀b o,h.get? b=some o->b∉ex->∃o',h'.get? b=some o'
 tups:∀b xs,H b=some (.tup xs)->H' b=some (.tup xs)
 frzs:∀b o u,H b=some (.frz o u)->H' b=some (.frz o u)
 tbls:∀b ps,H b=some (.tbl ps)->∃more,H' b=some (.tbl (ps++more))
section
variable {fs fs' ex ex':List Addr} {H H1 H2:Hp} {h h1 h2 h':Heap} {a x e:Addr} {o:HO}
theorem Un.any (u:Un fs ex H H1 h h1) {b:Addr} {ob:Obj} (q:h.get? b=some ob) (n:H b=none) (hx:b∉ex):∃sl,h1.get? b=some {ob with slots:=sl}:=by
 by_cases hb:b∈fs
 . exact u.slot b ob q n hb hx
 . exact⟨ob.slots,u.keep b ob q n hb hx⟩
theorem Un.kept (k:∀b u,h.get? b=some u->h'.get? b=some u):Un fs ex H H h h':=
 ⟨λb ob q _ _ _=>k b ob q,λb ob q _ _ _=>⟨ob.slots,k b ob q⟩,λ_ _ _ n _=>n,λb ob q _=>⟨ob,k b ob q⟩,λ_ _ q=>q,λ_ _ _ q=>q,λ_ ps q=>⟨#[],by rw[q];simp⟩⟩
theorem Un.refl:Un fs ex H H h h:=Un.kept λ_ _ q=>q
theorem Un.laid (k:∀b u,h.get? b=some u->h'.get? b=some u) (hp:h.objs.size<=a) (hn:H a=none):Un fs ex H (upd H a o) h h' where
 keep:=λb u q _ _ _=>k b u q
 slot:=λb u q _ _ _=>⟨u.slots,k b u q⟩
 free:=λb u q n _=>by rw[qk (Nat.ne_of_lt (Nat.lt_of_lt_of_le (Heap.lt_size q) hp))];exact n
 there:=λb u q _=>⟨u,k b u q⟩
 tups:=λb xs q=>by rw[qk (qE q hn)];exact q
 frzs:=λb u xs q=>by rw[qk (qE q hn)];exact q
 tbls:=λb ps q=>⟨#[],by rw[qk (qE q hn),q];simp⟩
theorem Un.write (mu:Ka (H x)) (he:e=x\/H e=some (.own x)) (k:∀b u,b≠e->h.get? b=some u->h'.get? b=some u) (heo:∃u,h'.get? e=some u):Un fs ex H (upd H x o) h h':=by
 have hx:∀b,H b=none->b≠x:=λb n z=>by subst z;rw[n]at mu;exact mu
 have hb:∀b,H b=none->b≠e:=λb n z=>by
   subst z
   rcases he with r | r
   . exact hx b n r
   . rw[n]at r;cases r
 have hm:∀b u,H b=some u->¬Ka (some u)->b≠x:=λb u q nm z=>by subst z;rw[q]at mu;exact nm mu
 refine⟨λb u q n _ _=>k b u (hb b n) q,λb u q n _ _=>⟨u.slots,k b u (hb b n) q⟩,λb u q n _=>by rw[qk (hx b n)];exact n,λb u q _=>?_,
   λb xs q=>by rw[qk (hm b _ q λz=>z)];exact q,λb u xs q=>by rw[qk (hm b _ q λz=>z)];exact q,λb ps q=>⟨#[],by rw[qk (hm b _ q λz=>z),q];simp⟩⟩
 by_cases hbe:b=e
 . subst hbe;exact heo
 . exact⟨u,k b u hbe q⟩
end
def GC (h:Heap) (H:Hp):List Addr:=(List.range h.objs.size).filter λa=>(H a).isSome
def Y1 (h:Heap) (H:Hp):Heap:=PySem.W.hideAll h (GC h H)
theorem Uf (h:Heap) (H:Hp):(Y1 h H).objs.size=h.objs.size:=PySem.W.hideAll_size _ _
theorem kE {h:Heap} {H:Hp} {b:Addr} {o:Obj} (e:h.get? b=some o) (n:H b=none):(Y1 h H).get? b=some o:=
 PySem.W.hideAll_get _ e λhm=>by
   have q:(H b).isSome=true:=(List.mem_filter.mp hm).2
   rw[n]at q;simp at q
theorem yY {h:Heap} {H:Hp} {b:Addr} {o:Obj} (e:(Y1 h H).get? b=some o):h.get? b=some o/\H b=none:=by
 have e':h.get? b=some o:=PySem.W.of_hideAll (GC h H) e
 refine⟨e',?_⟩
 cases q:H b with
 | none=>rfl
 | some x=>
   have hm:b∈GC h H:=List.mem_filter.mpr ⟨List.mem_range.mpr (Heap.lt_size e'),by simp [q]⟩
   have z:(Y1 h H).get? b=none:=PySem.W.hideAll_none (GC h H) hm
   rw[z]at e;cases e
def xT (g h:Heap) (L:Addr):List (Addr×Obj):=(List.range h.objs.size).filterMap λa=>if a=L\/(g.get? a).isSome=true then none else (h.get? a).map λo=>(a,o)
def rest (g h:Heap) (L d:Addr):List (Addr×Obj):=(xT g h L).filter λp=>decide (p.1≠d)
end L2
namespace L2
open PySem PySem.Spec PyProof.Rows
structure Mod (K:PySem.W.Frag) (mg:Str->Option Value) (base:Heap):Prop where
 kin:K.In base
 glob:base.Ns mainGlobals mg
 blt:∃mb,base.Ns builtinsNs mb/\∀x:Str,x≠"__name__"->mb x=bootBuiltins x
 nolimit:base.NoLimit
structure Cx where
 prog:Program
 w:World
 K:PySem.W.Frag
 mg:Str->Option Value
 base:Heap
 A:Around
 N:List Str
 s₀:Shared
 H₀:Hp
 env:Env
 outer:List Env
 stack:List Env
 ex:List Addr
 fn:Str->Bool
 calm:Bool
 pn:List (Addr×Obj)
 xe:Value->Shared->Prop
def kG (l:List Env):List Addr:=l.filterMap (·.frame)
abbrev Cx.fs (X:Cx):List Addr:=kG X.outer
def u8 (sc:Scope) (x:Str):Prop:=sc.names.lookup x=some .local\/sc.names.lookup x=some .cell\/sc.names.lookup x=some .free
def u0 (sc:Scope) (x:Str):Prop:=sc.names.lookup x=some .local\/sc.names.lookup x=some .cell
def RX (env:Env) (h:Heap) (m:Str->Option Value) (x:Str) (u:Value):Prop:=
 (env.kindOf x=some .local/\m x=some u)\/((env.kindOf x=some .cell\/env.kindOf x=some .free)/\∃c,env.cells.lookup x=some c/\h.IsCell c (some u))
structure Cx.Ok (X:Cx):Prop where
 mod:Mod X.K X.mg X.base
 kind:X.env.scope.kind=.function
 glob:X.env.globals=mainGlobals
 blt:X.env.builtins=builtinsNs
 above:X.s₀.heap.objs.size<=X.env.locals
 inj:∀x y c,X.env.cells.lookup x=some c->X.env.cells.lookup y=some c->x=y
 has:∀x,(X.env.kindOf x=some .cell\/X.env.kindOf x=some .free)->∃c,X.env.cells.lookup x=some c
 cab:∀x c,X.fn x=true->X.env.cells.lookup x=some c->X.s₀.heap.objs.size<=c
 hd:X.calm=true->X.A.handled=none
 frames:X.A.frames=some X.stack
 stk:X.stack=X.outer\/(X.stack=X.env::X.outer/\X.env.frame=some X.env.locals)
 exf:∀b∈X.ex,b≠X.env.locals/\∀x c,X.env.cells.lookup x=some c->c≠b
 bs:∀b o,X.base.get? b=some o->X.s₀.heap.get? b=some o/\X.H₀ b=none
 bsz:X.base.objs.size<=X.s₀.heap.objs.size
 noex:∀b o,X.base.get? b=some o->b∉X.ex
 exfs:∀b∈X.ex,b∉X.fs
 funs:X.s₀.heap.FunFrames X.base X.outer
 frf:∀b∈X.fs,X.H₀ b=none
structure qy (X:Cx) (pins:List (Addr×Obj)) (σ:List (Option V)) (H:Hp) (s:Shared):Prop where
 ok:X.Ok
 os:s.os=X.s₀.os
 bare:AllBare s.gens
 base:Un X.fs X.ex X.H₀ H X.s₀.heap s.heap
 loc:∃m,s.heap.Ns X.env.locals m/\∀(i:Nat) (x:Str) (v:V),X.N[i]?=some x->σ[i]?=some (some v)->u8 X.env.scope x->∃u,qN v u/\RX X.env s.heap m x u
 cell:∀x c,X.env.cells.lookup x=some c->∃v,s.heap.IsCell c v
 free:H X.env.locals=none
 freeC:∀x c,X.env.cells.lookup x=some c->H c=none\/(X.fn x=false/\∃o,H c=some (.frz o (.frz o (.own 0))))
 pin:∀p∈X.pn++pins,s.heap.get? p.1=some p.2/\H p.1=none/\p.1≠X.env.locals/\p.1∉X.fs/\∀v,p.2.data≠.cell v
 hok:Jx X.prog X.w H s.heap
 len:σ.length=X.N.length
section
variable {X:Cx} {pins:List (Addr×Obj)} {σ:List (Option V)} {H H':Hp} {s:Shared} {h':Heap}
theorem Cx.Ok.nofr (ok:X.Ok) {b:Addr} {o:Obj} (e:X.base.get? b=some o):b∉X.fs:=λhb=>by
 have:=(ok.funs.mem hb).1
 rw[e]at this;cases this
theorem qy.bs (I:qy X pins σ H s):∀b o,X.base.get? b=some o->s.heap.get? b=some o/\H b=none:=λb o e=>
 ⟨I.base.keep b o (I.ok.bs b o e).1 (I.ok.bs b o e).2 (I.ok.nofr e) (I.ok.noex b o e),I.base.free b o (I.ok.bs b o e).1 (I.ok.bs b o e).2 (I.ok.noex b o e)⟩
theorem qy.bk (I:qy X pins σ H s):∀b o,X.base.get? b=some o->s.heap.get? b=some o:=λb o e=>(I.bs b o e).1
theorem qy.mod (I:qy X pins σ H s):Mod X.K X.mg X.base:=I.ok.mod
theorem qy.kIn (I:qy X pins σ H s):X.K.In s.heap:=I.ok.mod.kin.keeps I.bk
theorem qy.lt (I:qy X pins σ H s):X.env.locals < s.heap.objs.size:=let ⟨_,hn,_⟩:=I.loc;hn.lt
theorem qy.sz (I:qy X pins σ H s):X.s₀.heap.objs.size<=s.heap.objs.size:=Nat.le_trans I.ok.above (Nat.le_of_lt I.lt)
theorem qy.nofs (I:qy X pins σ H s) {a:Addr} (h:s.heap.objs.size<=a):a∉X.fs:=λhb=>by
 obtain⟨_,o,ho,_⟩:=I.ok.funs.mem hb
 exact absurd (Nat.lt_of_lt_of_le (Heap.lt_size ho) (Nat.le_trans I.sz h)) (Nat.lt_irrefl _)
theorem qy.cne (I:qy X pins σ H s):∀x c,X.env.cells.lookup x=some c->c≠X.env.locals:=λx c e z=>by
 obtain⟨v,o,ho,hd⟩:=I.cell x c e
 obtain⟨m,⟨o',es,ep,ho',hd',_⟩,_⟩:=I.loc
 rw[z,ho']at ho;cases ho;rw[hd']at hd;cases hd
theorem qy.funs (I:qy X pins σ H s):s.heap.FunFrames X.base X.outer:=by
 have all:∀(l:List Env),(∀b∈kG l,b∈X.fs)->X.s₀.heap.FunFrames X.base l->s.heap.FunFrames X.base l:=by
   intro l
   induction l with
   | nil=>intro _ _;trivial
   | cons env r ih=>
     intro hs hl
     obtain⟨hk,⟨L,o,hf,hn,ho,hd⟩,hr⟩:=hl
     have hL:L∈X.fs:=hs L (by unfold kG;rw[List.filterMap_cons,hf];exact List.mem_cons_self)
     obtain⟨sl,e⟩:=I.base.slot L o ho (I.ok.frf L hL) hL λz=>I.ok.exfs L z hL
     exact⟨hk,⟨L,_,hf,hn,e,hd⟩,ih (λb hb=>hs b (by unfold kG;rw[List.filterMap_cons,hf];exact List.mem_cons_of_mem _ hb)) hr⟩
 exact all X.outer (λ_ hb=>hb) I.ok.funs
theorem qy.stack (I:qy X pins σ H s):s.heap.FunFrames X.base X.stack:=by
 rcases I.ok.stk with e | ⟨e,hf⟩
 . rw[e];exact I.funs
 . rw[e]
   obtain⟨m,hn,_⟩:=I.loc
   refine .cons (by rw[I.ok.kind];decide) hf hn ?_ I.funs
   exact Heap.get?_none_of_le (Nat.le_trans I.ok.bsz I.ok.above)
theorem qy.stkSub (I:qy X pins σ H s):∀b∈kG X.stack,b∈X.env.locals::X.fs:=λb hb=>by
 rcases I.ok.stk with e | ⟨e,hf⟩
 . rw[e]at hb;exact List.mem_cons_of_mem _ hb
 . rw[e]at hb
   unfold kG at hb
   rw[List.filterMap_cons,hf]at hb
   exact hb
theorem qy.stkFree (I:qy X pins σ H s):∀b∈kG X.stack,H b=none:=λb hb=>by
 rcases List.mem_cons.mp (I.stkSub b hb) with e | hb
 . rw[e];exact I.free
 . obtain⟨_,o,ho,_⟩:=I.ok.funs.mem hb
   exact I.base.free b o ho (I.ok.frf b hb) λz=>I.ok.exfs b z hb
theorem qy.step {g':Array GenState} {t':Nat} {d':Drawn} {ch:List Addr} (I:qy X pins σ H s)
   (hch:∀b∈ch,(b∈X.ex\/X.s₀.heap.objs.size<=b)/\b≠X.env.locals/\(∀x c,X.env.cells.lookup x=some c->c≠b)/\∀p∈X.pn++pins,p.1≠b)
   (keep:∀b o,b≠X.env.locals->b∉X.fs->b∉ch->s.heap.get? b=some o->H b=none->h'.get? b=some o)
   (slot:∀b o,b≠X.env.locals->b∈X.fs->b∉ch->s.heap.get? b=some o->H b=none->∃sl,h'.get? b=some {o with slots:=sl}) (free:∀b o,b∉ch->s.heap.get? b=some o->H b=none->H' b=none)
   (there:∀b o,b∉ch->s.heap.get? b=some o->∃o',h'.get? b=some o')
   (tups:∀b xs,H b=some (.tup xs)->H' b=some (.tup xs)) (frzs:∀b o u,H b=some (.frz o u)->H' b=some (.frz o u)) (tbls:∀b ps,H b=some (.tbl ps)->∃more,H' b=some (.tbl (ps++more)))
   (ns:∀m,s.heap.Ns X.env.locals m->h'.Ns X.env.locals m) (hok:Jx X.prog X.w H' h') (hg:AllBare g'):
   qy X pins σ H' {s with heap:=h',gens:=g',drawn:=d',toks:=t'}:=by
 have neL:∀b o,X.s₀.heap.get? b=some o->b≠X.env.locals:=λb o e=>Nat.ne_of_lt (Nat.lt_of_lt_of_le (Heap.lt_size e) I.ok.above)
 have neC:∀b o,X.s₀.heap.get? b=some o->b∉X.ex->b∉ch:=λb o e hx hb=>by
   rcases(hch b hb).1 with z | z
   . exact hx z
   . exact absurd (Nat.lt_of_lt_of_le (Heap.lt_size e) z) (Nat.lt_irrefl _)
 have cellK:∀x c,X.env.cells.lookup x=some c->∀v,s.heap.IsCell c v->h'.IsCell c v:=λx c e v ⟨o,ho,hd⟩=>by
   have nch:c∉ch:=λz=>(hch c z).2.2.1 x c e rfl
   rcases I.freeC x c e with fc | ⟨_,oc,fc⟩
   . by_cases hc:c∈X.fs
     . obtain⟨sl,q⟩:=slot c o (I.cne x c e) hc nch ho fc
       exact⟨_,q,hd⟩
     . exact⟨o,keep c o (I.cne x c e) hc nch ho fc,hd⟩
   . obtain⟨e1,_⟩:=(show qU X.prog X.w H s.heap c (.frz oc (.frz oc (.own 0))) from I.hok c _ fc)
     obtain⟨e2,_⟩:=(show qU X.prog X.w H' h' c (.frz oc (.frz oc (.own 0))) from hok c _ (frzs c oc _ fc))
     rw[ho]at e1
     cases e1
     exact⟨o,e2,hd⟩
 refine⟨I.ok,I.os,hg,⟨λb o e n hb hx=>?_,λb o e n hb hx=>?_,λb o e n hx=>?_,λb o e hx=>?_,λb xs e=>tups b xs (I.base.tups b xs e),λb o xs e=>frzs b o xs (I.base.frzs b o xs e),λb ps e=>?_⟩,?_,λx c e=>?_,?_,λx c e=>?_,λp hp=>?_,hok,I.len⟩
 . exact keep b o (neL b o e) hb (neC b o e hx) (I.base.keep b o e n hb hx) (I.base.free b o e n hx)
 . obtain⟨sl,e1⟩:=I.base.slot b o e n hb hx
   obtain⟨sl',e2⟩:=slot b _ (neL b o e) hb (neC b o e hx) e1 (I.base.free b o e n hx)
   exact⟨sl',e2⟩
 . obtain⟨o',e1⟩:=I.base.there b o e hx
   exact free b o' (neC b o e hx) e1 (I.base.free b o e n hx)
 . obtain⟨o',e1⟩:=I.base.there b o e hx
   exact there b o' (neC b o e hx) e1
 . obtain⟨m1,e1⟩:=I.base.tbls b ps e
   obtain⟨m2,e2⟩:=tbls b _ e1
   exact⟨m1++m2,by rw[e2,Array.append_assoc]⟩
 . obtain⟨m,hn,hl⟩:=I.loc
   refine⟨m,ns m hn,λi x v e1 e2 e3=>?_⟩
   obtain⟨u,r,l⟩:=hl i x v e1 e2 e3
   refine⟨u,r,?_⟩
   rcases l with l | ⟨k,c,e,z⟩
   . exact .inl l
   . exact .inr ⟨k,c,e,cellK x c e _ z⟩
 . obtain⟨v,z⟩:=I.cell x c e
   exact⟨v,cellK x c e v z⟩
 . obtain⟨m,⟨o,_,_,ho,_⟩,_⟩:=I.loc
   exact free _ o (λz=>(hch _ z).2.1 rfl) ho I.free
 . obtain⟨v,o,ho,hd⟩:=I.cell x c e
   rcases I.freeC x c e with fc | ⟨fx,oc,fc⟩
   . exact .inl (free c o (λz=>(hch c z).2.2.1 x c e rfl) ho fc)
   . exact .inr ⟨fx,oc,frzs c oc _ fc⟩
 . obtain⟨e,n,ne,nf,d⟩:=I.pin p hp
   have nch:p.1∉ch:=λz=>(hch p.1 z).2.2.2 p hp rfl
   exact⟨keep p.1 p.2 ne nf nch e n,free p.1 p.2 nch e n,ne,nf,d⟩
theorem qy.un {t':Nat} (I:qy X pins σ H s) (u:Un X.fs [] H H' s.heap h') (hok:Jx X.prog X.w H' h'):qy X pins σ H' {s with heap:=h',toks:=t'}:=by
 obtain⟨m,⟨o,es,ep,ho,r⟩,_⟩:=id I.loc
 obtain⟨sl,hL⟩:=u.any ho I.free (by simp)
 exact I.step (g':=s.gens) (d':=s.drawn) (ch:=[]) (λ_ z=>nomatch z) (λb o _ hb _ e n=>u.keep b o e n hb (by simp)) (λb o _ hb _ e n=>u.slot b o e n hb (by simp)) (λb o _ e n=>u.free b o e n (by simp)) (λb o _ e=>u.there b o e (by simp)) u.tups u.frzs u.tbls (λm' hm=>by
   obtain⟨o',es',ep',ho',r'⟩:=hm
   rw[ho]at ho';cases ho'
   exact⟨_,es',ep',hL,r'⟩) hok I.bare
theorem qy.call {g':Array GenState} {t':Nat} {d':Drawn} {ch:List Addr} (I:qy X pins σ H s) (u:Un (kG X.stack) ch H H' s.heap h') (hok:Jx X.prog X.w H' h') (hg:AllBare g')
   (hch:∀b∈ch,(b∈X.ex\/X.s₀.heap.objs.size<=b)/\b≠X.env.locals/\(∀x c,X.env.cells.lookup x=some c->c≠b)/\∀p∈X.pn++pins,p.1≠b):
   qy X pins σ H' {s with heap:=h',gens:=g',drawn:=d',toks:=t'}:=by
 obtain⟨m,⟨o,es,ep,ho,r⟩,_⟩:=id I.loc
 obtain⟨sl,hL⟩:=u.any ho I.free λz=>(hch _ z).2.1 rfl
 exact I.step (ch:=ch) hch (λb o hL hb hc e n=>u.keep b o e n (λz=>(List.mem_cons.mp (I.stkSub b z)).elim hL hb) hc) (λb o _ _ hc e n=>u.any e n hc) (λb o hc e n=>u.free b o e n hc) (λb o hc e=>u.there b o e hc) u.tups u.frzs u.tbls (λm' hm=>by
   obtain⟨o',es',ep',ho',r'⟩:=hm
   rw[ho]at ho';cases ho'
   exact⟨_,es',ep',hL,r'⟩) hok hg
theorem qy.turned {t':Nat} {it:Addr} (I:qy X pins σ H s) (k:∀b o,b≠it->s.heap.get? b=some o->h'.get? b=some o) (hn:H it=none) (hL:it≠X.env.locals)
   (h1:it∈X.ex\/X.s₀.heap.objs.size<=it) (h2:∀x c,X.env.cells.lookup x=some c->c≠it) (h3:∀p∈X.pn++pins,p.1≠it):qy X pins σ H {s with heap:=h',toks:=t'}:=by
 have nit:∀b u,H b=some u->b≠it:=λb u e z=>by rw[z,hn]at e;cases e
 refine I.step (g':=s.gens) (d':=s.drawn) (ch:=[it]) (λb hb=>?_) (λb o _ _ hc e _=>k b o (λz=>hc (by simp [z])) e) (λb o _ _ hc e _=>⟨o.slots,k b o (λz=>hc (by simp [z])) e⟩) (λ_ _ _ _ n=>n)
   (λb o hc e=>⟨o,k b o (λz=>hc (by simp [z])) e⟩) (λ_ _ e=>e) (λ_ _ _ e=>e) (λb ps e=>⟨#[],by rw[e];simp⟩) (λm hm=>?_) (λb u e=>?_) I.bare
 . have e:b=it:=by simpa using hb
   subst e
   exact⟨h1,hL,h2,h3⟩
 . obtain⟨o,es,ep,ho,r⟩:=hm
   exact⟨o,es,ep,k _ o (Ne.symm hL) ho,r⟩
 . refine(I.hok b u e).stay (λc v hc q=>k c v ?_ q) (λ_ q=>q) λ_ _ q=>q
   rcases hc with z | z
   . rw[z];exact nit b u e
   . exact nit c _ z
theorem qy.tok (I:qy X pins σ H s) (t:Nat):qy X pins σ H {s with toks:=t}:=I.un (h':=s.heap) (t':=t) Un.refl I.hok
theorem qy.kept {t':Nat} (I:qy X pins σ H s) (k:∀b u,s.heap.get? b=some u->h'.get? b=some u):qy X pins σ H {s with heap:=h',toks:=t'}:=I.un (Un.kept k) (I.hok.kept k)
theorem qy.laid {a:Addr} {o:HO} {t':Nat} (I:qy X pins σ H s) (k:∀b u,s.heap.get? b=some u->h'.get? b=some u) (hp:s.heap.objs.size<=a) (new:qU X.prog X.w (upd H a o) h' a o):
   qy X pins σ (upd H a o) {s with heap:=h',toks:=t'}:=I.un (Un.laid k hp (I.hok.fresh hp)) (I.hok.laid k hp new)
theorem qy.write {x e:Addr} {o:HO} {t':Nat} (I:qy X pins σ H s) (mu:Ka (H x)) (he:e=x\/H e=some (.own x)) (k:∀b u,b≠e->s.heap.get? b=some u->h'.get? b=some u) (heo:∃u,h'.get? e=some u)
   (new:qU X.prog X.w (upd H x o) h' x o):qy X pins σ (upd H x o) {s with heap:=h',toks:=t'}:=I.un (Un.write mu he k heo) (I.hok.write mu he k heo new)
theorem qy.pins_of {pins':List (Addr×Obj)} (I:qy X pins σ H s) (h:∀p∈pins',s.heap.get? p.1=some p.2/\H p.1=none/\p.1≠X.env.locals/\p.1∉X.fs/\∀v,p.2.data≠.cell v):qy X pins' σ H s:=
 ⟨I.ok,I.os,I.bare,I.base,I.loc,I.cell,I.free,I.freeC,λp hp=>(List.mem_append.mp hp).elim (λz=>I.pin p (List.mem_append_left _ z)) (h p),I.hok,I.len⟩
theorem XD {N:List Str} (hN:N.Nodup) {i j:Nat} {x:Str} (a:N[i]?=some x) (b:N[j]?=some x):i=j:=by
 obtain⟨h1,e1⟩:=List.getElem?_eq_some_iff.mp a
 obtain⟨h2,e2⟩:=List.getElem?_eq_some_iff.mp b
 exact(List.getElem_inj hN).mp (e1.trans e2.symm)
theorem z9 {M:Model} {A:Around} {E:Value->Shared->Prop} {i:Nat} {x:Str} {v:V} {u:Value} {Q:Unit->Shared->Prop} (I:qy X pins σ H s) (hN:X.N.Nodup) (hi:X.N[i]?=some x) (hx:u0 X.env.scope x) (r:qN v u)
   (h:∀s',qy X pins (σ.set i (some v)) H s'->(∃a,Heap.SameBut a s.heap s'.heap/\(a=X.env.locals\/X.env.cells.lookup x=some a))->Q () s') (hf:X.fn x=true\/X.env.scope.names.lookup x=some .local:=by first | exact .inl rfl | exact .inr rfl | assumption):wpAny M A (storeName X.env x u) Q E s:=by
 obtain⟨m,hn,hl⟩:=id I.loc
 have hcls:(X.env.scope.kind==.class || (X.env.scope.kind==.module&&X.env.locals != X.env.globals))=false:=by rw[I.ok.kind];rfl
 have hiσ:i < σ.length:=by rw[I.len];exact(List.getElem?_eq_some_iff.mp hi).1
 have cne:=I.cne
 have tracked:∀{a:Addr} {h':Heap},(∃o,s.heap.get? a=some o/\H a=none)->Heap.SameBut a s.heap h'->Jx X.prog X.w H h':=λ{a h'} ha hs b ob e=>by
   obtain⟨_,_,hfree⟩:=ha
   refine(I.hok b ob e).stay (λc w' hc q=>(hs.2 c ?_).trans q) (λ_ q=>q) λ_ _ q=>q
   rintro rfl
   rcases hc with rfl | hc
   . rw[hfree]at e;cases e
   . rw[hfree]at hc;cases hc
 rcases hx with hk | hk
 . refine wpAny_storeName_local hk hn (λh' hn' hs=>?_) hcls
   obtain⟨oL,_,_,hoL,_⟩:=id hn
   refine h _ ⟨I.ok,I.os,I.bare,⟨λb o e n hb hx=>?_,λb o e n hb hx=>?_,I.base.free,λb o e hx=>?_,I.base.tups,I.base.frzs,I.base.tbls⟩,⟨_,hn',λj y v' e1 e2 e3=>?_⟩,λy c e=>?_,I.free,I.freeC,λp hp=>?_,tracked ⟨oL,hoL,I.free⟩ hs,by simpa using I.len⟩ ⟨_,hs,.inl rfl⟩
   . exact(hs.2 b (Nat.ne_of_lt (Nat.lt_of_lt_of_le (Heap.lt_size e) I.ok.above))).trans (I.base.keep b o e n hb hx)
   . obtain⟨sl,e1⟩:=I.base.slot b o e n hb hx
     exact⟨sl,(hs.2 b (Nat.ne_of_lt (Nat.lt_of_lt_of_le (Heap.lt_size e) I.ok.above))).trans e1⟩
   . obtain⟨o',e1⟩:=I.base.there b o e hx
     exact⟨o',(hs.2 b (Nat.ne_of_lt (Nat.lt_of_lt_of_le (Heap.lt_size e) I.ok.above))).trans e1⟩
   . by_cases hj:j=i
     . subst hj
       rw[hi]at e1;cases e1
       rw[List.getElem?_set_self hiσ]at e2
       cases e2
       exact⟨u,r,.inl ⟨hk,by simp⟩⟩
     . rw[List.getElem?_set_ne (Ne.symm hj)]at e2
       obtain⟨u',r',q⟩:=hl j y v' e1 e2 e3
       refine⟨u',r',?_⟩
       rcases q with ⟨k,e⟩ | ⟨k,c,e,z⟩
       . refine .inl ⟨k,?_⟩
         have:y≠x:=λe=>hj (XD hN e1 (e▸hi))
         simp [this,e]
       . exact .inr ⟨k,c,e,z.sameBut hs (cne y c e)⟩
   . obtain⟨w',z⟩:=I.cell y c e
     exact⟨w',z.sameBut hs (cne y c e)⟩
   . obtain⟨e,n,ne,nf,d⟩:=I.pin p hp
     exact⟨(hs.2 p.1 ne).trans e,n,ne,nf,d⟩
 . have hfn:X.fn x=true:=by
     rcases hf with z | z
     . exact z
     . rw[z]at hk;cases hk
   obtain⟨c,hc⟩:=I.ok.has x (.inl hk)
   obtain⟨w',z⟩:=I.cell x c hc
   refine wpAny_storeName_cell I.ok.kind hk hc z (λh' hc' hs=>?_)
   obtain⟨oc,hoc,hocd⟩:=id z
   have fcn:H c=none:=(I.freeC x c hc).elim id λz=>by rw[hfn]at z;cases z.1
   refine h {s with heap:=h'} ⟨I.ok,I.os,I.bare,⟨λb o e n hb hx=>?_,λb o e n hb hx=>?_,I.base.free,λb o e hx=>?_,I.base.tups,I.base.frzs,I.base.tbls⟩,⟨m,hn.sameBut hs (Ne.symm (cne x c hc)),λj y v' e1 e2 e3=>?_⟩,λy c' e=>?_,I.free,I.freeC,λp hp=>?_,tracked ⟨oc,hoc,fcn⟩ hs,by simpa using I.len⟩ ⟨c,hs,.inr hc⟩
   . exact(hs.2 b (Nat.ne_of_lt (Nat.lt_of_lt_of_le (Heap.lt_size e) (I.ok.cab x c hfn hc)))).trans (I.base.keep b o e n hb hx)
   . obtain⟨sl,e1⟩:=I.base.slot b o e n hb hx
     exact⟨sl,(hs.2 b (Nat.ne_of_lt (Nat.lt_of_lt_of_le (Heap.lt_size e) (I.ok.cab x c hfn hc)))).trans e1⟩
   . obtain⟨o',e1⟩:=I.base.there b o e hx
     exact⟨o',(hs.2 b (Nat.ne_of_lt (Nat.lt_of_lt_of_le (Heap.lt_size e) (I.ok.cab x c hfn hc)))).trans e1⟩
   . by_cases hj:j=i
     . subst hj
       rw[hi]at e1;cases e1
       rw[List.getElem?_set_self hiσ]at e2
       cases e2
       exact⟨u,r,.inr ⟨.inl hk,c,hc,hc'⟩⟩
     . rw[List.getElem?_set_ne (Ne.symm hj)]at e2
       obtain⟨u',r',q⟩:=hl j y v' e1 e2 e3
       refine⟨u',r',?_⟩
       rcases q with q | ⟨k,c',e,z'⟩
       . exact .inl q
       . refine .inr ⟨k,c',e,z'.sameBut hs ?_⟩
         rintro rfl
         exact hj (XD hN e1 (I.ok.inj _ _ _ e hc▸hi))
   . by_cases hcc:c'=c
     . subst hcc;exact⟨_,hc'⟩
     . obtain⟨w2,z2⟩:=I.cell y c' e
       exact⟨w2,z2.sameBut hs hcc⟩
   . obtain⟨e,n,ne,nf,d⟩:=I.pin p hp
     refine⟨(hs.2 p.1 ?_).trans e,n,ne,nf,d⟩
     intro q
     rw[q,hoc]at e
     have q':oc=p.2:=Option.some.inj e
     exact d w' (by rw[<-q'];exact hocd)
theorem ZW {M:Model} {A:Around} {E:Value->Shared->Prop} {i:Nat} {x:Str} {v:V} {u:Value} {Q:Unit->Shared->Prop} (I:qy X pins σ H s) (hN:X.N.Nodup) (hi:X.N[i]?=some x) (hx:u0 X.env.scope x) (r:qN v u)
   (h:∀s',qy X pins (σ.set i (some v)) H s'->Q () s') (hf:X.fn x=true\/X.env.scope.names.lookup x=some .local:=by first | exact .inl rfl | exact .inr rfl | assumption):wpAny M A (storeName X.env x u) Q E s:=
 z9 I hN hi hx r (λs' I' _=>h s' I') hf
theorem qy.call' {s':Shared} {ch:List Addr} (I:qy X pins σ H s) (ho:s'.os=s.os) (u:Un (kG X.stack) ch H H' s.heap s'.heap) (hok:Jx X.prog X.w H' s'.heap) (hg:AllBare s'.gens)
   (hch:∀b∈ch,(b∈X.ex\/X.s₀.heap.objs.size<=b)/\b≠X.env.locals/\(∀x c,X.env.cells.lookup x=some c->c≠b)/\∀p∈X.pn++pins,p.1≠b):qy X pins σ H' s':=by
 obtain⟨h',g',d',t',o'⟩:=s'
 have e:o'=s.os:=ho
 subst e
 exact I.call (g':=g') (t':=t') (d':=d') u hok hg hch
end
abbrev XK:=Value->Option Addr->Hp->Prop
abbrev St:=List (Option V)
abbrev VK:=V->Hp->Prop
abbrev TE:=St->Hp->VK->Prop
abbrev TT:=St->Hp->(Bool->Hp->Prop)->Prop
abbrev TA:=St->Hp->(List V->Hp->Prop)->Prop
structure QE where
 nx:St->Hp->Prop
 rt:VK
 bk:St->Hp->Prop:=λ_ _=>False
 ct:St->Hp->Prop:=λ_ _=>False
abbrev TS:=QE->St->Hp->Prop
def EP (X:Cx) (pins:List (Addr×Obj)) (σ:St) (Q:VK) (u:Value) (s':Shared):Prop:=∃v H',qy X pins σ H' s'/\qN v u/\Q v H'
def TP (X:Cx) (pins:List (Addr×Obj)) (σ:St) (Q:Bool->Hp->Prop) (b:Bool) (s':Shared):Prop:=∃H',qy X pins σ H' s'/\Q b H'
def AP (X:Cx) (pins:List (Addr×Obj)) (σ:St) (Q:List V->Hp->Prop) (us:List Value) (s':Shared):Prop:=∃vs H',qy X pins σ H' s'/\qL vs us/\Q vs H'
def SP (X:Cx) (pins:List (Addr×Obj)) (D:QE) (f:Flow) (s':Shared):Prop:=
 match f with
 | .next=>∃σ' H',qy X pins σ' H' s'/\D.nx σ' H'
 | .brk=>∃σ' H',qy X pins σ' H' s'/\D.bk σ' H'
 | .cont=>∃σ' H',qy X pins σ' H' s'/\D.ct σ' H'
 | .ret u=>∃v σ' H',qy X pins σ' H' s'/\qN v u/\D.rt v H'
def PE (X:Cx) (e:Expr) (t:TE):Prop:=
 ∀(pins:List (Addr×Obj)) (s:Shared) (σ:St) (H:Hp) (Q:VK),qy X pins σ H s->t σ H Q->wpAny (model X.prog X.w) X.A (eval e X.env) (EP X pins σ Q) X.xe s
@[irreducible] def JE (X:Cx) (e:Expr) (t:TE):Prop:=PE X e t
theorem JE.of {X:Cx} {e:Expr} {t:TE} (h:PE X e t):JE X e t:=by unfold JE;exact h
theorem JE.to {X:Cx} {e:Expr} {t:TE} (h:JE X e t):PE X e t:=by unfold JE at h;exact h
def PT (X:Cx) (e:Expr) (t:TT):Prop:=
 ∀(pins:List (Addr×Obj)) (s:Shared) (σ:St) (H:Hp) (Q:Bool->Hp->Prop),qy X pins σ H s->t σ H Q->wpAny (model X.prog X.w) X.A (isTrue e X.env (eval e X.env)) (TP X pins σ Q) X.xe s
@[irreducible] def JT (X:Cx) (e:Expr) (t:TT):Prop:=PT X e t
theorem JT.of {X:Cx} {e:Expr} {t:TT} (h:PT X e t):JT X e t:=by unfold JT;exact h
theorem JT.to {X:Cx} {e:Expr} {t:TT} (h:JT X e t):PT X e t:=by unfold JT at h;exact h
def PW (X:Cx) (e:Expr) (t:TT):Prop:=
 ∀(whole:Sem Value) (pins:List (Addr×Obj)) (s:Shared) (σ:St) (H:Hp) (Q:Bool->Hp->Prop),qy X pins σ H s->t σ H Q->wpAny (model X.prog X.w) X.A (isTrue e X.env whole) (TP X pins σ Q) X.xe s
theorem PW.pt {X:Cx} {e:Expr} {t:TT} (h:PW X e t):PT X e t:=h _
@[irreducible] def JW (X:Cx) (e:Expr) (t:TT):Prop:=PW X e t
theorem JW.of {X:Cx} {e:Expr} {t:TT} (h:PW X e t):JW X e t:=by unfold JW;exact h
theorem JW.to {X:Cx} {e:Expr} {t:TT} (h:JW X e t):PW X e t:=by unfold JW at h;exact h
theorem JW.pt {X:Cx} {e:Expr} {t:TT} (h:JW X e t):JT X e t:=.of h.to.pt
def PA (X:Cx) (es:List Expr) (t:TA):Prop:=
 ∀(pos:Pos) (pins:List (Addr×Obj)) (s:Shared) (σ:St) (H:Hp) (Q:List V->Hp->Prop),qy X pins σ H s->t σ H Q->wpAny (model X.prog X.w) X.A (spliced (backTo pos (starEach es X.env))) (AP X pins σ Q) X.xe s
@[irreducible] def JA (X:Cx) (es:List Expr) (t:TA):Prop:=PA X es t
theorem JA.of {X:Cx} {es:List Expr} {t:TA} (h:PA X es t):JA X es t:=by unfold JA;exact h
theorem JA.to {X:Cx} {es:List Expr} {t:TA} (h:JA X es t):PA X es t:=by unfold JA at h;exact h
def PS (X:Cx) (st:Stmt) (t:TS):Prop:=
 ∀(pins:List (Addr×Obj)) (s:Shared) (σ:St) (H:Hp) (D:QE),qy X pins σ H s->t D σ H->wpAny (model X.prog X.w) X.A (exec st X.env) (SP X pins D) X.xe s
@[irreducible] def JS (X:Cx) (st:Stmt) (t:TS):Prop:=PS X st t
theorem JS.of {X:Cx} {st:Stmt} {t:TS} (h:PS X st t):JS X st t:=by unfold JS;exact h
theorem JS.to {X:Cx} {st:Stmt} {t:TS} (h:JS X st t):PS X st t:=by unfold JS at h;exact h
def wI (X:Cx) (st:List Stmt) (t:TS):Prop:=
 ∀(pins:List (Addr×Obj)) (s:Shared) (σ:St) (H:Hp) (D:QE),qy X pins σ H s->t D σ H->wpAny (model X.prog X.w) X.A (execs st X.env) (SP X pins D) X.xe s
@[irreducible] def Xf (X:Cx) (st:List Stmt) (t:TS):Prop:=wI X st t
theorem Xf.of {X:Cx} {st:List Stmt} {t:TS} (h:wI X st t):Xf X st t:=by unfold Xf;exact h
theorem Xf.to {X:Cx} {st:List Stmt} {t:TS} (h:Xf X st t):wI X st t:=by unfold Xf at h;exact h
theorem ja {α:Type} {t:Sem α} {Q Q':α->Shared->Prop} {M:Model} {A:Around} {E:Value->Shared->Prop} {s:Shared} (h:wpAny M A t Q E s) (hQ:∀a s,Q a s->Q' a s):wpAny M A t Q' E s:=wpAny_mono h hQ λ_ _ x=>x
end L2
namespace L2
open PySem PySem.Spec PyProof.Rows
section
variable {X:Cx}
def qZ (i:Nat):TE:=λσ H Q=>∃v,σ[i]?=some (some v)/\Q v H
def tC (v:V):TE:=λ_ H Q=>Q v H
theorem ug {i:Nat} {x:Str} {pos:Pos} (hN:X.N[i]?=some x) (hv:u8 X.env.scope x) (hd:(x==("__debug__":Str))=false:=by decide) (hcd:(x==("__classdict__":Str))=false:=by decide):PE X (.Name x pos) (qZ i):=by
 intro pins s σ H Q I h
 obtain⟨v,e,h⟩:=h
 obtain⟨m,hn,hl⟩:=I.loc
 obtain⟨u,r,l⟩:=hl i x v hN e hv
 have fin:EP X pins σ Q u s:=⟨v,H,I,r,h⟩
 rcases l with ⟨hk,hm⟩ | ⟨hk,c,hc,hcell⟩
 . exact wpAny_Name (wpAny_loadName_local I.ok.kind hk hn hm fin) hd
 . rcases hk with hk | hk
   . exact wpAny_Name (wpAny_loadName_cell I.ok.kind hk hc hcell fin) hd
   . exact wpAny_Name (wpAny_loadName_free I.ok.kind hk hc hcell fin hcd) hd
theorem qh {i j pos}:JE X (.Constant (.int i) j pos) (tC (.int i)):=.of (by
 exact λ_ _ _ H _ I h=>wpAny_Constant_int ⟨.int i,H,I.tok _,⟨_,rfl⟩,h⟩)
theorem jw {b j pos}:JE X (.Constant (.bool b) j pos) (tC (.bl b)):=.of (by
 exact λ_ _ _ H _ I h=>Constant_bool ⟨.bl b,H,I,rfl,h⟩)
theorem QT {j pos}:JE X (.Constant .none j pos) (tC .non):=.of (by
 exact λ_ _ _ H _ I h=>Constant_none ⟨.non,H,I,rfl,h⟩)
theorem qB {x j pos}:JE X (.Constant (.str x) j pos) (tC (.str x)):=.of (by
 exact λ_ _ _ H _ I h=>Calls.Constant_str ⟨.str x,H,I.tok _,⟨_,rfl⟩,h⟩)
def Gl (X:Cx) (x:Str):Prop:=X.env.kindOf x=some .globalImplicit
theorem YU {E:Value->Shared->Prop} {pins:List (Addr×Obj)} {s:Shared} {σ:St} {H:Hp} {x:Str} {u:Value} {pos:Pos} {Q:Value->Shared->Prop} (I:qy X pins σ H s) (hg:Gl X x) (hm:X.mg x=some u) (h:Q u s)
   (hd:(x==("__debug__":Str))=false:=by decide):wpAny (model X.prog X.w) X.A (eval (.Name x pos) X.env) Q E s:=
 Calls.Name_function_global I.ok.kind hg (Calls.loadGlobal_global (by rw[I.ok.glob];exact I.mod.glob.keeps I.bk) hm h) hd
theorem Qf {E:Value->Shared->Prop} {pins:List (Addr×Obj)} {s:Shared} {σ:St} {H:Hp} {x:Str} {u:Value} {pos:Pos} {Q:Value->Shared->Prop} (I:qy X pins σ H s) (hg:Gl X x) (hm:X.mg x=none) (hv:bootBuiltins x=some u) (h:Q u s)
   (hn:x≠"__name__":=by decide) (hd:(x==("__debug__":Str))=false:=by decide):wpAny (model X.prog X.w) X.A (eval (.Name x pos) X.env) Q E s:=by
 obtain⟨mb,h1,h2⟩:=I.mod.blt
 exact Calls.Name_function_global I.ok.kind hg (Calls.loadGlobal_builtin (by rw[I.ok.glob];exact I.mod.glob.keeps I.bk) hm (by rw[I.ok.blt];exact h1.keeps I.bk) ((h2 x hn).trans hv) h) hd
theorem Jq {x:Str} {v:V} {u:Value} {pos:Pos} (hg:Gl X x) (hm:X.mg x=some u) (r:qN v u) (hd:(x==("__debug__":Str))=false:=by decide):JE X (.Name x pos) (tC v):=.of (by
 exact λ_ _ _ H _ I h=>YU I hg hm ⟨v,H,I,r,h⟩ hd)
theorem jI {x:Str} {v:V} {u:Value} {pos:Pos} (hg:Gl X x) (hm:X.mg x=none) (hv:bootBuiltins x=some u) (r:qN v u) (hn:x≠"__name__":=by decide) (hd:(x==("__debug__":Str))=false:=by decide):JE X (.Name x pos) (tC v):=.of (by
 exact λ_ _ _ H _ I h=>Qf I hg hm hv ⟨v,H,I,r,h⟩ hn hd)
variable {a b:Expr} {ta tb:TE} {pos:Pos}
def PC (X:Cx) (op:CmpOp) (a b:Expr) (t:TE):Prop:=
 ∀(pins:List (Addr×Obj)) (s:Shared) (σ:St) (H:Hp) (Q:VK),qy X pins σ H s->t σ H Q->
   wpAny (model X.prog X.w) X.A (eval a X.env) (λv s₁=>wpAny (model X.prog X.w) X.A (eval b X.env) (λu s₂=>wpAny (model X.prog X.w) X.A (compareOp op v u) (EP X pins σ Q) X.xe s₂) X.xe s₁) X.xe s
@[irreducible] def JC (X:Cx) (op:CmpOp) (a b:Expr) (t:TE):Prop:=PC X op a b t
theorem JC.of {X:Cx} {op:CmpOp} {a b:Expr} {t:TE} (h:PC X op a b t):JC X op a b t:=by unfold JC;exact h
theorem JC.to {X:Cx} {op:CmpOp} {a b:Expr} {t:TE} (h:JC X op a b t):PC X op a b t:=by unfold JC at h;exact h
def tB (t:TE):TT:=λσ H Q=>t σ H λx H1=>∃c,x=.bl c/\Q c H1
theorem zr {op:CmpOp} {t:TE} (h:JC X op a b t) (h1:behindInMarks op b=false:=by first | exact nobehind _ (by decide) (by decide) | rfl):JT X (.Compare a [op] [b] pos) (tB t):=.of (by
 have h:=h.to
 intro pins s σ H Q I hw
 refine wpAny_isTrue_Compare1 (ja (h pins s σ H _ I hw) λv s1 h1=>ja h1 λu s2 h2=>ja h2 λc s3 ⟨x,H1,I1,r1,q1⟩=>?_) h1
 obtain⟨d,rfl,q⟩:=q1
 cases r1
 exact wpAny_truthy_bool ⟨H1,I1,q⟩)
theorem jr {e:Expr} {t:TE} (h:JE X e t) (he:∀whole,isTrue e X.env whole=(do let v <-whole;standAt e.pos;holding [v] (truthy v)):=by intro _;rfl):JT X e (tB t):=.of (by
 have h:=h.to
 intro pins s σ H Q I hw
 refine isTrue_plain (ja (h pins s σ H _ I hw) λv s1 ⟨x,H1,I1,r1,q1⟩=>?_) (he _)
 obtain⟨d,rfl,q⟩:=q1
 cases r1
 exact wpAny_truthy_bool ⟨H1,I1,q⟩)
variable {tA tB':TT} {rest:List Expr}
def Kt (t u:TT):TT:=λσ H Q=>t σ H λc H1=>if c=true then u σ H1 Q else Q false H1
def tOr (t u:TT):TT:=λσ H Q=>t σ H λc H1=>if c=true then Q true H1 else u σ H1 Q
def wN (t:TT):TT:=λσ H Q=>t σ H λc H1=>Q (!c) H1
theorem jZ (ha:JT X a tA):JW X (.BoolOp .And [a] pos) tA:=.of (by
 have ha:=ha.to
 intro wh pins s σ H Q I h
 refine isTrue_and (ja (ha pins s σ H Q I h) λc s1 e=>?_)
 cases c with
 | true=>exact isTrue_and_nil e
 | false=>exact e)
theorem jR (ha:JT X a tA):JW X (.BoolOp .Or [a] pos) tA:=.of (by
 have ha:=ha.to
 intro wh pins s σ H Q I h
 refine isTrue_or (ja (ha pins s σ H Q I h) λc s1 e=>?_)
 cases c with
 | false=>exact isTrue_or_nil e
 | true=>exact e)
theorem Qg (ha:JT X a tA) (hb:JW X (.BoolOp .And (b::rest) pos) tB'):JW X (.BoolOp .And (a::b::rest) pos) (Kt tA tB'):=.of (by
 have ha:=ha.to
 have hb:=hb.to
 intro wh pins s σ H Q I h
 refine isTrue_and (ja (ha pins s σ H _ I h) λc s1 ⟨H1,I1,q1⟩=>?_)
 cases c with
 | true=>exact hb wh pins s1 σ H1 Q I1 q1
 | false=>exact⟨H1,I1,q1⟩)
theorem Qi (ha:JT X a tA) (hb:JW X (.BoolOp .Or (b::rest) pos) tB'):JW X (.BoolOp .Or (a::b::rest) pos) (tOr tA tB'):=.of (by
 have ha:=ha.to
 have hb:=hb.to
 intro wh pins s σ H Q I h
 refine isTrue_or (ja (ha pins s σ H _ I h) λc s1 ⟨H1,I1,q1⟩=>?_)
 cases c with
 | true=>exact⟨H1,I1,q1⟩
 | false=>exact hb wh pins s1 σ H1 Q I1 q1)
theorem jG (ha:JT X a tA):JT X (.UnaryOp .Not a pos) (wN tA):=.of (by
 have ha:=ha.to
 intro pins s σ H Q I h
 exact isTrue_not (ha pins s σ H (λc H1=>Q (!c) H1) I h))
def UL (ta tb:TE):TE:=λσ H Q=>ta σ H λx H1=>∃c,x=.bl c/\if c=true then tb σ H1 Q else Q (.bl false) H1
def Kg (ta:TE):TE:=λσ H Q=>ta σ H λx H1=>∃c,x=.bl c/\Q (.bl (!c)) H1
theorem Qh {op} {t:TE} (h:JE X a t):JE X (.BoolOp op [a] pos) t:=.of (by
 have h:=h.to
 exact λpins s σ H Q I hw=>BoolOp_one (h pins s σ H Q I hw))
theorem jS (ha:JE X a ta) (hb:JE X (.BoolOp .And (b::rest) pos) tb):JE X (.BoolOp .And (a::b::rest) pos) (UL ta tb):=.of (by
 have ha:=ha.to
 have hb:=hb.to
 intro pins s σ H Q I h
 refine BoolOp_and (ja (ha pins s σ H _ I h) λv s1 ⟨x,H1,I1,r1,q1⟩=>?_)
 obtain⟨c,rfl,q1⟩:=q1
 cases r1
 refine wpAny_truthy_bool ?_
 cases c with
 | true=>exact hb pins s1 σ H1 Q I1 q1
 | false=>exact⟨.bl false,H1,I1,rfl,q1⟩)
theorem kj (ha:JE X a ta):JE X (.UnaryOp .Not a pos) (Kg ta):=.of (by
 have ha:=ha.to
 intro pins s σ H Q I h
 refine UnaryOp_ (ja (ha pins s σ H _ I h) λv s1 ⟨x,H1,I1,r1,q1⟩=>?_)
 obtain⟨c,rfl,q1⟩:=q1
 cases r1
 exact not_of (wpAny_truthy_bool ⟨.bl (!c),H1,I1,rfl,q1⟩))
end
end L2
namespace L2
open PySem PySem.Spec PyProof.Rows
def SqL (K:PySem.W.Frag) (H:Hp) (a:Addr) (xs:List V):Prop:=
 Rd H a (.lst xs)\/
   ∃(o:Obj) (its:Array Value) (n:Nat),K.lookup a=some o/\o.cls=.type "list"/\o.dict=none/\o.data=.seq its n/\its.size<=sizeLine/\qL xs its.toList
def SqT (K:PySem.W.Frag) (H:Hp) (a:Addr) (xs:List V):Prop:=
 Rd H a (.tup xs)\/
   ∃(o:Obj) (its:Array Value) (n:Nat),K.lookup a=some o/\o.cls=.type "tuple"/\o.data=.seq its n/\its.size<=sizeLine/\qL xs its.toList
def RS:Value->Option V
 | .none=>some .non
 | .bool b=>some (.bl b)
 | .int i _=>some (.int i)
 | .str x _=>some (.str x)
 | .bytes b _=>some (.byt b)
 | .float b _=>some (.flt b)
 | .ref a=>some (.ref a)
 | .type n=>some (.ty n)
 | _=>none
theorem qN.abs {x:V} {u:Value} (r:qN x u):RS u=some x:=by
 cases x with
 | non=>cases r;rfl
 | bl _=>cases r;rfl
 | int _=>obtain⟨t,rfl⟩:=r;rfl
 | str _=>obtain⟨t,rfl⟩:=r;rfl
 | byt _=>obtain⟨t,rfl⟩:=r;rfl
 | flt _=>obtain⟨t,rfl⟩:=r;rfl
 | ref _=>cases r;rfl
 | ty _=>cases r;rfl
theorem qN.inj {x y:V} {u:Value} (r:qN x u) (q:qN y u):x=y:=Option.some.inj (r.abs.symm.trans q.abs)
theorem qL.inj:∀{xs ys:List V} {us:List Value},qL xs us->qL ys us->xs=ys
 | _,_,_,.nil,.nil=>rfl
 | _,_,_,.cons r t,.cons r' t'=>by rw[r.inj r',qL.inj t t']
section
variable {X:Cx} {pins:List (Addr×Obj)} {σ:St} {H:Hp} {s:Shared} {a:Addr} {xs ys:List V}
theorem SqL.of {K:PySem.W.Frag} (h:H a=some (.lst xs)):SqL K H a xs:=.inl (.inl h)
theorem SqT.of {K:PySem.W.Frag} (h:H a=some (.tup xs)):SqT K H a xs:=.inl (.inl h)
theorem qy.list (I:qy X pins σ H s) (h:SqL X.K H a xs):∃its:List Value,qL xs its/\PlainL s.heap a its.toArray/\xs.length<=sizeLine:=by
 rcases h with h | ⟨o,its,n,hk,hc,hd,hs,hz,r⟩
 . obtain⟨z,its,n,r,e⟩:=h.ok I.hok
   exact⟨its,r,⟨_,n,e,rfl,rfl,rfl⟩,z⟩
 . refine⟨its.toList,r,⟨o,n,I.kIn a o hk,hc,hd,by simpa using hs⟩,?_⟩
   have e:=r.length
   simp only[Array.length_toList]at e
   omega
theorem qy.tuple (I:qy X pins σ H s) (h:SqT X.K H a xs):∃its:List Value,qL xs its/\IsTup s.heap a its.toArray/\xs.length<=sizeLine:=by
 rcases h with h | ⟨o,its,n,hk,hc,hs,hz,r⟩
 . obtain⟨z,its,r,p⟩:=h.ok I.hok
   exact⟨its,r,p,z⟩
 . refine⟨its.toList,r,⟨o,I.kIn a o hk,hc,n,by simpa using hs⟩,?_⟩
   have e:=r.length
   simp only[Array.length_toList]at e
   omega
theorem qy.list_inj (I:qy X pins σ H s) (h:SqL X.K H a xs) (h':SqL X.K H a ys):xs=ys:=by
 obtain⟨its,r,⟨o,n,e,_,_,d⟩,_⟩:=I.list h
 obtain⟨its',r',⟨o',n',e',_,_,d'⟩,_⟩:=I.list h'
 rw[e]at e';cases e'
 rw[d]at d'
 injection d' with d1 _
 have:its=its':=by simpa using congrArg Array.toList d1
 subst this
 exact r.inj r'
theorem qy.tuple_inj (I:qy X pins σ H s) (h:SqT X.K H a xs) (h':SqT X.K H a ys):xs=ys:=by
 obtain⟨its,r,⟨o,e,_,n,d⟩,_⟩:=I.tuple h
 obtain⟨its',r',⟨o',e',_,n',d'⟩,_⟩:=I.tuple h'
 rw[e]at e';cases e'
 rw[d]at d'
 injection d' with d1 _
 have:its=its':=by simpa using congrArg Array.toList d1
 subst this
 exact r.inj r'
end
abbrev Cx.wish (X:Cx) (E:Value->Shared->Prop):Cx:={X with xe:=E}
abbrev Cx.nox (X:Cx):Cx:=X.wish λ_ _=>False
theorem Cx.Ok.wish {X:Cx} (ok:X.Ok) (E:Value->Shared->Prop):(X.wish E).Ok:=
 ⟨ok.mod,ok.kind,ok.glob,ok.blt,ok.above,ok.inj,ok.has,ok.cab,ok.hd,ok.frames,ok.stk,ok.exf,ok.bs,ok.bsz,ok.noex,ok.exfs,ok.funs,ok.frf⟩
theorem Cx.Ok.unwish {X:Cx} {E:Value->Shared->Prop} (ok:(X.wish E).Ok):X.Ok:=
 ⟨ok.mod,ok.kind,ok.glob,ok.blt,ok.above,ok.inj,ok.has,ok.cab,ok.hd,ok.frames,ok.stk,ok.exf,ok.bs,ok.bsz,ok.noex,ok.exfs,ok.funs,ok.frf⟩
section
variable {X:Cx} {pins:List (Addr×Obj)} {σ:St} {H:Hp} {s:Shared} {E:Value->Shared->Prop}
theorem qy.wish (I:qy X pins σ H s) (E:Value->Shared->Prop):qy (X.wish E) pins σ H s:=⟨I.ok.wish E,I.os,I.bare,I.base,I.loc,I.cell,I.free,I.freeC,I.pin,I.hok,I.len⟩
theorem qy.unwish (I:qy (X.wish E) pins σ H s):qy X pins σ H s:=⟨I.ok.unwish,I.os,I.bare,I.base,I.loc,I.cell,I.free,I.freeC,I.pin,I.hok,I.len⟩
theorem SP.unwish {D:QE} {f:Flow} {s':Shared} (h:SP (X.wish E) pins D f s'):SP X pins D f s':=by
 cases f with
 | next=>obtain⟨σ',H',I,q⟩:=h;exact⟨σ',H',I.unwish,q⟩
 | brk=>obtain⟨σ',H',I,q⟩:=h;exact⟨σ',H',I.unwish,q⟩
 | cont=>obtain⟨σ',H',I,q⟩:=h;exact⟨σ',H',I.unwish,q⟩
 | ret u=>obtain⟨v,σ',H',I,r,q⟩:=h;exact⟨v,σ',H',I.unwish,r,q⟩
theorem wI.nox {st:List Stmt} {t:TS} (h:wI X.nox st t):wI X st t:=λpins s σ H D I hw=>
 wpAny_mono (h pins s σ H D (I.wish _) hw) (λ_ _ q=>q.unwish) λ_ _ z=>False.elim z
end
section
variable {X:Cx} {st:Stmt} {rest:List Stmt} {t u:TS} {e:Expr} {te:TE} {pos:Pos}
def Xn:TS:=λD σ H=>D.nx σ H
def yi (t u:TS):TS:=λD σ H=>t {D with nx:=u D} σ H
theorem qA:Xf X [] Xn:=.of (by
 exact λ_ _ σ H _ I h=>wpAny_execs_nil ⟨σ,H,I,h⟩)
theorem qg (h1:JS X st t) (h2:Xf X rest u):Xf X (st::rest) (yi t u):=.of (by
 have h1:=h1.to
 have h2:=h2.to
 intro pins s σ H D I h
 refine wpAny_execs_cons (ja (h1 pins s σ H {D with nx:=u D} I h) λf s1 q=>?_)
 cases f with
 | next=>
   obtain⟨σ',H',I',q⟩:=q
   exact h2 pins s1 σ' H' D I' q
 | ret v=>exact q
 | brk=>exact q
 | cont=>exact q)
theorem ql (h1:JS X st t):Xf X [st] t:=.of (by
 have h1:=h1.to
 intro pins s σ H D I h
 refine wpAny_execs_cons (ja (h1 pins s σ H D I h) λf s1 q=>?_)
 cases f with
 | next=>exact wpAny_execs_nil q
 | ret v=>exact q
 | brk=>exact q
 | cont=>exact q)
def Kr:TS:=λD σ H=>D.ct σ H
theorem XH:JS X (.Continue pos) Kr:=.of (by
 exact λ_ _ σ H _ I h=>wpAny_Continue ⟨σ,H,I,h⟩)
theorem qy.quiet {pins:List (Addr×Obj)} {σ:St} {H:Hp} {s:Shared} (I:qy X pins σ H s):interactive X.env=false:=by simp [interactive,I.ok.kind]
def Kn (te:TE):TS:=λD σ H=>te σ H λ_ H1=>D.nx σ H1
theorem j5 (he:JE X e te) (hs:swapsWith e none pos.line X.env=pure false:=by rfl):JS X (.Expr e pos) (Kn te):=.of (by
 have he:=he.to
 intro pins s σ H D I h
 exact wpAny_Expr_any (ja (he pins s σ H _ I h) λv s1 ⟨x,H1,I1,r1,q1⟩=>⟨σ,H1,I1,q1⟩) I.quiet hs)
def Ke (te:TE):TS:=λD σ H=>te σ H D.rt
theorem qG (he:JE X e te):JS X (.Return (some e) pos) (Ke te):=.of (by
 have he:=he.to
 intro pins s σ H D I h
 exact wpAny_Return_some (ja (he pins s σ H _ I h) λv s1 ⟨x,H1,I1,r1,q1⟩=>⟨x,σ,H1,I1,r1,q1⟩))
def yk (c:TT) (t u:TS):TS:=λD σ H=>c σ H λb H1=>if b=true then t D σ H1 else u D σ H1
theorem qS {c:Expr} {a b:List Stmt} {tc:TT} (hc:JT X c tc) (ha:Xf X a t) (hb:Xf X b u):JS X (.If c a b pos) (yk tc t u):=.of (by
 have hc:=hc.to
 have ha:=ha.to
 have hb:=hb.to
 intro pins s σ H D I h
 refine wpAny_If (ja (hc pins s σ H _ I h) λd s1 ⟨H1,I1,q1⟩=>?_)
 cases d with
 | true=>exact ha pins s1 σ H1 D I1 q1
 | false=>exact hb pins s1 σ H1 D I1 q1)
def wO:TS:=λ_ _ _=>False
theorem jH {sts:List Stmt}:Xf X sts wO:=.of (by
 exact λ_ _ _ _ _ _ h=>h.elim)
end
abbrev TG:=V->St->Hp->(St->Hp->Prop)->Prop
abbrev k9:=List V->St->Hp->(St->Hp->Prop)->Prop
def PG (X:Cx) (target:Expr) (t:TG):Prop:=
 ∀(pins:List (Addr×Obj)) (s:Shared) (σ:St) (H:Hp) (v:V) (u:Value) (Q:St->Hp->Prop),qy X pins σ H s->qN v u->t v σ H Q->
   wpAny (model X.prog X.w) X.A (assign target X.env u) (λ_ s'=>∃σ' H',qy X pins σ' H' s'/\Q σ' H') X.xe s
@[irreducible] def JG (X:Cx) (target:Expr) (t:TG):Prop:=PG X target t
theorem JG.of {X:Cx} {target:Expr} {t:TG} (h:PG X target t):JG X target t:=by unfold JG;exact h
theorem JG.to {X:Cx} {target:Expr} {t:TG} (h:JG X target t):PG X target t:=by unfold JG at h;exact h
def RV (X:Cx) (ts:List Expr) (t:k9):Prop:=
 ∀(pins:List (Addr×Obj)) (s:Shared) (σ:St) (H:Hp) (vs:List V) (us:List Value) (Q:St->Hp->Prop),qy X pins σ H s->qL vs us->t vs σ H Q->
   wpAny (model X.prog X.w) X.A (assignInOrder ((assignEach ts X.env).map (·.2)) us) (λ_ s'=>∃σ' H',qy X pins σ' H' s'/\Q σ' H') X.xe s
@[irreducible] def yc (X:Cx) (ts:List Expr) (t:k9):Prop:=RV X ts t
theorem yc.of {X:Cx} {ts:List Expr} {t:k9} (h:RV X ts t):yc X ts t:=by unfold yc;exact h
theorem yc.to {X:Cx} {ts:List Expr} {t:k9} (h:yc X ts t):RV X ts t:=by unfold yc at h;exact h
abbrev G0:=V->V->Hp->VK->Prop
def PIp (X:Cx) (op:Operator) (t:G0):Prop:=
 ∀(pins:List (Addr×Obj)) (s:Shared) (σ:St) (H:Hp) (x y:V) (v u:Value) (Q:VK),qy X pins σ H s->qN x v->qN y u->t x y H Q->
   wpAny (model X.prog X.w) X.A (inplaceOp op v u) (EP X pins σ Q) X.xe s
section
variable {X:Cx} {pos:Pos}
def j9 (i:Nat):TG:=λv σ H Q=>Q (σ.set i (some v)) H
theorem qz {i:Nat} {x:Str} (hN:X.N.Nodup) (hi:X.N[i]?=some x) (hx:u0 X.env.scope x) (hf:X.fn x=true\/X.env.scope.names.lookup x=some .local:=by first | exact .inl rfl | exact .inr rfl | assumption):JG X (.Name x pos) (j9 i):=.of (by
 intro pins s σ H v u Q I r h
 exact wpAny_assign_Name (ZW I hN hi hx r (λs' I'=>⟨_,H,I',h⟩) hf))
def xI:k9:=λvs σ H Q=>vs=[]/\Q σ H
def zD (t:TG) (u:k9):k9:=λvs σ H Q=>∃v r,vs=v::r/\t v σ H λσ' H'=>u r σ' H' Q
theorem Zb:yc X [] xI:=.of (by
 intro pins s σ H vs us Q I r h
 obtain⟨e,h⟩:=h
 subst e
 cases r
 exact assignInOrder_nil ⟨σ,H,I,h⟩)
theorem jM {e:Expr} {es:List Expr} {t:TG} {u:k9} (h1:JG X e t) (h2:yc X es u) (hs:(assignEach (e::es) X.env).map (·.2)=assign e X.env::(assignEach es X.env).map (·.2):=by rfl):yc X (e::es) (zD t u):=.of (by
 have h1:=h1.to
 have h2:=h2.to
 intro pins s σ H vs us Q I r h
 obtain⟨v,vr,e1,h⟩:=h
 subst e1
 cases r with
 | cons r rr=>
   rw[hs]
   refine assignInOrder_cons (ja (h1 pins s σ H _ _ _ I r h) λ_ s1 ⟨σ1,H1,I1,q1⟩=>?_)
   exact h2 pins s1 σ1 H1 _ _ Q I1 rr q1)
def xH (K:PySem.W.Frag) (n:Nat) (t:k9):TG:=λv σ H Q=>∃a xs,v=.ref a/\SqT K H a xs/\xs.length=n/\t xs σ H Q
theorem zu {es:List Expr} {k:Nat} {t:k9} {n:Nat} (hc:X.calm=true) (h:yc X es t) (hn:(assignEach es X.env).length=n:=by rfl) (hst:(assignEach es X.env).findIdx? (·.1)=none:=by rfl):JG X (.Tuple es k pos) (xH X.K n t):=.of (by
 have h:=h.to
 intro pins s σ H v u Q I r hw
 obtain⟨a,xs,e1,hq,hl,hw⟩:=hw
 subst e1
 cases r
 obtain⟨its,rv,ht,hz⟩:=I.tuple hq
 refine assign_Tuple_tuple (I.ok.hd hc) ht (by simp [hn,<-hl,rv.length]) hst λh' hx=>?_
 have I1:qy X pins σ H {s with heap:=h'}:=I.kept (t':=s.toks) λb o e=>hx b o (Nat.ne_of_lt (Heap.lt_size e)) e
 exact h pins _ σ H xs _ Q I1 (by simpa using rv) hw)
def UK (te:TE) (g:TG):TS:=λD σ H=>te σ H λx H1=>g x σ H1 D.nx
theorem uJ {tg e:Expr} {te:TE} {g:TG} (he:JE X e te) (hg:JG X tg g) (hs:swapsWithSole [tg] e pos.line X.env=pure false:=by rfl) (hw:swappedStores [tg] e X.env=pure none:=by rfl) (h1:(assignEach [tg] X.env).map (·.2)=[assign tg X.env]:=by rfl):JS X (.Assign [tg] e pos) (UK te g):=.of (by
 have he:=he.to
 have hg:=hg.to
 intro pins s σ H D I h
 refine wpAny_Assign_stores (ja (he pins s σ H _ I h) λv s1 ⟨x,H1,I1,r1,q1⟩=>?_) hs hw
 rw[h1]
 exact ja (hg pins s1 σ H1 x v _ I1 r1 q1) λ_ s2 q=>q)
theorem qC {i:Nat} {x:Str} {e:Expr} {te:TE} {pos':Pos} (hN:X.N.Nodup) (hi:X.N[i]?=some x) (hx:u0 X.env.scope x) (he:JE X e te) (hs:swapsWith e (some (.Name x pos')) pos.line X.env=pure false:=by rfl) (hf:X.fn x=true\/X.env.scope.names.lookup x=some .local:=by first | exact .inl rfl | exact .inr rfl | assumption):JS X (.Assign [.Name x pos'] e pos) (UK te (j9 i)):=.of (by
 have he:=he.to
 intro pins s σ H D I h
 refine wpAny_Assign_Name (ja (he pins s σ H _ I h) λv s1 ⟨y,H1,I1,r1,q1⟩=>?_) hs
 exact ZW I1 hN hi hx r1 (λs2 I2=>⟨_,H1,I2,q1⟩) hf)
def Ri (i:Nat) (te:TE) (ti:G0):TS:=λD σ H=>∃x,σ[i]?=some (some x)/\te σ H λy H1=>ti x y H1 λz H2=>D.nx (σ.set i (some z)) H2
theorem uI {i:Nat} {x:Str} {e:Expr} {te:TE} {op:Operator} {ti:G0} {pos':Pos} (hN:X.N.Nodup) (hi:X.N[i]?=some x) (hx:u0 X.env.scope x) (he:JE X e te) (ho:PIp X op ti) (hf:X.fn x=true\/X.env.scope.names.lookup x=some .local:=by first | exact .inl rfl | exact .inr rfl | assumption):JS X (.AugAssign (.Name x pos') op e pos) (Ri i te ti):=.of (by
 have he:=he.to
 intro pins s σ H D I h
 obtain⟨v,e1,h⟩:=h
 obtain⟨m,hn,hl⟩:=I.loc
 have vis:u8 X.env.scope x:=by rcases hx with k | k;exact .inl k;exact .inr (.inl k)
 obtain⟨u,r,l⟩:=hl i x v hi e1 vis
 refine wpAny_AugAssign_Name ?_
 have go:wpAny (model X.prog X.w) X.A (eval e X.env) (λw s₂=>wpAny (model X.prog X.w) X.A (inplaceOp op u w) (λr s₃=>wpAny (model X.prog X.w) X.A (storeName X.env x r) (λ_=>SP X pins D .next) X.xe s₃) X.xe s₂) X.xe s:=by
   refine ja (he pins s σ H _ I h) λw s1 ⟨y,H1,I1,r1,q1⟩=>?_
   refine ja (ho pins s1 σ H1 v y u w _ I1 r r1 q1) λz s2 ⟨zv,H2,I2,r2,q2⟩=>?_
   exact ZW I2 hN hi hx r2 (λs3 I3=>⟨_,H2,I3,q2⟩) hf
 rcases l with ⟨hk,hm⟩ | ⟨hk,c,hc,hcell⟩
 . exact wpAny_loadName_local I.ok.kind hk hn hm go
 . rcases hk with hk | hk
   . exact wpAny_loadName_cell I.ok.kind hk hc hcell go
   . rcases hx with k | k
     . have:X.env.scope.names.lookup x=some .free:=hk
       rw[k]at this;cases this
     . have:X.env.scope.names.lookup x=some .free:=hk
       rw[k]at this;cases this)
def ipI (f:Int->Int->Int):G0:=λx y H Q=>∃i j,x=.int i/\y=.int j/\Q (.int (f i j)) H
theorem uP:PIp X .Add (ipI λi j=>i+j):=by
 intro pins s σ H x y v u Q I r1 r2 h
 obtain⟨i,j,e1,e2,q⟩:=h
 subst e1;subst e2
 obtain⟨t,rfl⟩:=r1
 obtain⟨t',rfl⟩:=r2
 exact iadd_int ⟨.int _,H,I.tok _,⟨_,rfl⟩,q⟩
end
section
variable {X:Cx} {pos:Pos}
def UG (c:TT) (tb:TS):TS:=λD σ H=>∃W:Nat->St->Hp->Prop,(∃m,W m σ H)/\∀m σ H,W m σ H->
 c σ H λb H1=>if b=true then ∃N:St->Hp->Prop,(∀σ' H',N σ' H'->∃m',m' < m/\W m' σ' H')/\tb {D with nx:=N,ct:=N,bk:=D.nx} σ H1 else D.nx σ H1
theorem ke {c:Expr} {body:List Stmt} {tc:TT} {tb:TS} (hp:PassesOwn (model X.prog X.w) X.A X.env X.xe) (hc:JT X c tc) (hb:Xf X body tb):JS X (.While c body [] pos) (UG tc tb):=.of (by
 have hc:=hc.to
 have hb:=hb.to
 intro pins s σ H D I h
 obtain⟨W,⟨m0,w0⟩,turn⟩:=h
 refine wpAny_While (codeAny_whileLoop (λn s'=>∃σ' H',qy X pins σ' H' s'/\W n σ' H') ?_ m0 ⟨σ,H,I,w0⟩)
 rintro n s1 ⟨σ1,H1,I1,w1⟩
 refine wpAny_passesOwn hp (ja (hc pins s1 σ1 H1 _ I1 (turn n σ1 H1 w1)) λb s2 ⟨H2,I2,q2⟩=>?_)
 cases b with
 | true=>
   obtain⟨N,hN,q2⟩:=q2
   rw[if_pos rfl]
   refine wpAny_passesOwn hp (ja (hb pins s2 σ1 H2 _ I2 q2) λf s3 q3=>?_)
   cases f with
   | next=>
     obtain⟨σ3,H3,I3,n3⟩:=q3
     obtain⟨m',hm,w3⟩:=hN σ3 H3 n3
     exact⟨m',hm,σ3,H3,I3,w3⟩
   | cont=>
     obtain⟨σ3,H3,I3,n3⟩:=q3
     obtain⟨m',hm,w3⟩:=hN σ3 H3 n3
     exact⟨m',hm,σ3,H3,I3,w3⟩
   | brk=>exact q3
   | ret v=>exact q3
 | false=>
   rw[if_neg Bool.false_ne_true]
   exact wpAny_execs_nil ⟨σ1,H2,I2,q2⟩)
end
structure It where
 go:Nat->Hp->Prop
 yld:Nat->Hp->V->Hp->Prop
 stop:Nat->Hp->Prop
def JR (X:Cx) (pins:List (Addr×Obj)) (H:Hp) (b:Addr):Prop:=
 H b=none/\b≠X.env.locals/\b∉X.fs/\(b∈X.ex\/X.s₀.heap.objs.size<=b)/\(∀x c,X.env.cells.lookup x=some c->c≠b)/\∀p∈X.pn++pins,p.1≠b
theorem qy.fpOk {X:Cx} {pins:List (Addr×Obj)} {σ:St} {H H':Hp} {s:Shared} {b:Addr} (I:qy X pins σ H s) (hb:s.heap.objs.size<=b) (hn:H' b=none):JR X pins H' b:=by
 refine⟨hn,Nat.ne_of_gt (Nat.lt_of_lt_of_le I.lt hb),I.nofs hb,.inr (Nat.le_trans I.sz hb),λx c e z=>?_,λp hp z=>?_⟩
 . obtain⟨v,q⟩:=I.cell x c e
   exact absurd (Nat.lt_of_lt_of_le q.lt (by rw[z];exact hb)) (Nat.lt_irrefl _)
 . exact absurd (Nat.lt_of_lt_of_le (Heap.lt_size (I.pin p hp).1) (by rw[z];exact hb)) (Nat.lt_irrefl _)
structure X1 (P:Program) (w:World) (K:PySem.W.Frag) (tg:Expr) (J:It) (fp:List Addr) (it:Addr) (tn:Nat->Heap->Prop):Prop where
 mem:it∈fp
 obj:∀i h,tn i h->∀b∈fp,∃o,h.get? b=some o/\∀v,o.data≠.cell v
 keep:∀i h h',tn i h->(∀b∈fp,∀o,h.get? b=some o->h'.get? b=some o)->tn i h'
 item:∀(X:Cx),X.prog=P->X.w=w->X.K=K->X.calm=true->∀(i:Nat) (pins:List (Addr×Obj)) (s:Shared) (σ:St) (H:Hp) (E:Value->Shared->Prop),qy X pins σ H s->(∀b∈fp,JR X pins H b)->tn i s.heap->J.go i H->
   wpAny (model P w) X.A (pyNext (.ref it)) (λr s1=>∃u,r=some u/\
     wpAny (model P w) X.A (letOwnedTupleGo tg (.ref it) u) (λ_ s2=>∃x H',qy X pins σ H' s2/\qN x u/\J.yld i H x H'/\tn (i+1) s2.heap/\∀b∈fp,H' b=none) E s1) E s
 done:∀(X:Cx),X.prog=P->X.w=w->X.K=K->X.calm=true->∀(i:Nat) (pins:List (Addr×Obj)) (s:Shared) (σ:St) (H:Hp) (E:Value->Shared->Prop),qy X pins σ H s->(∀b∈fp,JR X pins H b)->tn i s.heap->J.stop i H->
   wpAny (model P w) X.A (pyNext (.ref it)) (λr s1=>r=none/\qy X pins σ H s1) E s
 self:∀(A:Around) (i:Nat) (s:Shared) (Q:Value->Shared->Prop) (E:Value->Shared->Prop),tn i s.heap->Q (.ref it) s->wpAny (model P w) A (pyIter (.ref it)) Q E s
abbrev TI:=St->Hp->(It->Hp->Prop)->Prop
def PIE (X:Cx) (pins:List (Addr×Obj)) (σ:St) (tg:Expr) (R:It->Hp->Prop) (itv:Value) (s2:Shared):Prop:=
 ∃(it:Addr) (fp:List Addr) (tn:Nat->Heap->Prop) (J:It) (H':Hp),itv=.ref it/\qy X pins σ H' s2/\X1 X.prog X.w X.K tg J fp it tn/\tn 0 s2.heap/\(∀b∈fp,JR X pins H' b)/\R J H'
def PI (X:Cx) (tg iter:Expr) (wi:TI):Prop:=
 ∀(pins:List (Addr×Obj)) (s:Shared) (σ:St) (H:Hp) (R:It->Hp->Prop),qy X pins σ H s->wi σ H R->
   wpAny (model X.prog X.w) X.A (eval iter X.env) (λv s1=>wpAny (model X.prog X.w) X.A (pyIter v) (PIE X pins σ tg R) X.xe s1) X.xe s
@[irreducible] def JI (X:Cx) (tg iter:Expr) (wi:TI):Prop:=PI X tg iter wi
theorem JI.of {X:Cx} {tg iter:Expr} {wi:TI} (h:PI X tg iter wi):JI X tg iter wi:=by unfold JI;exact h
theorem JI.to {X:Cx} {tg iter:Expr} {wi:TI} (h:JI X tg iter wi):PI X tg iter wi:=by unfold JI at h;exact h
theorem XM {M:Model} {A:Around} {E:Value->Shared->Prop} {s:Shared} {tg:Expr} {it:Addr} {u:Value} {o:Obj} {n:String} {vs:Array Value} {Q:Unit->Shared->Prop} (ho:s.heap.get? it=some o) (hc:o.cls=.type n) (hd:o.data=.fields vs)
   (hn:["enumerate","zip","dict_itemiterator","dict_reverseitemiterator","odict_iterator","itertools.zip_longest","itertools.pairwise"].contains n=false) (hQ:Q () s):wpAny M A (letOwnedTupleGo tg (.ref it) u) Q E s:=by
 unfold letOwnedTupleGo
 cases tg<;>first
   | exact wpAny_pure hQ
   | (cases u<;>first
       | exact wpAny_pure hQ
       | (refine wpAny_bind (wpAny_load ho ?_)
          rw[hc,hd]
          show wpAny M A (if (["enumerate","zip","dict_itemiterator","dict_reverseitemiterator","odict_iterator","itertools.zip_longest","itertools.pairwise"].contains n&&vs[0]?==some (rawInt _))=true then _ else _) Q E s
          rw[if_neg (by intro h;rw[hn,Bool.false_and]at h;cases h)]
          exact wpAny_pure hQ))
def xW (K:PySem.W.Frag) (a:Addr):It:=
 ⟨λi H=>∃xs x,SqL K H a xs/\xs[i]?=some x,λi H x H'=>H'=H/\∀xs,SqL K H a xs->xs[i]?=some x,λi H=>∃xs,SqL K H a xs/\xs.length<=i⟩
def u1 (K:PySem.W.Frag) (a:Addr):It:=
 ⟨λi H=>∃xs x,SqT K H a xs/\xs[i]?=some x,λi H x H'=>H'=H/\∀xs,SqT K H a xs->xs[i]?=some x,λi H=>∃xs,SqT K H a xs/\xs.length<=i⟩
def u2 (lo:Int) (n:Nat):It:=⟨λi _=>i < n,λi H x H'=>H'=H/\x=.int (lo+i),λi _=>n<=i⟩
theorem Vy {P:Program} {w:World} {K:PySem.W.Frag} {tg:Expr} (a it:Addr):X1 P w K tg (xW K a) [it] it (λi h=>h.IsListIter it a i) where
 mem:=by simp
 obj:=λi h st b hb=>by
   have e:b=it:=by simpa using hb
   subst e
   obtain⟨o,e,c,d⟩:=st
   exact⟨o,e,λv z=>by rw[d]at z;cases z⟩
 keep:=λi h h' st k=>st.at λo e=>k it (by simp) o e
 item:=by
   intro X hP hw hK hc i pins s σ H E I hf st hg
   subst hP hw hK
   obtain⟨xs,x,hq,hx⟩:=hg
   obtain⟨its,rv,p,hz⟩:=I.list hq
   obtain⟨u,hu,ru⟩:=rv.get hx
   obtain⟨f0,f1,f2,f3,f4,f5⟩:=hf it (by simp)
   refine wpAny_pyNext_list_item st p.isList (x:=u) (by simpa using hu) λh' st' sb=>?_
   have I1:qy X pins σ H {s with heap:=h'}:=I.turned (t':=s.toks) (λb o hb e=>(sb.2 b hb).trans e) f0 f1 f3 f4 f5
   obtain⟨o,e,c,d⟩:=id st'
   exact⟨u,rfl,XM (s:={s with heap:=h'}) e c d (by decide) ⟨x,H,I1,ru,⟨rfl,λys hy=>by rw[I.list_inj hy hq];exact hx⟩,st',λb hb=>(hf b hb).1⟩⟩
 done:=by
   intro X hP hw hK hc i pins s σ H E I hf st hg
   subst hP hw hK
   obtain⟨xs,hq,hx⟩:=hg
   obtain⟨its,rv,p,hz⟩:=I.list hq
   obtain⟨f0,f1,f2,f3,f4,f5⟩:=hf it (by simp)
   have hl:=rv.length
   exact wpAny_pyNext_list_end (I.ok.hd hc) st p.isList (by simp;omega) λh' eb=>⟨rfl,I.turned (t':=s.toks) (λb o hb e=>eb b o hb e) f0 f1 f3 f4 f5⟩
 self:=λ_ _ _ _ _ st h=>wpAny_pyIter_listiter st h
theorem X5 {P:Program} {w:World} {K:PySem.W.Frag} {tg:Expr} (a it:Addr):X1 P w K tg (u1 K a) [it] it (λi h=>h.IsTupleIter it a i) where
 mem:=by simp
 obj:=λi h st b hb=>by
   have e:b=it:=by simpa using hb
   subst e
   obtain⟨o,e,c,d⟩:=st
   exact⟨o,e,λv z=>by rw[d]at z;cases z⟩
 keep:=λi h h' st k=>st.at λo e=>k it (by simp) o e
 item:=by
   intro X hP hw hK hc i pins s σ H E I hf st hg
   subst hP hw hK
   obtain⟨xs,x,hq,hx⟩:=hg
   obtain⟨its,rv,p,hz⟩:=I.tuple hq
   obtain⟨u,hu,ru⟩:=rv.get hx
   obtain⟨f0,f1,f2,f3,f4,f5⟩:=hf it (by simp)
   refine wpAny_pyNext_tuple_item st (show s.heap.IsTuple a its.toArray from p) (x:=u) (by simpa using hu) λh' st' sb=>?_
   have I1:qy X pins σ H {s with heap:=h'}:=I.turned (t':=s.toks) (λb o hb e=>(sb.2 b hb).trans e) f0 f1 f3 f4 f5
   obtain⟨o,e,c,d⟩:=id st'
   exact⟨u,rfl,XM (s:={s with heap:=h'}) e c d (by decide) ⟨x,H,I1,ru,⟨rfl,λys hy=>by rw[I.tuple_inj hy hq];exact hx⟩,st',λb hb=>(hf b hb).1⟩⟩
 done:=by
   intro X hP hw hK hc i pins s σ H E I hf st hg
   subst hP hw hK
   obtain⟨xs,hq,hx⟩:=hg
   obtain⟨its,rv,p,hz⟩:=I.tuple hq
   obtain⟨f0,f1,f2,f3,f4,f5⟩:=hf it (by simp)
   have hl:=rv.length
   exact wpAny_pyNext_tuple_end (I.ok.hd hc) st (show s.heap.IsTuple a its.toArray from p) (by simp;omega) λh' eb=>⟨rfl,I.turned (t':=s.toks) (λb o hb e=>eb b o hb e) f0 f1 f3 f4 f5⟩
 self:=λ_ _ _ _ _ st h=>wpAny_pyIter_tupleiter st h
theorem X6 {P:Program} {w:World} {K:PySem.W.Frag} {tg:Expr} (it:Addr) (lo:Int) (n:Nat):X1 P w K tg (u2 lo n) [it] it (λi h=>IsRangeIter h it (lo+(i:Nat)*1) ((n:Int) - (i:Nat)) 1) where
 mem:=by simp
 obj:=λi h st b hb=>by
   have e:b=it:=by simpa using hb
   subst e
   exact⟨_,st,λv z=>by
     have z':Data.fields _=Data.cell v:=z
     cases z'⟩
 keep:=λi h h' st k=>k it (by simp) _ st
 item:=by
   intro X hP hw hK hc i pins s σ H E I hf st hg
   subst hP hw hK
   obtain⟨f0,f1,f2,f3,f4,f5⟩:=hf it (by simp)
   have W:=Walks.range (prog:=X.prog) (w:=X.w) (I.ok.hd hc) it lo 1 n
   refine W.item i s _ _ hg st λv h' tk hv st' kk=>?_
   obtain⟨t,rfl⟩:=hv
   have I1:qy X pins σ H {s with heap:=h',toks:=tk}:=I.turned (λb o hb e=>kk b o (by simpa using hb) e) f0 f1 f3 f4 f5
   refine⟨_,rfl,XM (s:={s with heap:=h',toks:=tk}) (n:="range_iterator") st' rfl rfl (by decide) ⟨.int (lo+i),H,I1,⟨t,?_⟩,⟨rfl,rfl⟩,st',λb hb=>(hf b hb).1⟩⟩
   rw[Int.mul_one]
 done:=by
   intro X hP hw hK hc i pins s σ H E I hf st hg
   subst hP hw hK
   obtain⟨f0,f1,f2,f3,f4,f5⟩:=hf it (by simp)
   exact wpAny_pyNext_range_end (I.ok.hd hc) st (by have:n<=i:=hg;omega) λh' eb=>⟨rfl,I.turned (t':=s.toks) (λb o hb e=>eb b o hb e) f0 f1 f3 f4 f5⟩
 self:=λ_ _ _ _ _ st h=>wpAny_pyIter_rangeiter st h
end L2
namespace L2
open PySem PySem.Spec PyProof.Rows
section
variable {X:Cx} {tg:Expr}
def K9 (K:PySem.W.Frag) (tl:TE):TI:=λσ H R=>tl σ H λx H1=>∃a,x=.ref a/\(∃xs,SqL K H1 a xs)/\R (xW K a) H1
def RM (K:PySem.W.Frag) (tl:TE):TI:=λσ H R=>tl σ H λx H1=>∃a,x=.ref a/\(∃xs,SqT K H1 a xs)/\R (u1 K a) H1
theorem qT {l:Expr} {tl:TE} (hl:JE X l tl):JI X tg l (K9 X.K tl):=.of (by
 have hl:=hl.to
 intro pins s σ H R I h
 refine ja (hl pins s σ H _ I h) λv s1 ⟨x,H1,I1,r1,q1⟩=>?_
 obtain⟨a,e,⟨xs,hq⟩,q⟩:=q1
 subst e
 cases r1
 obtain⟨its,rv,p,hz⟩:=I1.list hq
 refine wpAny_pyIter_list p.isList ?_
 refine⟨s1.heap.objs.size,[s1.heap.objs.size],_,_,H1,rfl,I1.kept (t':=s1.toks) λb o e=>Heap.get?_push_of_some _ e,Vy a _,⟨_,Heap.get?_push_size _ rfl,rfl,rfl⟩,λb hb=>?_,q⟩
 have e:b=s1.heap.objs.size:=by simpa using hb
 subst e
 exact I1.fpOk (Nat.le_refl _) (I1.hok.fresh (Nat.le_refl _)))
theorem Wp {l:Expr} {tl:TE} (hl:JE X l tl):JI X tg l (RM X.K tl):=.of (by
 have hl:=hl.to
 intro pins s σ H R I h
 refine ja (hl pins s σ H _ I h) λv s1 ⟨x,H1,I1,r1,q1⟩=>?_
 obtain⟨a,e,⟨xs,hq⟩,q⟩:=q1
 subst e
 cases r1
 obtain⟨its,rv,p,hz⟩:=I1.tuple hq
 refine wpAny_pyIter_tuple (show s1.heap.IsTuple a its.toArray from p) ?_
 refine⟨s1.heap.objs.size,[s1.heap.objs.size],_,_,H1,rfl,I1.kept (t':=s1.toks) λb o e=>Heap.get?_push_of_some _ e,X5 a _,⟨_,Heap.get?_push_size _ rfl,rfl,rfl⟩,λb hb=>?_,q⟩
 have e:b=s1.heap.objs.size:=by simpa using hb
 subst e
 exact I1.fpOk (Nat.le_refl _) (I1.hok.fresh (Nat.le_refl _)))
theorem U7 {pins:List (Addr×Obj)} {σ:St} {H:Hp} {s:Shared} {R:It->Hp->Prop} {E:Value->Shared->Prop} {lo hi:Int} {t u v:Tok} {tk:Nat} (I:qy X pins σ H s) (h1:-(2^62)<=lo) (h2:lo < 2^62) (h3:-(2^62)<=hi) (h4:hi < 2^62)
   (q:R (u2 lo (hi - lo).toNat) H):wpAny (model X.prog X.w) X.A (pyIter (.ref s.heap.objs.size)) (PIE X pins σ tg R) E {s with heap:=s.heap.push {cls:=.type "range",data:=.fields #[.int lo t,.int hi u,.int 1 v]},toks:=tk}:=by
 refine wpAny_pyIter_range (IsRange.new ..) (small_one h1 h2 h3 h4) ?_
 have I1:qy X pins σ H {s with heap:=s.heap.push {cls:=.type "range",data:=.fields #[.int lo t,.int hi u,.int 1 v]},toks:=tk}:=I.kept λb o e=>Heap.get?_push_of_some _ e
 refine⟨(s.heap.push {cls:=.type "range",data:=.fields #[.int lo t,.int hi u,.int 1 v]}).objs.size,[(s.heap.push {cls:=.type "range",data:=.fields #[.int lo t,.int hi u,.int 1 v]}).objs.size],_,_,H,rfl,
   I1.kept (t':=tk) λb o e=>Heap.get?_push_of_some _ e,X6 _ lo (hi - lo).toNat,?_,λb hb=>?_,q⟩
 . have e1:lo+((0:Nat):Int)*1=lo:=by simp
   have e2:(((hi - lo).toNat:Nat):Int) - ((0:Nat):Int)=Builtin.Range.rangeSize lo hi 1:=by rw[rangeSize_one];split<;>omega
   show IsRangeIter _ _ (lo+((0:Nat):Int)*1) ((((hi - lo).toNat:Nat):Int) - ((0:Nat):Int)) 1
   rw[e1,e2]
   exact Heap.get?_push_size _ rfl
 . have e:b=(s.heap.push {cls:=.type "range",data:=.fields #[.int lo t,.int hi u,.int 1 v]}).objs.size:=by simpa using hb
   subst e
   exact I1.fpOk (Nat.le_refl _) (I1.hok.fresh (Nat.le_refl _))
def K8 (ta:TA):TI:=λσ H R=>ta σ H λvs H1=>∃j:Int,vs=[.int j]/\-(2^62)<=j/\j < 2^62/\R (u2 0 j.toNat) H1
theorem jV {a:Expr} {ta:TA} {p pos:Pos} (hg:Gl X "range") (hm:X.mg "range"=none) (ha:JA X [a] ta) (hs:starEach [a] X.env=[(false,eval a X.env)]:=by rfl):JI X tg (.Call (.Name "range" p) [a] [] pos) (K8 ta):=.of (by
 have ha:=ha.to
 intro pins s σ H R I h
 refine Call_ (Qf I hg hm boot_range (PyProof.Rows.callWith_type1 (ja (ha pos pins s σ H _ I h) λus s1 ⟨vs,H1,I1,r1,q1⟩=>?_) hs rfl))
 obtain⟨j,e,q1,q2,q⟩:=q1
 subst e
 cases r1 with
 | cons r rr=>
   cases rr
   obtain⟨t,rfl⟩:=r
   exact call_range_1 (U7 I1 (by omega) (by omega) q1 q2 (by simpa using q)))
def Re (wi:TI) (g:TG) (tb:TS):TS:=λD σ H=>wi σ H λJ H1=>∃W:Nat->Nat->St->Hp->Prop,(∃m,W 0 m σ H1)/\∀i m σ H,W i m σ H->
 (J.stop i H/\D.nx σ H)\/(J.go i H/\∃N:St->Hp->Prop,(∀σ' H',N σ' H'->∃m',m' < m/\W (i+1) m' σ' H')/\∀x H',J.yld i H x H'->g x σ H' λσ2 H2=>tb {D with nx:=N,ct:=N,bk:=D.nx} σ2 H2)
def zd (fp:List Addr) (h:Heap):List (Addr×Obj):=fp.filterMap λb=>(h.get? b).map λo=>(b,o)
theorem QS {fp:List Addr} {h:Heap} {b:Addr} {o:Obj} (hb:b∈fp) (e:h.get? b=some o):(b,o)∈zd fp h:=List.mem_filterMap.mpr ⟨b,hb,by rw[e];rfl⟩
theorem VY {fp:List Addr} {h:Heap} {p:Addr×Obj} (hp:p∈zd fp h):p.1∈fp/\h.get? p.1=some p.2:=by
 obtain⟨b,hb,e⟩:=List.mem_filterMap.mp hp
 cases q:h.get? b with
 | none=>rw[q]at e;cases e
 | some o=>
   rw[q]at e
   have e':(b,o)=p:=Option.some.inj e
   subst e'
   exact⟨hb,q⟩
theorem qy.pinned {pins:List (Addr×Obj)} {σ:St} {H:Hp} {s:Shared} {fp:List Addr} (I:qy X pins σ H s) (hf:∀b∈fp,JR X pins H b) (ho:∀b∈fp,∃o,s.heap.get? b=some o/\∀v,o.data≠.cell v):qy X (pins++zd fp s.heap) σ H s:=
 I.pins_of λp hp=>(List.mem_append.mp hp).elim (λz=>I.pin p (List.mem_append_right _ z)) λz=>by
   obtain⟨hb,e⟩:=VY z
   obtain⟨f0,f1,f2,_⟩:=hf p.1 hb
   obtain⟨o,e',d⟩:=ho p.1 hb
   rw[e]at e';cases e'
   exact⟨e,f0,f1,f2,d⟩
theorem qy.unpinned {pins pl:List (Addr×Obj)} {σ:St} {H:Hp} {s:Shared} (I:qy X (pins++pl) σ H s):qy X pins σ H s:=I.pins_of λp hp=>I.pin p (List.mem_append_right _ (List.mem_append_left _ hp))
theorem jK {iter:Expr} {body:List Stmt} {wi:TI} {g:TG} {tb:TS} {pos:Pos} (hp:PassesOwn (model X.prog X.w) X.A X.env X.xe) (hc:X.calm=true) (hi:JI X tg iter wi) (hg:JG X tg g) (hb:Xf X body tb) (hs:∀x,foldedSetIterable iter X.env x=pure x:=by intro _;rfl):JS X (.For tg iter body [] pos) (Re wi g tb):=.of (by
 have hi:=hi.to
 have hg:=hg.to
 have hb:=hb.to
 intro pins s σ H D I h
 refine wpAny_For (ja (hi pins s σ H _ I h) λv s1 h1=>ja h1 λitv s2 h2=>?_) hs
 obtain⟨it,fp,tn,J,H2,e,I2,T,st2,f2,W,⟨m0,w0⟩,turn⟩:=h2
 subst e
 have stat:∀{H':Hp},(∀b∈fp,H' b=none)->∀b∈fp,JR X pins H' b:=λhn b hb=>⟨hn b hb,(f2 b hb).2⟩
 refine codeAny_forLoop_any (λn s'=>∃i σ' H',qy X pins σ' H' s'/\tn i s'.heap/\(∀b∈fp,H' b=none)/\W i n σ' H') ?_ m0 ⟨0,σ,H2,I2,st2,λb hb=>(f2 b hb).1,w0⟩
 rintro n s3 ⟨i,σ3,H3,I3,st3,fr3,w3⟩
 rcases turn i n σ3 H3 w3 with ⟨stop,qn⟩ | ⟨go,N,hN,step⟩
 . refine wpAny_passesOwn hp (ja (T.done X rfl rfl rfl hc i pins s3 σ3 H3 X.xe I3 (stat fr3) st3 stop) λr s4 ⟨hr,I4⟩=>?_)
   subst hr
   exact wpAny_execs_nil ⟨σ3,H3,I4,qn⟩
 . refine wpAny_passesOwn hp (ja (T.item X rfl rfl rfl hc i pins s3 σ3 H3 X.xe I3 (stat fr3) st3 go) λr s4 ⟨u,hr,h4⟩=>?_)
   subst hr
   refine wpAny_passesOwn hp (ja h4 λ_ s5 ⟨x,H5,I5,r5,y5,st5,fr5⟩=>?_)
   have I5':=I5.pinned (stat fr5) (T.obj _ _ st5)
   refine wpAny_passesOwn hp (ja (hg _ s5 σ3 H5 x u _ I5' r5 (step x H5 y5)) λ_ s6 ⟨σ6,H6,I6,q6⟩=>?_)
   refine wpAny_passesOwn hp (ja (hb _ s6 σ6 H6 _ I6 q6) λf s7 q7=>?_)
   have again:∀{σ7:St} {H7:Hp},qy X (pins++zd fp s5.heap) σ7 H7 s7->N σ7 H7->∃m,m < n/\∃i σ' H',qy X pins σ' H' s7/\tn i s7.heap/\(∀b∈fp,H' b=none)/\W i m σ' H':=λ{σ7 H7} I7 n7=>by
     obtain⟨m',hm,w7⟩:=hN σ7 H7 n7
     refine⟨m',hm,i+1,σ7,H7,I7.unpinned,T.keep _ _ _ st5 λb hb o e=>(I7.pin (b,o) (List.mem_append_right _ (List.mem_append_right _ (QS hb e)))).1,λb hb=>?_,w7⟩
     obtain⟨o,e,d⟩:=T.obj _ _ st5 b hb
     exact(I7.pin (b,o) (List.mem_append_right _ (List.mem_append_right _ (QS hb e)))).2.1
   cases f with
   | next=>obtain⟨σ7,H7,I7,n7⟩:=q7;exact again I7 n7
   | cont=>obtain⟨σ7,H7,I7,n7⟩:=q7;exact again I7 n7
   | brk=>obtain⟨σ7,H7,I7,q7⟩:=q7;exact⟨σ7,H7,I7.unpinned,q7⟩
   | ret v=>obtain⟨x7,σ7,H7,I7,r7,q7⟩:=q7;exact⟨x7,σ7,H7,I7.unpinned,r7,q7⟩)
end
theorem Qa {K:PySem.W.Frag} {a:Addr} {xs:List V} {g:TG} {tb:TS} {D:QE} {σ:St} {H:Hp} (Pv:Nat->St->Hp->Prop) (h0:Pv 0 σ H) (hl:∀i σ H,i<=xs.length->Pv i σ H->SqL K H a xs)
   (hs:∀i x σ H,xs[i]?=some x->Pv i σ H->g x σ H λσ2 H2=>tb {D with nx:=Pv (i+1),ct:=Pv (i+1),bk:=D.nx} σ2 H2) (hd:∀σ H,Pv xs.length σ H->D.nx σ H):
   ∃W:Nat->Nat->St->Hp->Prop,(∃m,W 0 m σ H)/\∀i m σ H,W i m σ H->
    ((xW K a).stop i H/\D.nx σ H)\/((xW K a).go i H/\∃N:St->Hp->Prop,(∀σ' H',N σ' H'->∃m',m' < m/\W (i+1) m' σ' H')/\∀x H',(xW K a).yld i H x H'->g x σ H' λσ2 H2=>tb {D with nx:=N,ct:=N,bk:=D.nx} σ2 H2):=by
 refine⟨λi m σ H=>m=xs.length - i/\i<=xs.length/\Pv i σ H,⟨xs.length,by simp,Nat.zero_le _,h0⟩,?_⟩
 rintro i m σ H ⟨rfl,hi,p⟩
 have q:=hl i σ H hi p
 by_cases hlt:i < xs.length
 . refine .inr ⟨⟨xs,xs[i],q,by simp [hlt]⟩,Pv (i+1),λσ' H' p'=>⟨xs.length - (i+1),by omega,rfl,hlt,p'⟩,λx H' y=>?_⟩
   obtain⟨e,y⟩:=y
   subst e
   exact hs i x σ _ (y xs q) p
 . have e:i=xs.length:=by omega
   subst e
   exact .inl ⟨⟨xs,q,Nat.le_refl _⟩,hd σ H p⟩
theorem xJ {K:PySem.W.Frag} {a:Addr} {xs:List V} {g:TG} {tb:TS} {D:QE} {σ:St} {H:Hp} (Pv:Nat->St->Hp->Prop) (h0:Pv 0 σ H) (hl:∀i σ H,i<=xs.length->Pv i σ H->SqT K H a xs)
   (hs:∀i x σ H,xs[i]?=some x->Pv i σ H->g x σ H λσ2 H2=>tb {D with nx:=Pv (i+1),ct:=Pv (i+1),bk:=D.nx} σ2 H2) (hd:∀σ H,Pv xs.length σ H->D.nx σ H):
   ∃W:Nat->Nat->St->Hp->Prop,(∃m,W 0 m σ H)/\∀i m σ H,W i m σ H->
    ((u1 K a).stop i H/\D.nx σ H)\/((u1 K a).go i H/\∃N:St->Hp->Prop,(∀σ' H',N σ' H'->∃m',m' < m/\W (i+1) m' σ' H')/\∀x H',(u1 K a).yld i H x H'->g x σ H' λσ2 H2=>tb {D with nx:=N,ct:=N,bk:=D.nx} σ2 H2):=by
 refine⟨λi m σ H=>m=xs.length - i/\i<=xs.length/\Pv i σ H,⟨xs.length,by simp,Nat.zero_le _,h0⟩,?_⟩
 rintro i m σ H ⟨rfl,hi,p⟩
 have q:=hl i σ H hi p
 by_cases hlt:i < xs.length
 . refine .inr ⟨⟨xs,xs[i],q,by simp [hlt]⟩,Pv (i+1),λσ' H' p'=>⟨xs.length - (i+1),by omega,rfl,hlt,p'⟩,λx H' y=>?_⟩
   obtain⟨e,y⟩:=y
   subst e
   exact hs i x σ _ (y xs q) p
 . have e:i=xs.length:=by omega
   subst e
   exact .inl ⟨⟨xs,q,Nat.le_refl _⟩,hd σ H p⟩
theorem Qn {lo:Int} {n:Nat} {g:TG} {tb:TS} {D:QE} {σ:St} {H:Hp} (Pv:Nat->St->Hp->Prop) (h0:Pv 0 σ H)
   (hs:∀i σ H,i < n->Pv i σ H->g (.int (lo+i)) σ H λσ2 H2=>tb {D with nx:=Pv (i+1),ct:=Pv (i+1),bk:=D.nx} σ2 H2) (hd:∀σ H,Pv n σ H->D.nx σ H):
   ∃W:Nat->Nat->St->Hp->Prop,(∃m,W 0 m σ H)/\∀i m σ H,W i m σ H->
    ((u2 lo n).stop i H/\D.nx σ H)\/((u2 lo n).go i H/\∃N:St->Hp->Prop,(∀σ' H',N σ' H'->∃m',m' < m/\W (i+1) m' σ' H')/\∀x H',(u2 lo n).yld i H x H'->g x σ H' λσ2 H2=>tb {D with nx:=N,ct:=N,bk:=D.nx} σ2 H2):=by
 refine⟨λi m σ H=>m=n - i/\i<=n/\Pv i σ H,⟨n,by simp,Nat.zero_le _,h0⟩,?_⟩
 rintro i m σ H ⟨rfl,hi,p⟩
 by_cases hlt:i < n
 . refine .inr ⟨hlt,Pv (i+1),λσ' H' p'=>⟨n - (i+1),by omega,rfl,hlt,p'⟩,λx H' y=>?_⟩
   obtain⟨e,y⟩:=y
   subst e y
   exact hs i σ _ hlt p
 . have e:i=n:=by omega
   subst e
   exact .inl ⟨Nat.le_refl _,hd σ H p⟩
theorem Uy {c:TT} {tb:TS} {D:QE} {σ:St} {H:Hp} (Pv:St->Hp->Prop) (μ:St->Hp->Nat) (h0:Pv σ H)
   (hs:∀σ H,Pv σ H->c σ H λb H1=>if b=true then tb {D with nx:=λσ' H'=>Pv σ' H'/\μ σ' H' < μ σ H,ct:=λσ' H'=>Pv σ' H'/\μ σ' H' < μ σ H,bk:=D.nx} σ H1 else D.nx σ H1)
   (mono:∀σ H Q Q',(∀b H1,Q b H1->Q' b H1)->c σ H Q->c σ H Q'):UG c tb D σ H:=by
 refine⟨λm σ H=>m=μ σ H/\Pv σ H,⟨_,rfl,h0⟩,?_⟩
 rintro m σ H ⟨rfl,p⟩
 refine mono σ H _ _ (λb H1 q=>?_) (hs σ H p)
 cases b with
 | true=>exact⟨_,λσ' H' ⟨p',l⟩=>⟨_,l,rfl,p'⟩,q⟩
 | false=>exact q
end L2
namespace L2
open PySem PySem.Spec PyProof.Rows
abbrev R2:=V->V->Hp->VK->Prop
def QM (X:Cx) (f:Value->Value->Sem Value) (r:R2):Prop:=
 ∀(pins:List (Addr×Obj)) (s:Shared) (σ:St) (H:Hp) (x y:V) (v u:Value) (Q:VK),qy X pins σ H s->qN x v->qN y u->r x y H Q->
   wpAny (model X.prog X.w) X.A (f v u) (EP X pins σ Q) X.xe s
def RT (X:Cx) (f:Value->Sem Value) (r:V->Hp->VK->Prop):Prop:=
 ∀(pins:List (Addr×Obj)) (s:Shared) (σ:St) (H:Hp) (x:V) (v:Value) (Q:VK),qy X pins σ H s->qN x v->r x H Q->
   wpAny (model X.prog X.w) X.A (f v) (EP X pins σ Q) X.xe s
def jn (X:Cx) (f:Value) (r:List V->Hp->VK->Prop):Prop:=
 ∀(pins:List (Addr×Obj)) (s:Shared) (σ:St) (H:Hp) (xs:List V) (us:List Value) (Q:VK),qy X pins σ H s->qL xs us->r xs H Q->
   wpAny (model X.prog X.w) X.A (call f us) (EP X pins σ Q) X.xe s
def Ju (r:R2) (ta tb:TE):TE:=λσ H Q=>ta σ H λx H1=>tb σ H1 λy H2=>r x y H2 Q
def tUn (r:V->Hp->VK->Prop) (ta:TE):TE:=λσ H Q=>ta σ H λx H1=>r x H1 Q
def rI (C:Int->Int->Prop) (g:Int->Int->V):R2:=λx y H Q=>∃i j,x=.int i/\y=.int j/\C i j/\Q (g i j) H
def ud (g:Int->Int->V):R2:=λx y H Q=>∃i j,x=.int i/\y=.int j/\Q (g i j) H
def rU (g:Int->V):V->Hp->VK->Prop:=λx H Q=>∃i,x=.int i/\Q (g i) H
section
variable {X:Cx} {a b c:Expr} {ta tb tc:TE} {pos:Pos}
theorem uW (ha:PE X a ta) (hb:PE X b tb) {pins:List (Addr×Obj)} {s:Shared} {σ:St} {H:Hp} {R:V->V->Hp->Prop} (I:qy X pins σ H s)
   (h:ta σ H λx H1=>tb σ H1 λy H2=>R x y H2) {Q:Value->Shared->Prop} {f:Value->Value->Sem Value}
   (hf:∀v u s2 x y H2,qy X pins σ H2 s2->qN x v->qN y u->R x y H2->wpAny (model X.prog X.w) X.A (f v u) Q X.xe s2):
   wpAny (model X.prog X.w) X.A (eval a X.env) (λv s₁=>wpAny (model X.prog X.w) X.A (eval b X.env) (λu s₂=>wpAny (model X.prog X.w) X.A (f v u) Q X.xe s₂) X.xe s₁) X.xe s:=by
 refine ja (ha pins s σ H _ I h) λv s1 ⟨x,H1,I1,r1,q1⟩=>?_
 refine ja (hb pins s1 σ H1 _ I1 q1) λu s2 ⟨y,H2,I2,r2,q2⟩=>?_
 exact hf v u s2 x y H2 I2 r1 r2 q2
theorem qQ {op:Operator} {r:R2} (ho:QM X (binaryOp op) r) (ha:JE X a ta) (hb:JE X b tb):JE X (.BinOp a op b pos) (Ju r ta tb):=.of (by
 have ha:=ha.to
 have hb:=hb.to
 intro pins s σ H Q I h
 exact wpAny_BinOp (uW ha hb I h λv u s2 x y H2 I2 rx ry q=>ho pins s2 σ H2 x y v u Q I2 rx ry q))
theorem Yl {op:UnaryOp} {r:V->Hp->VK->Prop} (ho:RT X (unaryOp op) r) (ha:JE X a ta):JE X (.UnaryOp op a pos) (tUn r ta):=.of (by
 have ha:=ha.to
 intro pins s σ H Q I h
 exact UnaryOp_ (ja (ha pins s σ H _ I h) λv s1 ⟨x,H1,I1,r1,q1⟩=>ho pins s1 σ H1 x v Q I1 r1 q1))
theorem KQ {f:Value->Value->Sem Value} {C:Int->Int->Prop} {g:Int->Int->Int}
   (rule:∀(i j:Int) (t u:Tok) (s:Shared) (Q:Value->Shared->Prop) (E:Value->Shared->Prop),C i j->Q (.int (g i j) s.toks) {s with toks:=s.toks+1}->wpAny (model X.prog X.w) X.A (f (.int i t) (.int j u)) Q E s):
   QM X f (rI C λi j=>.int (g i j)):=by
 intro pins s σ H x y v u Q I rx ry h
 obtain⟨i,j,rfl,rfl,hc,q⟩:=h
 obtain⟨t,rfl⟩:=rx
 obtain⟨t',rfl⟩:=ry
 exact rule i j t t' s _ _ hc ⟨.int (g i j),H,I.tok _,⟨_,rfl⟩,q⟩
theorem KP {f:Value->Value->Sem Value} {g:Int->Int->Int}
   (rule:∀(i j:Int) (t u:Tok) (s:Shared) (Q:Value->Shared->Prop) (E:Value->Shared->Prop),Q (.int (g i j) s.toks) {s with toks:=s.toks+1}->wpAny (model X.prog X.w) X.A (f (.int i t) (.int j u)) Q E s):
   QM X f (ud λi j=>.int (g i j)):=by
 intro pins s σ H x y v u Q I rx ry h
 obtain⟨i,j,rfl,rfl,q⟩:=h
 obtain⟨t,rfl⟩:=rx
 obtain⟨t',rfl⟩:=ry
 exact rule i j t t' s _ _ ⟨.int (g i j),H,I.tok _,⟨_,rfl⟩,q⟩
theorem uo {f:Value->Value->Sem Value} {g:Int->Int->Bool}
   (rule:∀(i j:Int) (t u:Tok) (s:Shared) (Q:Value->Shared->Prop) (E:Value->Shared->Prop),Q (.bool (g i j)) s->wpAny (model X.prog X.w) X.A (f (.int i t) (.int j u)) Q E s):
   QM X f (ud λi j=>.bl (g i j)):=by
 intro pins s σ H x y v u Q I rx ry h
 obtain⟨i,j,rfl,rfl,q⟩:=h
 obtain⟨t,rfl⟩:=rx
 obtain⟨t',rfl⟩:=ry
 exact rule i j t t' s _ _ ⟨.bl (g i j),H,I,rfl,q⟩
def R5 (i j:Int):Prop:=0 < j/\j < 1073741824
def R4 (i j:Int):Prop:=0<=j/\j<=1000000/\i.natAbs < 2^64
def u4 (i j:Int):Prop:=(-(2^64) < i/\i < 2^64)\/(-(2^64) < j/\j < 2^64)
theorem u4.ok {i j:Int} (h:u4 i j):IntMulOk i j:=by
 rcases h with ⟨h1,h2⟩ | ⟨h1,h2⟩
 . exact .of_left (intBits_le_64 h1 h2)
 . exact .of_right (intBits_le_64 h1 h2)
theorem jX:QM X (binaryOp .Add) (ud λi j=>.int (i+j)):=KP λ_ _ _ _ _ _ _ q=>add_int q
theorem uh:QM X (binaryOp .Sub) (ud λi j=>.int (i - j)):=KP λ_ _ _ _ _ _ _ q=>sub_int q
theorem QP:QM X (binaryOp .Mult) (rI u4 λi j=>.int (i*j)):=KQ λ_ _ _ _ _ _ _ hc q=>mul_int q hc.ok
theorem yP:QM X (binaryOp .FloorDiv) (rI R5 λi j=>.int (i / j)):=KQ λi j _ _ _ _ _ hc q=>by
 have h1:(0:Int) < j:=hc.1
 have h2:j < 1073741824:=hc.2
 exact floordiv_int (by omega) (by rw[Int.fdiv_eq_ediv_of_nonneg i (by omega)];exact q) (.inl (PyProof.noPylong_small (by omega)))
theorem QQ:QM X (binaryOp .Mod) (rI (λ_ j=>0 < j) λi j=>.int (i % j)):=KQ λi j _ _ _ _ _ hc q=>by
 have h1:(0:Int) < j:=hc
 exact mod_int' (by omega) (by rw[Int.fmod_eq_emod_of_nonneg i (by omega)];exact q)
theorem ui:QM X (binaryOp .Pow) (rI R4 λi j=>.int (i^j.toNat)):=KQ λ_ _ _ _ _ _ _ hc q=>pow_int_small hc.1 hc.2.1 hc.2.2 q
theorem unI {f:Value->Sem Value} {g:Int->Int}
   (rule:∀(i:Int) (t:Tok) (s:Shared) (Q:Value->Shared->Prop) (E:Value->Shared->Prop),Q (.int (g i) s.toks) {s with toks:=s.toks+1}->wpAny (model X.prog X.w) X.A (f (.int i t)) Q E s):
   RT X f (rU λi=>.int (g i)):=by
 intro pins s σ H x v Q I rx h
 obtain⟨i,rfl,q⟩:=h
 obtain⟨t,rfl⟩:=rx
 exact rule i t s _ _ ⟨.int (g i),H,I.tok _,⟨_,rfl⟩,q⟩
theorem Zk:RT X (unaryOp .USub) (rU λi=>.int (-i)):=unI λ_ _ _ _ _ q=>neg_int q
end
def Kz:V->V->Bool
 | .non,.non=>true | .non,.int _=>true | .int _,.non=>true | .non,.bl _=>true | .bl _,.non=>true | .non,.str _=>true | .str _,.non=>true
 | .int _,.int _=>true | .bl _,.bl _=>true | .str _,.str _=>true | .byt _,.byt _=>true
 | .int _,.str _=>true | .str _,.int _=>true | .bl _,.str _=>true | .str _,.bl _=>true
 | _,_=>false
def wu:R2:=λx y H Q=>Kz x y=true/\Q (.bl (decide (x=y))) H
def rNe:R2:=λx y H Q=>Kz x y=true/\Q (.bl (!decide (x=y))) H
theorem Vm {i j:Int}:decide (V.int i=V.int j)=(i==j):=by
 rw[Bool.eq_iff_iff]
 simp
theorem kO {i j:Bool}:decide (V.bl i=V.bl j)=(i==j):=by
 rw[Bool.eq_iff_iff]
 simp
theorem Vl {i j:Str}:decide (V.str i=V.str j)=(i==j):=by
 rw[Bool.eq_iff_iff]
 simp
theorem Vn {i j:Array UInt8}:decide (V.byt i=V.byt j)=(i.toList==j.toList):=by
 rw[Bool.eq_iff_iff]
 cases i
 cases j
 simp
section
variable {X:Cx} {a b c:Expr} {ta tb tc:TE} {pos:Pos}
theorem qR {pins:List (Addr×Obj)} {σ:St} {H:Hp} {s:Shared} {Q:VK} {k k':Bool} (I:qy X pins σ H s) (q:Q (.bl k) H) (e:k=k'):EP X pins σ Q (.bool k') s:=by
 subst e
 exact⟨.bl k,H,I,rfl,q⟩
theorem jg:QM X (compareOp .Eq) wu:=by
 intro pins s σ H x y v u Q I rx ry h
 obtain⟨hs,q⟩:=h
 cases x with
 | non=>
   cases rx
   cases y with
   | non=>cases ry;exact PySem.EqNone.eq_none_none (qR I q (by simp))
   | bl j=>cases ry;exact PySem.EqNone.eq_none_bool (qR I q (by simp))
   | int j=>obtain⟨t',rfl⟩:=ry;exact PySem.EqNone.eq_none_int (qR I q (by simp))
   | str j=>obtain⟨t',rfl⟩:=ry;exact PySem.EqNone.eq_none_str (qR I q (by simp))
   | _=>exact absurd (show false=true from hs) Bool.false_ne_true
 | bl i=>
   cases rx
   cases y with
   | non=>cases ry;exact PySem.EqNone.eq_bool_none (qR I q (by simp))
   | bl j=>cases ry;exact eq_bool (qR I q kO)
   | str j=>obtain⟨t',rfl⟩:=ry;exact PySem.EqMixed.eq_bool_str (qR I q (by simp))
   | _=>exact absurd (show false=true from hs) Bool.false_ne_true
 | int i=>
   obtain⟨t,rfl⟩:=rx
   cases y with
   | non=>cases ry;exact PySem.EqNone.eq_int_none (qR I q (by simp))
   | int j=>obtain⟨t',rfl⟩:=ry;exact eq_int (qR I q Vm)
   | str j=>obtain⟨t',rfl⟩:=ry;exact PySem.EqMixed.eq_int_str (qR I q (by simp))
   | _=>exact absurd (show false=true from hs) Bool.false_ne_true
 | str i=>
   obtain⟨t,rfl⟩:=rx
   cases y with
   | non=>cases ry;exact PySem.EqNone.eq_str_none (qR I q (by simp))
   | bl j=>cases ry;exact PySem.EqMixed.eq_str_bool (qR I q (by simp))
   | int j=>obtain⟨t',rfl⟩:=ry;exact PySem.EqMixed.eq_str_int (qR I q (by simp))
   | str j=>obtain⟨t',rfl⟩:=ry;exact eq_str (qR I q Vl)
   | _=>exact absurd (show false=true from hs) Bool.false_ne_true
 | byt i=>
   obtain⟨t,rfl⟩:=rx
   cases y with
   | byt j=>obtain⟨t',rfl⟩:=ry;exact PySem.W.eq_bytes (qR I q Vn)
   | _=>exact absurd (show false=true from hs) Bool.false_ne_true
 | _=>cases y<;>exact absurd (show false=true from hs) Bool.false_ne_true
theorem Xz:QM X (compareOp .NotEq) rNe:=by
 intro pins s σ H x y v u Q I rx ry h
 obtain⟨hs,q⟩:=h
 cases x with
 | non=>
   cases rx
   cases y with
   | non=>cases ry;exact PySem.EqNone.ne_none_none (qR I q (by simp))
   | bl j=>cases ry;exact PySem.EqNone.ne_none_bool (qR I q (by simp))
   | int j=>obtain⟨t',rfl⟩:=ry;exact PySem.EqNone.ne_none_int (qR I q (by simp))
   | str j=>obtain⟨t',rfl⟩:=ry;exact PySem.EqNone.ne_none_str (qR I q (by simp))
   | _=>exact absurd (show false=true from hs) Bool.false_ne_true
 | bl i=>
   cases rx
   cases y with
   | non=>cases ry;exact PySem.EqNone.ne_bool_none (qR I q (by simp))
   | bl j=>cases ry;exact ne_bool (qR I q (congrArg not kO))
   | str j=>obtain⟨t',rfl⟩:=ry;exact PySem.EqMixed.ne_bool_str (qR I q (by simp))
   | _=>exact absurd (show false=true from hs) Bool.false_ne_true
 | int i=>
   obtain⟨t,rfl⟩:=rx
   cases y with
   | non=>cases ry;exact PySem.EqNone.ne_int_none (qR I q (by simp))
   | int j=>obtain⟨t',rfl⟩:=ry;exact ne_int (qR I q (congrArg not Vm))
   | str j=>obtain⟨t',rfl⟩:=ry;exact PySem.EqMixed.ne_int_str (qR I q (by simp))
   | _=>exact absurd (show false=true from hs) Bool.false_ne_true
 | str i=>
   obtain⟨t,rfl⟩:=rx
   cases y with
   | non=>cases ry;exact PySem.EqNone.ne_str_none (qR I q (by simp))
   | bl j=>cases ry;exact PySem.EqMixed.ne_str_bool (qR I q (by simp))
   | int j=>obtain⟨t',rfl⟩:=ry;exact PySem.EqMixed.ne_str_int (qR I q (by simp))
   | str j=>obtain⟨t',rfl⟩:=ry;exact ne_str (qR I q (congrArg not Vl))
   | _=>exact absurd (show false=true from hs) Bool.false_ne_true
 | byt i=>
   obtain⟨t,rfl⟩:=rx
   cases y with
   | byt j=>obtain⟨t',rfl⟩:=ry;exact PySem.W.ne_bytes (qR I q (congrArg not Vn))
   | _=>exact absurd (show false=true from hs) Bool.false_ne_true
 | _=>cases y<;>exact absurd (show false=true from hs) Bool.false_ne_true
theorem j7:QM X (compareOp .Lt) (ud λi j=>.bl (decide (i < j))):=uo λ_ _ _ _ _ _ _ q=>lt_int q
theorem Ye:QM X (compareOp .Gt) (ud λi j=>.bl (decide (j < i))):=uo λ_ _ _ _ _ _ _ q=>gt_int q
theorem XA:QM X (compareOp .GtE) (ud λi j=>.bl (decide (j<=i))):=uo λ_ _ _ _ _ _ _ q=>ge_int q
theorem VT:QM X (compareOp .In) (λx y H Q=>∃i j,x=.str i/\y=.str j/\Q (.bl (!(Builtin.Str.occurrences j i 0 j.length 1).isEmpty)) H):=by
 intro pins s σ H x y v u Q I rx ry h
 obtain⟨i,j,rfl,rfl,q⟩:=h
 obtain⟨t,rfl⟩:=rx
 obtain⟨t',rfl⟩:=ry
 exact in_str (qR I q rfl)
theorem vt:QM X (compareOp .Is) (λx y H Q=>y=.non/\Q (.bl (decide (x=.non))) H):=by
 intro pins s σ H x y v u Q I rx ry h
 obtain⟨rfl,q⟩:=h
 cases ry
 refine is_none_gen (qR I q ?_)
 cases x<;>first
   | (cases rx;rfl)
   | (obtain⟨t,rfl⟩:=rx;rfl)
theorem yM:QM X (compareOp .IsNot) (λx y H Q=>y=.non/\Q (.bl (!decide (x=.non))) H):=by
 intro pins s σ H x y v u Q I rx ry h
 obtain⟨rfl,q⟩:=h
 cases ry
 refine isnot_none_gen (qR I q ?_)
 cases x<;>first
   | (cases rx;rfl)
   | (obtain⟨t,rfl⟩:=rx;rfl)
theorem QM.or {f:Value->Value->Sem Value} {r r':R2} (h:QM X f r) (h':QM X f r'):QM X f (λx y H Q=>r x y H Q\/r' x y H Q):=by
 intro pins s σ H x y v u Q I rx ry q
 rcases q with q | q
 . exact h pins s σ H x y v u Q I rx ry q
 . exact h' pins s σ H x y v u Q I rx ry q
theorem qr (b:Expr) {op:CmpOp} (h:op≠.In:=by decide) (h2:op≠.NotIn:=by decide):behindInMarks op b=false:=by
 have e1:(op==CmpOp.In)=false:=by cases op<;>first | rfl | exact absurd rfl h
 have e2:(op==CmpOp.NotIn)=false:=by cases op<;>first | rfl | exact absurd rfl h2
 cases b<;>simp [behindInMarks,e1,e2]
theorem qP {op:CmpOp} {r:R2} (ho:QM X (compareOp op) r) (ha:JE X a ta) (hb:JE X b tb) (hm:behindInMarks op b=false):JE X (.Compare a [op] [b] pos) (Ju r ta tb):=.of (by
 have ha:=ha.to
 have hb:=hb.to
 intro pins s σ H Q I h
 exact wpAny_Compare1 (uW ha hb I h λv u s2 x y H2 I2 rx ry q=>ho pins s2 σ H2 x y v u Q I2 rx ry q) hm)
def Zy (t:TE):TT:=λσ H Q=>t σ H λx H'=>∃k,x=.bl k/\Q k H'
theorem qv {op:CmpOp} {r:R2} (ho:QM X (compareOp op) r) (ha:JE X a ta) (hb:JE X b tb) (hm:behindInMarks op b=false):JT X (.Compare a [op] [b] pos) (Zy (Ju r ta tb)):=.of (by
 have ha:=ha.to
 have hb:=hb.to
 intro pins s σ H Q I h
 refine wpAny_isTrue_Compare1 (ja (ha pins s σ H _ I h) λv s1 ⟨x,H1,I1,r1,q1⟩=>ja (hb pins s1 σ H1 _ I1 q1) λu s2 ⟨y,H2,I2,r2,q2⟩=>
   ja (ho pins s2 σ H2 x y v u _ I2 r1 r2 q2) λc s3 ⟨z,H3,I3,r3,k,e,q3⟩=>?_) hm
 subst e
 cases r3
 exact wpAny_truthy_bool ⟨H3,I3,q3⟩)
theorem zp:(sizeLine:Nat) < 2^63:=by rw[sizeLine_eq];decide
theorem zh:QM X (binaryOp .Add) (λx y H Q=>∃i j,x=.str i/\y=.str j/\i.length+j.length<=sizeLine/\Q (.str (i++j)) H):=by
 intro pins s σ H x y v u Q I rx ry h
 obtain⟨i,j,rfl,rfl,hz,q⟩:=h
 obtain⟨t,rfl⟩:=rx
 obtain⟨t',rfl⟩:=ry
 exact add_str (λt' tk=>⟨.str (i++j),H,I.tok _,⟨_,rfl⟩,q⟩) hz
theorem jW {x:V} {us:List Value} (r:qL [x] us):∃u,us=[u]/\qN x u:=by
 cases r with
 | cons r1 r2=>cases r2;exact⟨_,rfl,r1⟩
theorem zZ {x y:V} {us:List Value} (r:qL [x,y] us):∃u w',us=[u,w']/\qN x u/\qN y w':=by
 cases r with
 | cons r1 r2=>
   cases r2 with
   | cons r3 r4=>cases r4;exact⟨_,_,rfl,r1,r3⟩
theorem Ys (hc:X.calm=true):jn X (.builtin "max") (λxs H Q=>∃i j,xs=[.int i,.int j]/\Q (.int (if j > i then j else i)) H):=by
 intro pins s σ H xs us Q I r h
 obtain⟨i,j,rfl,q⟩:=h
 obtain⟨u,w',rfl,⟨t,rfl⟩,⟨t',rfl⟩⟩:=zZ r
 refine max_two_ints (I.ok.hd hc) λh' tk k=>⟨_,H,I.kept k,?_,q⟩
 by_cases hj:j > i
 . rw[if_pos hj,if_pos hj];exact⟨_,rfl⟩
 . rw[if_neg hj,if_neg hj];exact⟨_,rfl⟩
theorem Uu (hc:X.calm=true):jn X (.builtin "min") (λxs H Q=>∃i j,xs=[.int i,.int j]/\Q (.int (if j < i then j else i)) H):=by
 intro pins s σ H xs us Q I r h
 obtain⟨i,j,rfl,q⟩:=h
 obtain⟨u,w',rfl,⟨t,rfl⟩,⟨t',rfl⟩⟩:=zZ r
 refine min_two_ints (I.ok.hd hc) λh' tk k=>⟨_,H,I.kept k,?_,q⟩
 by_cases hj:j < i
 . rw[if_pos hj,if_pos hj];exact⟨_,rfl⟩
 . rw[if_neg hj,if_neg hj];exact⟨_,rfl⟩
theorem Js:jn X (.type "int") (λxs H Q=>(∃i,xs=[.int i]/\Q (.int i) H)\/∃k,xs=[.bl k]/\Q (.int (if k then 1 else 0)) H):=by
 intro pins s σ H xs us Q I r h
 rcases h with ⟨i,rfl,q⟩ | ⟨k,rfl,q⟩
 . obtain⟨u,rfl,t,rfl⟩:=jW r
   exact call_int_int ⟨.int i,H,I,⟨_,rfl⟩,q⟩
 . obtain⟨u,rfl,r1⟩:=jW r
   cases r1
   exact call_int_bool ⟨.int (if k then 1 else 0),H,I.tok _,⟨_,rfl⟩,q⟩
end
end L2
namespace L2
open PySem PySem.Spec PyProof.Rows
structure WD (h:Heap) (x dx C:Addr) (mA:Str->Option Value):Prop where
 obj:h.get? x=some (PySem.W.instObj C dx)
 ns:h.Ns1 dx mA
 ne:dx≠x
theorem V4 {h:Heap} {dx:Addr} {mA:Str->Option Value} (n:h.Ns1 dx mA):∃od,h.get? dx=some od/\∀name,PySem.W.lookIn name od=some (mA name):=by
 obtain⟨o,es,ep,ho,hd,hk,_,hm⟩:=n
 refine⟨o,ho,λname=>?_⟩
 have e:=hm name
 unfold nsFind findBy at e
 rw[<-Array.find?_toList]at e
 unfold PySem.W.lookIn
 rw[hd]
 dsimp only
 split
 . rename_i y q
   rw[q]at e
   exact congrArg some e
 . rename_i q
   rw[q]at e
   have a:es.toList.any (·.refKey)=false:=by
     rw[List.any_eq_false]
     intro y hy
     obtain⟨z,t,hkey⟩:=hk y (Array.mem_toList_iff.mp hy)
     simp [DictEntry.refKey,hkey]
   have a':¬es.toList.any (·.refKey)=true:=by rw[a];exact Bool.false_ne_true
   rw[if_neg a']
   exact congrArg some e
theorem WD.look {h:Heap} {x dx C:Addr} {mA:Str->Option Value} (I:WD h x dx C mA):∃od,PySem.W.InstAt h x (PySem.W.instObj C dx) C (some od)/\∀name,PySem.W.lookIn name od=some (mA name):=
 let ⟨od,ho,hl⟩:=V4 I.ns
 ⟨od,⟨I.obj,rfl,rfl,ho⟩,hl⟩
section
variable {prog:Program} {w:World} {A:Around} {E:Value->Shared->Prop} {s:Shared} {K:PySem.W.Frag} {x dx C f:Addr} {mA:Str->Option Value} {name:Str} {v:Value}
theorem xG {expr:Bool} {Q:Value->Shared->Prop} (X:K.In s.heap) (I:WD s.heap x dx C mA) (hg:PySem.W.plainGet K C name=true) (hh:PySem.W.hasDictIn K C=true)
   (ha:PySem.W.findIn K (.ref C) name=some none) (hv:mA name=some v) (hv':PySem.W.handedIn v=true) (h:Q v {s with toks:=s.toks+1}):
   wpAny (model prog w) A (getAttr (.ref x) name expr) Q E s:=by
 obtain⟨od,J,hl⟩:=I.look
 exact PySem.W.get_value X J (PySem.W.plainGet_of hg).1 (PySem.W.findObj_own hh ha rfl (by rw[hl,hv])) hv' h
theorem kF {pl:Sem Bool} {Q:Value×List Value->Shared->Prop} (X:K.In s.heap) (I:WD s.heap x dx C mA) (hg:PySem.W.plainGet K C name=true)
   (hf:PySem.W.findIn K (.ref C) name=some (some (.ref f))) (ht:PySem.W.isFn K (.ref f)=true) (hv:mA name=none) (h:Q (.ref f,[.ref x]) s):
   wpAny (model prog w) A (getMethod (.ref x) name pl) Q E s:=by
 obtain⟨od,J,hl⟩:=I.look
 exact PySem.W.method_fn X J (PySem.W.plainGet_of hg).1 (PySem.W.plainGet_of hg).2 hf (beq_iff_eq.mp ht) (by show (PySem.W.lookIn name od).map (·.isSome)=some false;rw[hl,hv];rfl) h
theorem yw {ns:List Str} {Q:Unit->Shared->Prop} (X:K.In s.heap) (I:WD s.heap x dx C mA)
   (hs:PySem.W.findIn K (.ref C) "__setattr__"=some (some (.builtin "object.__setattr__"))) (hp:PySem.W.plainOver K C=true) (ht:PySem.W.takerIn K C name=some none) (hh:PySem.W.hasDictIn K C=true)
   (hw:PySem.Within mA ns) (hsz:ns.length<=sizeLine)
   (h:∀h',WD h' x dx C (λy=>if y=name then some v else mA y)->Heap.SameBut dx s.heap h'->Q () {s with heap:=h',toks:=s.toks+2}):
   wpAny (model prog w) A (setAttr (.ref x) name v) Q E s:=by
 obtain⟨od,J,hl⟩:=I.look
 refine PySem.W.set_plain X J hs (PySem.W.osa_open (s:={s with toks:=s.toks+1}) (r:=none) X J hp ht λb=>?_)
 obtain⟨cd,hc,hd'⟩:=PySem.W.any_some hh
 have hx:s.heap.get? x=some ⟨.ref C,some dx,.plain,#[]⟩:=I.obj
 refine wpAny_bind (wpAny_pure (wpAny_bind (wpAny_bind (wpAny_loadPart hx (wpAny_bind (PySem.W.Looks.here (s:={s with toks:=s.toks+1}) (PySem.W.looks_clsIn X hc) ?_))))))
 rw[hd']
 refine wpAny_pure (a:=some dx) (wpAny_bind (wpAny_pure (wpAny_bind ?_)))
 refine wpAny_nsSet1 (s:={s with toks:=s.toks+1}) I.ns λh' hn2 hs2=>?_
 obtain⟨oD,esD,epD,hoD,hdD,hcD⟩:=hn2.count (PySem.Within.cons name v hw)
 refine wpAny_bind (wpAny_lookBehind hoD (by rw[hdD];exact pastItsLine_dict (Nat.le_trans hcD (by rw[List.length_cons];omega))) ?_)
 exact wpAny_pure (h _ ⟨(hs2.2 _ (Ne.symm I.ne)).trans I.obj,hn2,I.ne⟩ hs2)
theorem vS {R:Result->Shared->Prop} {vs:List Value} {kw:List (Str×Value)} (X:K.In s.heap) (hm:PySem.W.makesIn K C=true)
   (hi:PySem.W.findIn K (.ref C) "__init__"=some (some (.ref f))) (hf:PySem.W.typeIn K (.ref f)=some (.type "function"))
   (h:codeAny (model prog w) (A.under (.builtin "type.__call__" ⟨.ref C::vs,kw⟩)) (.call (.ref f) ⟨.ref (s.heap.objs.size+1)::vs,kw⟩) (PySem.W.InitBack (s.heap.objs.size+1) R)
     {s with heap:=(s.heap.push PySem.W.emptyDict).push (PySem.W.instObj C s.heap.objs.size)}):
   codeAny (model prog w) A (.call (.ref C) ⟨vs,kw⟩) R s:=by
 obtain⟨hh,g,d,t,os⟩:=s
 exact PySem.W.make_core (PySem.W.makes_of X hm) (PySem.W.looks_findIn X hi) (λself=>PySem.W.bind_fn X self hf) (.inl rfl) h
end
def QO (f:Str) (v:V):List (Str×V)->List (Str×V)
 | []=>[(f,v)]
 | (g,x)::r=>if g=f then (g,v)::r else (g,x)::QO f v r
theorem ZC (f g:Str) (v:V):∀fs:List (Str×V),(QO f v fs).lookup g=if g=f then some v else fs.lookup g
 | []=>by
   show List.lookup g [(f,v)]=_
   by_cases h:g=f
   . have hb:(g==f)=true:=beq_iff_eq.mpr h
     simp only[List.lookup,hb,if_pos h]
   . have hb:(g==f)=false:=beq_eq_false_iff_ne.mpr h
     simp only[List.lookup,hb,if_neg h]
 | (k,x)::r=>by
   have ih:=ZC f g v r
   rw[show QO f v ((k,x)::r)=(if k=f then (k,v)::r else (k,x)::QO f v r) from rfl]
   by_cases hk:k=f
   . rw[if_pos hk]
     by_cases h:g=k
     . have hb:(g==k)=true:=beq_iff_eq.mpr h
       simp only[List.lookup,hb,if_pos (h.trans hk)]
     . have hb:(g==k)=false:=beq_eq_false_iff_ne.mpr h
       simp only[List.lookup,hb,if_neg (λe:g=f=>h (e.trans hk.symm))]
   . rw[if_neg hk]
     by_cases h:g=k
     . have hb:(g==k)=true:=beq_iff_eq.mpr h
       simp only[List.lookup,hb,if_neg (λe:g=f=>hk (h.symm.trans e))]
     . have hb:(g==k)=false:=beq_eq_false_iff_ne.mpr h
       simp only[List.lookup,hb]
       exact ih
theorem Zs (f:Str) (v:V):∀fs:List (Str×V),f∈(QO f v fs).map (·.1)/\∀g,g∈fs.map (·.1)->g∈(QO f v fs).map (·.1)
 | []=>⟨by simp [QO],λg h=>by simp at h⟩
 | (k,x)::r=>by
   obtain⟨i1,i2⟩:=Zs f v r
   rw[show QO f v ((k,x)::r)=(if k=f then (k,v)::r else (k,x)::QO f v r) from rfl]
   by_cases hk:k=f
   . rw[if_pos hk]
     subst hk
     exact⟨by simp,λg h=>by simpa using h⟩
   . rw[if_neg hk]
     refine⟨?_,λg h=>?_⟩
     . rw[List.map_cons]
       exact List.mem_cons_of_mem _ i1
     . rw[List.map_cons]at h ⊢
       rcases List.mem_cons.mp h with e | e
       . exact List.mem_cons.mpr (.inl e)
       . exact List.mem_cons_of_mem _ (i2 g e)
theorem ZD (f:Str) (v:V):∀fs:List (Str×V),(QO f v fs).length<=fs.length+1
 | []=>by simp [QO]
 | (k,x)::r=>by
   have ih:=ZD f v r
   rw[show QO f v ((k,x)::r)=(if k=f then (k,v)::r else (k,x)::QO f v r) from rfl]
   by_cases hk:k=f
   . rw[if_pos hk,List.length_cons,List.length_cons];omega
   . rw[if_neg hk,List.length_cons,List.length_cons];omega
theorem Q0.some_of {v:V} {o:Option Value} (r:Q0 (some v) o):∃u,o=some u/\qN v u:=by
 cases o with
 | none=>exact(show False from r).elim
 | some u=>exact⟨u,rfl,r⟩
theorem Q0.none_of {o:Option Value} (r:Q0 none o):o=none:=by
 cases o with
 | none=>rfl
 | some u=>exact(show False from r).elim
theorem Ui {v:V} {u:Value} (r:qN v u):PySem.W.handedIn u=true:=by
 cases v with
 | non=>cases (show u=Value.none from r);rfl
 | bl b=>cases (show u=Value.bool b from r);rfl
 | int i=>obtain⟨t,e⟩:=(show ∃t,u=Value.int i t from r);cases e;rfl
 | str x=>obtain⟨t,e⟩:=(show ∃t,u=Value.str x t from r);cases e;rfl
 | byt b=>obtain⟨t,e⟩:=(show ∃t,u=Value.bytes b t from r);cases e;rfl
 | flt b=>obtain⟨t,e⟩:=(show ∃t,u=Value.float b t from r);cases e;rfl
 | ref a=>cases (show u=Value.ref a from r);rfl
 | ty n=>cases (show u=Value.type n from r);rfl
section
variable {P:Program} {w:World} {H H':Hp} {h h':Heap} {a C dx:Addr} {fs fs':List (Str×V)}
theorem ZS (hok:Jx P w H h) (e:H a=some (.ins C dx fs)):∃mA,WD h a dx C mA/\(∀f,Q0 (fs.lookup f) (mA f))/\PySem.Within mA (fs.map (·.1))/\fs.length<=1000/\H dx=some (.own a):=by
 obtain⟨d,z,ne,ob,mA,n,r,q⟩:=(show qU P w H h a (.ins C dx fs) from hok a _ e)
 exact⟨mA,⟨ob,n,ne⟩,r,q,z,d⟩
end
structure WE (K:PySem.W.Frag) (C:Addr):Prop where
 pg:PySem.W.plainGet K C Str.empty=true
 hd:PySem.W.hasDictIn K C=true
 po:PySem.W.plainOver K C=true
 sa:PySem.W.findIn K (.ref C) "__setattr__"=some (some (.builtin "object.__setattr__"))
theorem WE.get {K:PySem.W.Frag} {C:Addr} (c:WE K C) (f:Str):PySem.W.plainGet K C f=true:=c.pg
def Ji (K:PySem.W.Frag) (C:Addr) (f:Str):Prop:=PySem.W.findIn K (.ref C) f=some none
theorem Ji.taker {K:PySem.W.Frag} {C:Addr} {f:Str} (n:Ji K C f):PySem.W.takerIn K C f=some none:=by
 unfold PySem.W.takerIn
 rw[show PySem.W.findIn K (.ref C) f=some none from n]
 rfl
structure Con (K:PySem.W.Frag) (C:Addr) (f:Str) (v:V) (u:Value):Prop where
 at_:PySem.W.findIn K (.ref C) f=some (some u)
 rel:qN v u
 get:PySem.W.specialIn K u "__get__"=some none
 cp:PySem.W.copiedNames.contains f=false
structure Ux (K:PySem.W.Frag) (C:Addr) (m:Str) (f:Addr):Prop where
 at_:PySem.W.findIn K (.ref C) m=some (some (.ref f))
 fn:PySem.W.isFn K (.ref f)=true
 kp:PySem.W.keepIn K (.ref f)=true
section
variable {X:Cx} {pins:List (Addr×Obj)} {σ:St} {H:Hp} {s:Shared} {a C dx:Addr} {fs:List (Str×V)} {f:Str} {v:V} {A:Around} {E:Value->Shared->Prop}
theorem Ws {b:Bool} {Q:Value->Shared->Prop} (I:qy X pins σ H s) (e:H a=some (.ins C dx fs)) (c:WE X.K C) (n:Ji X.K C f) (l:fs.lookup f=some v)
   (h:∀u s',qy X pins σ H s'->qN v u->Q u s'):wpAny (model X.prog X.w) A (getAttr (.ref a) f b) Q E s:=by
 obtain⟨mA,O,r,_,_,_⟩:=ZS I.hok e
 obtain⟨u,hu,ru⟩:=Q0.some_of (v:=v) (o:=mA f) (by rw[<-l];exact r f)
 exact xG I.kIn O (c.get f) c.hd n hu (Ui ru) (h u _ (I.tok _) ru)
theorem zA {m:Str} {g:Addr} {pl:Sem Bool} {Q:Value×List Value->Shared->Prop} (I:qy X pins σ H s) (e:H a=some (.ins C dx fs)) (c:WE X.K C) (k:Ux X.K C m g) (l:fs.lookup m=none)
   (h:Q (.ref g,[.ref a]) s):wpAny (model X.prog X.w) A (getMethod (.ref a) m pl) Q E s:=by
 obtain⟨mA,O,r,_,_,_⟩:=ZS I.hok e
 have hn:mA m=none:=Q0.none_of (by rw[<-l];exact r m)
 exact kF I.kIn O (c.get m) k.at_ k.fn hn h
theorem Wd {y:V} {u:Value} {Q:Unit->Shared->Prop} (I:qy X pins σ H s) (e:H a=some (.ins C dx fs)) (c:WE X.K C) (n:Ji X.K C f) (hl:fs.length < 1000) (ry:qN y u)
   (h:∀s',qy X pins σ (upd H a (.ins C dx (QO f y fs))) s'->Q () s'):wpAny (model X.prog X.w) A (setAttr (.ref a) f u) Q E s:=by
 obtain⟨mA,O,r,wi,_,ho⟩:=ZS I.hok e
 have hz:(fs.map (·.1)).length<=sizeLine:=by rw[List.length_map,sizeLine_eq];omega
 refine yw I.kIn O c.sa c.po n.taker c.hd wi hz λh' O' sb=>h _ ?_
 have hd:∃o,h'.get? dx=some o:=let ⟨o,_,_,e',_⟩:=O'.ns;⟨o,e'⟩
 refine I.write (x:=a) (e:=dx) (by rw[e];exact True.intro) (.inr ho) (λb q hb z=>(sb.2 b hb).trans z) hd ?_
 refine⟨by rw[qk O.ne];exact ho,?_,O.ne,O'.obj,_,O'.ns,λg=>?_,λg hg=>?_⟩
 . have:=ZD f y fs;omega
 . show Q0 ((QO f y fs).lookup g) (if g=f then some u else mA g)
   rw[ZC]
   by_cases q:g=f
   . rw[if_pos q,if_pos q];exact ry
   . rw[if_neg q,if_neg q];exact r g
 . by_cases q:g=f
   . rw[q];exact(Zs f y fs).1
   . refine(Zs f y fs).2 g (wi g λz=>hg ?_)
     show (if g=f then some u else mA g)=none
     rw[if_neg q];exact z
theorem qy.made (I:qy X pins σ H s):qy X pins σ (upd (upd H s.heap.objs.size (.own (s.heap.objs.size+1))) (s.heap.objs.size+1) (.ins C s.heap.objs.size []))
   {s with heap:=(s.heap.push PySem.W.emptyDict).push (PySem.W.instObj C s.heap.objs.size)}:=by
 have e1:(s.heap.push PySem.W.emptyDict).get? s.heap.objs.size=some PySem.W.emptyDict:=Heap.get?_push_size s.heap rfl
 have e2:((s.heap.push PySem.W.emptyDict).push (PySem.W.instObj C s.heap.objs.size)).get? (s.heap.objs.size+1)=some (PySem.W.instObj C s.heap.objs.size):=by
   have:=Heap.get?_push_size (s.heap.push PySem.W.emptyDict) (o:=PySem.W.instObj C s.heap.objs.size) rfl
   rwa [Heap.size_push]at this
 have e3:(s.heap.push PySem.W.emptyDict).Ns s.heap.objs.size (λ_=>none):=⟨PySem.W.emptyDict,#[],_,e1,rfl,(λe he=>absurd he (by simp)),λ_=>rfl⟩
 have I1:=I.laid (a:=s.heap.objs.size) (o:=.own (s.heap.objs.size+1)) (h':=s.heap.push PySem.W.emptyDict) (t':=s.toks) (λb u q=>Heap.get?_push_of_some _ q) (Nat.le_refl _) ⟨_,e1⟩
 refine I1.laid (a:=s.heap.objs.size+1) (o:=.ins C s.heap.objs.size []) (t':=s.toks) (λb u q=>Heap.get?_push_of_some _ q) (Nat.le_of_eq (Heap.size_push _ _)) ?_
 have ne:s.heap.objs.size≠s.heap.objs.size+1:=Nat.ne_of_lt (Nat.lt_succ_self _)
 refine⟨by rw[qk ne,qd],Nat.zero_le _,ne,e2,λ_=>none,(Heap.Ns1.of_empty e3).at λo q=>Heap.get?_push_of_some _ q,λ_=>True.intro,λy hy=>absurd rfl hy⟩
theorem xR {prog:Program} {w:World} {env:Env} {e:Expr} {f:Str} {pos:Pos} {s:Shared} {Q:Value->Shared->Prop} (hb:attributeBase e f env (eval e env)=eval e env)
   (h:wpAny (model prog w) A (eval e env) (λo s₁=>wpAny (model prog w) A (getAttr o f true) Q E s₁) E s):wpAny (model prog w) A (eval (.Attribute e f pos) env) Q E s:=
 Attribute_any_ h (by rw[arm_eval_Attribute,hb])
end
def Rf (K:PySem.W.Frag) (ta:TE) (f:Str):TE:=λσ H Q=>ta σ H λx H1=>∃a C dx fs v,x=.ref a/\H1 a=some (.ins C dx fs)/\WE K C/\Ji K C f/\fs.lookup f=some v/\Q v H1
def Rp (K:PySem.W.Frag) (ta tv:TE) (f:Str):TS:=λD σ H=>tv σ H λy H1=>ta σ H1 λx H2=>∃a C dx fs,x=.ref a/\H2 a=some (.ins C dx fs)/\WE K C/\Ji K C f/\fs.length < 1000/\
 D.nx σ (upd H2 a (.ins C dx (QO f y fs)))
section
variable {X:Cx} {o e value:Expr} {f:Str} {pos pos' tpos:Pos} {ta tv:TE}
theorem zx (he:JE X e ta) (hb:attributeBase e f X.env (eval e X.env)=eval e X.env):JE X (.Attribute e f pos) (Rf X.K ta f):=.of (by
 have he:=he.to
 intro pins s σ H Q I h
 refine xR hb (ja (he pins s σ H _ I h) λu s1 ⟨x,H1,I1,rx,a,C,dx,fs,v,ex,ea,c,n,l,q⟩=>?_)
 subst ex
 obtain rfl:u=Value.ref a:=rx
 exact Ws I1 ea c n l λu' s2 I2 ru=>⟨v,H1,I2,ru,q⟩)
theorem kh (ha:JE X o ta) (hv:JE X value tv) (hs:swapsWith value (some (.Attribute o f pos')) pos.line X.env=pure false):JS X (.Assign [.Attribute o f pos'] value pos) (Rp X.K ta tv f):=.of (by
 have ha:=ha.to
 have hv:=hv.to
 intro pins s σ H D I h
 refine plainObj_wpAny_Assign_Attribute (ja (hv pins s σ H _ I h) λu s1 ⟨y,H1,I1,ry,q⟩=>ja (ha pins s1 σ H1 _ I1 q) λov s2 ⟨x,H2,I2,rx,a,C,dx,fs,ex,ea,c,n,l,q2⟩=>?_) hs
 subst ex
 obtain rfl:ov=Value.ref a:=rx
 exact Wd I2 ea c n l ry λs3 I3=>⟨σ,_,I3,q2⟩)
end
section
variable {X:Cx} {pins:List (Addr×Obj)} {σ:St} {H:Hp} {s:Shared} {A:Around} {E:Value->Shared->Prop} {Q:Value->Shared->Prop} {c:Value} {b:Bool}
inductive Zx (K:PySem.W.Frag) (H:Hp):V->Value->Prop where
 | non:Zx K H .non (.type "NoneType")
 | bl (x:Bool):Zx K H (.bl x) (.type "bool")
 | int (i:Int):Zx K H (.int i) (.type "int")
 | str (x:Str):Zx K H (.str x) (.type "str")
 | flt (x:UInt64):Zx K H (.flt x) (.type "float")
 | lst {a:Addr} {xs:List V} (e:H a=some (.lst xs)):Zx K H (.ref a) (.type "list")
 | frz {a:Addr} {o:Obj} {xs:List V} (e:H a=some (.frz o (.lst xs))):Zx K H (.ref a) (.type "list")
 | tup {a:Addr} {xs:List V} (e:H a=some (.tup xs)):Zx K H (.ref a) (.type "tuple")
 | dK {a:Addr} {kvs:List (qw×V)} (e:H a=some (.dK kvs)):Zx K H (.ref a) (.type "dict")
 | dT {a:Addr} {kvs:List (List qw×V)} (e:H a=some (.dT kvs)):Zx K H (.ref a) (.type "dict")
 | ins {a C dx:Addr} {fs:List (Str×V)} (e:H a=some (.ins C dx fs)) (cl:WE K C) (ha:PySem.W.findIn K (.ref C) "__class__"=some (some (.builtin "object.__class__")))
     (hn:PySem.W.specialIn K (.builtin "object.__class__") "__get__"=some (some (.builtin "getset_descriptor.__get__"))) (htk:PySem.W.takesIn K (.builtin "object.__class__")=some true)
     (hm:PySem.W.mroIn K C (.type "object")=some true):Zx K H (.ref a) (.ref C)
theorem QJ {x:V} {u t:Value} (I:qy X pins σ H s) (rx:qN x u) (ty:Zx X.K H x t) (e:PySem.W.kitOne X.K t c=some b) (h:∀tk,Q (.bool b) {s with toks:=tk}):
   wpAny (model X.prog X.w) A (call (.builtin "isinstance") [u,c]) Q E s:=by
 cases ty with
 | non=>cases (show u=Value.none from rx);exact PySem.W.kia_one PySem.W.kitx_none I.kIn True.intro e (λz=>nomatch z) h
 | bl y=>cases (show u=Value.bool y from rx);exact PySem.W.kia_one PySem.W.kitx_bool I.kIn True.intro e (λz=>nomatch z) h
 | int i=>obtain⟨t,q⟩:=(show ∃t,u=Value.int i t from rx);cases q;exact PySem.W.kia_one PySem.W.kitx_int I.kIn True.intro e (λz=>nomatch z) h
 | str y=>obtain⟨t,q⟩:=(show ∃t,u=Value.str y t from rx);cases q;exact PySem.W.kia_one PySem.W.kitx_str I.kIn True.intro e (λz=>nomatch z) h
 | flt y=>obtain⟨t,q⟩:=(show ∃t,u=Value.float y t from rx);cases q;exact PySem.W.kia_one PySem.W.kitx_float I.kIn True.intro e (λz=>nomatch z) h
 | @lst a xs ea=>
   cases (show u=Value.ref a from rx)
   obtain⟨_,_,n,_,h1⟩:=(show qU X.prog X.w H s.heap a (.lst xs) from I.hok a _ ea)
   exact PySem.W.kia_one PySem.W.kitx_list I.kIn ⟨_,h1,rfl⟩ e (λz=>nomatch z) h
 | @frz a ob xs ea=>
   cases (show u=Value.ref a from rx)
   obtain⟨_,_,_,n,_,h1⟩:=(show qU X.prog X.w H s.heap a (.frz ob (.lst xs)) from I.hok a _ ea)
   exact PySem.W.kia_one PySem.W.kitx_list I.kIn ⟨_,h1,rfl⟩ e (λz=>nomatch z) h
 | @tup a xs ea=>
   cases (show u=Value.ref a from rx)
   obtain⟨_,_,_,p⟩:=(show qU X.prog X.w H s.heap a (.tup xs) from I.hok a _ ea)
   obtain⟨o,h1,h2,_⟩:=p
   exact PySem.W.kia_one PySem.W.kitx_tuple I.kIn ⟨o,h1,h2⟩ e (λz=>nomatch z) h
 | @dK a kvs ea=>
   cases (show u=Value.ref a from rx)
   obtain⟨_,_,vs,_,p⟩:=(show qU X.prog X.w H s.heap a (.dK kvs) from I.hok a _ ea)
   obtain⟨o,es,ep,h1,h2,_⟩:=p
   exact PySem.W.kia_one PySem.W.kitx_dict I.kIn ⟨o,h1,h2.1⟩ e (λz=>nomatch z) h
 | @dT a kvs ea=>
   cases (show u=Value.ref a from rx)
   obtain⟨_,_,xs,_,o,es,ep,h1,h2,_⟩:=(show qU X.prog X.w H s.heap a (.dT kvs) from I.hok a _ ea)
   exact PySem.W.kia_one PySem.W.kitx_dict I.kIn ⟨o,h1,h2.1⟩ e (λz=>nomatch z) h
 | @ins a C dx fs ea cl ha hn htk hm=>
   cases (show u=Value.ref a from rx)
   obtain⟨mA,O,_⟩:=ZS I.hok ea
   obtain⟨od,J,_⟩:=O.look
   exact PySem.W.kia_one (PySem.W.kitx_own (cl.get _) cl.hd ha hn htk hm) I.kIn J e (λz=>nomatch z) h
end
end L2
namespace L2
open PySem PySem.Spec PyProof.Rows
structure jq (k:Nat) (A:Around):Prop where
 hd:A.handled=none
 dp:A.depth+3*k+5 < recursionLimit
 un:A.units+16*k+200 < cLine
 gd:A.guards=some []
theorem jq.mono {j k:Nat} {A:Around} (r:jq k A) (h:j<=k):jq j A:=⟨r.hd,by have:=r.dp;omega,by have:=r.un;omega,r.gd⟩
theorem jq.deeper {k:Nat} {A:Around} (r:jq (k+1) A) (env:Env):jq k (A.deeper env):=
 ⟨r.hd,by have:=r.dp;show A.depth+1+3*k+5 < _;omega,by have:=r.un;show A.units+3+16*k+200 < _;omega,r.gd⟩
theorem Wo {A:Around} {C:Addr} {us:List Value} {kw:List (Str×Value)}:(A.under (.builtin "type.__call__" ⟨.ref C::us,kw⟩)).depth=A.depth+1:=by
 first | rfl | simp [Around.under,Code.weight,Code.isCreation,Code.isGuard,Code.isCaller,Code.frames,Code.isFrame,guardIds]
theorem Wn {A:Around} {C:Addr} {us:List Value} {kw:List (Str×Value)}:(A.under (.builtin "type.__call__" ⟨.ref C::us,kw⟩)).units=A.units+1:=by
 first | rfl | simp [Around.under,Code.cUnits,Code.frames,Code.isFrame]
theorem jq.make {k:Nat} {A:Around} (r:jq (k+1) A) (C:Addr) (us:List Value) (kw:List (Str×Value)):jq k (A.under (.builtin "type.__call__" ⟨.ref C::us,kw⟩)):=
 ⟨r.hd,by have:=r.dp;rw[Wo];omega,by have:=r.un;rw[Wn];omega,(by have:=r.gd;first | exact this | simpa [Around.under,Code.isGuard,guardIds] using this)⟩
theorem jq.depth {k:Nat} {A:Around} (r:jq k A):A.depth < recursionLimit:=by have:=r.dp;omega
theorem jq.units {k:Nat} {A:Around} (r:jq k A):A.units+64 < cLine:=by have:=r.un;omega
def QN:TA:=λ_ H Q=>Q [] H
def ju (ta:TE) (tr:TA):TA:=λσ H Q=>ta σ H λx H1=>tr σ H1 λxs H2=>Q (x::xs) H2
section
variable {X:Cx} {e:Expr} {es:List Expr} {te:TE} {t:TA} {pos:Pos}
theorem qe:JA X [] QN:=.of (by
 exact λ_ _ _ _ H Q I h=>Calls.spliced_nil ⟨[],H,I,.nil,h⟩)
theorem qb (ha:JE X e te) (hr:JA X es t) (hs:starEach (e::es) X.env=(false,eval e X.env)::starEach es X.env:=by rfl):JA X (e::es) (ju te t):=.of (by
 have ha:=ha.to
 have hr:=hr.to
 intro pos pins s σ H Q I h
 rw[hs]
 show wpAny _ _ (spliced ((false,eval e X.env)::backTo pos (starEach es X.env))) _ _ s
 refine Calls.spliced_cons (ja (ha pins s σ H _ I h) λu s1 ⟨x,H1,I1,r1,q1⟩=>?_)
 exact ja (hr pos pins s1 σ H1 _ I1 q1) λus s2 ⟨xs,H2,I2,r2,q2⟩=>⟨x::xs,H2,I2,.cons r1 r2,q2⟩)
def VB (t:TA):TE:=λσ H Q=>t σ H λxs H1=>xs.length<=sizeLine/\∀p,H1 p=none->Q (.ref p) (upd H1 p (.tup xs))
def Kj (t:TA):TE:=λσ H Q=>t σ H λxs H1=>xs.length<=sizeLine/\∀p,H1 p=none->Q (.ref p) (upd H1 p (.lst xs))
theorem qW {x1} (h:JA X es t):JE X (.Tuple es x1 pos) (VB t):=.of (by
 have h:=h.to
 intro pins s σ H Q I hq
 refine wpAny_Tuple_spliced (ja (h pos pins s σ H _ I hq) λus s1 ⟨xs,H1,I1,r,z,q⟩=>⟨by rw[<-r.length];exact z,?_⟩)
 have hf:H1 s1.heap.objs.size=none:=I1.hok.fresh (Nat.le_refl _)
 refine⟨.ref s1.heap.objs.size,upd H1 s1.heap.objs.size (.tup xs),I1.laid (t':=s1.toks) (λb u e=>Heap.get?_push_of_some _ e) (Nat.le_refl _) ?_,rfl,q _ hf⟩
 exact⟨z,us,r,⟨_,Heap.get?_push_size _ rfl,rfl,_,rfl⟩⟩)
theorem jk (h:JA X es t):JE X (.List es pos) (Kj t):=.of (by
 have h:=h.to
 intro pins s σ H Q I hq
 refine wpAny_List_spliced (ja (h pos pins s σ H _ I hq) λus s1 ⟨xs,H1,I1,r,z,q⟩=>⟨by rw[<-r.length];exact z,?_⟩)
 have hf:H1 s1.heap.objs.size=none:=I1.hok.fresh (Nat.le_refl _)
 refine⟨.ref s1.heap.objs.size,upd H1 s1.heap.objs.size (.lst xs),I1.laid (t':=s1.toks) (λb u e=>Heap.get?_push_of_some _ e) (Nat.le_refl _) ?_,rfl,q _ hf⟩
 exact⟨z,us,0,r,Heap.get?_push_size _ rfl⟩)
end
abbrev Sp:=List V->Hp->VK->XK->Prop
abbrev Xg:=List Env->Hp->Shared->XK->Value->Shared->Prop
structure X3 (P:Program) (w:World) (K:PySem.W.Frag) (mg:Str->Option Value) (base:Heap) (A:Around) (outer:List Env) (s:Shared) (H:Hp):Prop where
 frames:A.frames=some outer
 mod:Mod K mg base
 bs:∀b o,base.get? b=some o->s.heap.get? b=some o/\H b=none
 bsz:base.objs.size<=s.heap.objs.size
 funs:s.heap.FunFrames base outer
 frf:∀b∈kG outer,H b=none
 hok:Jx P w H s.heap
 bare:AllBare s.gens
def CE (outer:List Env) (P:Program) (w:World) (H:Hp) (s:Shared) (Q:VK) (u:Value) (s':Shared):Prop:=
 ∃v H',s'.os=s.os/\AllBare s'.gens/\Un (kG outer) [] H H' s.heap s'.heap/\Jx P w H' s'.heap/\qN v u/\Q v H'
def CR (CX:Xg) (outer:List Env) (P:Program) (w:World) (H:Hp) (s:Shared) (Q:VK) (E:XK) (r:Result) (s':Shared):Prop:=
 match r with
 | .ok (.ret u)=>CE outer P w H s Q u s'
 | .ok _=>False
 | .error e=>CX outer H s E e s'
structure qI (P:Program) (w:World) (K:PySem.W.Frag) (mg:Str->Option Value) (base:Heap) (CX:Xg) (k:Nat) (f:Addr) (fd:FuncData) (ps:List Str) (sp:Sp):Prop where
 len:∀vs H Q E,sp vs H Q E->vs.length=ps.length
 run:∀(A:Around) (outer:List Env) (s:Shared) (H:Hp) (args:Args) (us:List Value) (vs:List V) (Q:VK) (E:XK),jq k A->X3 P w K mg base A outer s H->BindsTo s fd args (ps.zip us)->qL vs us->sp vs H Q E->
   codeAny (model P w) A (.call (.ref f) args) (CR CX outer P w H s Q E) s
theorem X3.make {P:Program} {w:World} {K:PySem.W.Frag} {mg:Str->Option Value} {base:Heap} {A:Around} {outer:List Env} {s:Shared} {H:Hp} (e:X3 P w K mg base A outer s H) (C:Addr) (us:List Value) (kw:List (Str×Value)):
   X3 P w K mg base (A.under (.builtin "type.__call__" ⟨.ref C::us,kw⟩)) outer s H:=⟨by first | exact e.frames | (simpa [Around.under,Code.envs,Code.isFrame,pushEnvs] using e.frames),e.mod,e.bs,e.bsz,e.funs,e.frf,e.hok,e.bare⟩
section
variable {X:Cx} {pins:List (Addr×Obj)} {σ:St} {H:Hp} {s s':Shared}
theorem qy.env0 (I:qy X pins σ H s):X3 X.prog X.w X.K X.mg X.base X.A X.stack s H:=
 ⟨I.ok.frames,I.ok.mod,I.bs,Nat.le_trans I.ok.bsz I.sz,I.stack,I.stkFree,I.hok,I.bare⟩
theorem qy.after {Q:VK} {u:Value} (I:qy X pins σ H s) (h:CE X.stack X.prog X.w H s Q u s'):EP X pins σ Q u s':=by
 obtain⟨v,H',os,bare,un,hok,r,q⟩:=h
 obtain⟨hh,g,d,t,os'⟩:=s'
 obtain rfl:os'=s.os:=os
 exact⟨v,H',I.call (h':=hh) (g':=g) (d':=d) (t':=t) (ch:=[]) un hok bare (λb z=>absurd z (by simp)),r,q⟩
end
def z8 (sp:Sp) (dvs:List V) (E:XK) (t:TA):TE:=λσ H Q=>t σ H λvs H1=>sp (vs++dvs) H1 Q E
def z7 (C:Addr) (m:Str) (sp:Sp) (dvs:List V) (E:XK) (ta:TE) (t:TA):TE:=λσ H Q=>ta σ H λx H1=>∃a dx fs,x=.ref a/\H1 a=some (.ins C dx fs)/\fs.lookup m=none/\
 t σ H1 λvs H2=>sp (x::(vs++dvs)) H2 Q E
def Ki (C:Addr) (sp:Sp) (dvs:List V) (E:XK) (t:TA):TE:=λσ H Q=>t σ H λvs H1=>∀x dx,H1 x=none->H1 dx=none->dx≠x->
 sp (.ref x::(vs++dvs)) (upd (upd H1 dx (.own x)) x (.ins C dx [])) (λv H2=>v=.non/\Q (.ref x) H2) E
def Qv (K:PySem.W.Frag) (fd:FuncData) (ps:List Str) (ds:List Value):Prop:=
 ∀(s:Shared) (us:List Value),K.In s.heap->(us++ds).length=ps.length->BindsTo s fd ⟨us,[]⟩ (ps.zip (us++ds))
theorem Qv.all {K:PySem.W.Frag} {fd:FuncData} {ps:List Str} (h:∀us:List Value,us.length=ps.length->bindArgs fd ⟨us,[]⟩=pure (ps.zip us)):Qv K fd ps []:=λs us _ hl=>by
 rw[List.append_nil]at hl ⊢
 exact .of_eq (h us hl)
def Q1 (CX:Xg) (X:Cx) (E:XK):Prop:=∀(pins:List (Addr×Obj)) (σ:St) (H:Hp) (s:Shared) (e:Value) (s':Shared),qy X pins σ H s->CX X.stack H s E e s'->X.xe e s'
section
variable {X:Cx} {CX:Xg} {k:Nat} {f C:Addr} {fd:FuncData} {ps:List Str} {sp:Sp} {dvs:List V} {ds:List Value} {E:XK} {x m:Str} {p pos apos:Pos} {e o:Expr} {es:List Expr} {ta:TE} {t:TA}
theorem Wi {pins:List (Addr×Obj)} {σ:St} {H:Hp} {s:Shared} {Q:VK} {us:List Value} {vs:List V} (F:qI X.prog X.w X.K X.mg X.base CX k f fd ps sp) (hr:jq k X.A) (hb:Qv X.K fd ps ds) (hd:qL dvs ds) (hx:Q1 CX X E)
   (I:qy X pins σ H s) (r:qL vs us) (h:sp (vs++dvs) H Q E):wpAny (model X.prog X.w) X.A (call (.ref f) us) (EP X pins σ Q) X.xe s:=by
 have r2:qL (vs++dvs) (us++ds):=r.append hd
 have hl:(us++ds).length=ps.length:=by rw[<-r2.length];exact F.len _ _ _ _ h
 refine wpAny_call (codeAny_mono (F.run X.A X.stack s H ⟨us,[]⟩ (us++ds) (vs++dvs) Q E hr I.env0 (hb s us I.kIn hl) r2 h) λr s' hq=>?_)
 cases r with
 | error e=>exact hx pins σ H s e s' I hq
 | ok fl=>
   cases fl with
   | ret u=>exact I.after hq
   | next=>exact False.elim hq
   | brk=>exact False.elim hq
   | cont=>exact False.elim hq
theorem yL (F:qI X.prog X.w X.K X.mg X.base CX k f fd ps sp) (hr:jq k X.A) (hg:Gl X x) (hm:X.mg x=some (.ref f)) (hk:PySem.W.keepIn X.K (.ref f)=true) (hb:Qv X.K fd ps ds) (hd:qL dvs ds) (hx:Q1 CX X E)
   (ha:PA X (e::es) t) (hdb:(x==("__debug__":Str))=false:=by decide) (he:starEach (e::es) X.env=(false,eval e X.env)::starEach es X.env:=by rfl) (hpl:(backTo pos (starEach es X.env)).any (·.1)=false:=by rfl):
   PE X (.Call (.Name x p) (e::es) [] pos) (z8 sp dvs E t):=by
 intro pins s σ H Q I h
 refine wpAny_Call_Name_kw (YU I hg hm ?_ hdb)
 refine PySem.W.callWith_K (h₀:=X.base) I.ok.mod.kin hk (ja (ha pos pins s σ H _ I h) λus s1 ⟨vs,H1,I1,r,q⟩=>⟨I1.kIn,?_⟩) he hpl
 exact Wi F hr hb hd hx I1 r q
theorem yK {pl:Sem Bool} (he:PE X o ta) (c:WE X.K C) (hm:Ux X.K C m f) (F:qI X.prog X.w X.K X.mg X.base CX k f fd ps sp) (hr:jq k X.A) (hb:Qv X.K fd ps ds) (hd:qL dvs ds) (hx:Q1 CX X E) (ha:PA X (e::es) t)
   (hst:starEach (e::es) X.env=(false,eval e X.env)::starEach es X.env:=by rfl) (hpl:(backTo pos (starEach es X.env)).any (·.1)=false:=by rfl)
   (ht:eval (.Call (.Attribute o m apos) (e::es) [] pos) X.env=(do
     let ov <-eval o X.env
     standAt apos.atName
     let (f,first) <-holding [ov] (getMethod ov m pl)
     callWith pos f first (backTo pos (starEach (e::es) X.env)) (backToKw pos (keywordEach [] X.env))):=by rfl):
   PE X (.Call (.Attribute o m apos) (e::es) [] pos) (z7 C m sp dvs E ta t):=by
 intro pins s σ H Q I h
 refine PySem.W.methodCall_KW (pl:=pl) (ja (he pins s σ H _ I h) λu s1 ⟨x,H1,I1,rx,a,dx,fs,ex,ea,l,q⟩=>?_) ht
 subst ex
 obtain rfl:u=Value.ref a:=rx
 refine zA I1 ea c hm l ?_
 refine PySem.W.callWith_K (first:=[.ref a]) (h₀:=X.base) I.ok.mod.kin hm.kp (ja (ha pos pins s1 σ H1 _ I1 q) λus s2 ⟨vs,H2,I2,r,q2⟩=>⟨I2.kIn,?_⟩) hst hpl
 exact Wi (us:=.ref a::us) (vs:=.ref a::vs) F hr hb hd hx I2 (.cons rfl r) q2
theorem xv {pl:Sem Bool} (he:JE X o ta) (c:WE X.K C) (hm:Ux X.K C m f) (F:qI X.prog X.w X.K X.mg X.base CX k f fd ps sp) (hr:jq k X.A) (hb:Qv X.K fd ps ds) (hd:qL dvs ds) (hx:Q1 CX X E) (ha:JA X (e::es) t) (hst:starEach (e::es) X.env=(false,eval e X.env)::starEach es X.env:=by rfl) (hpl:(backTo pos (starEach es X.env)).any (·.1)=false:=by rfl) (ht:eval (.Call (.Attribute o m apos) (e::es) [] pos) X.env=(do
     let ov <-eval o X.env
     standAt apos.atName
     let (f,first) <-holding [ov] (getMethod ov m pl)
     callWith pos f first (backTo pos (starEach (e::es) X.env)) (backToKw pos (keywordEach [] X.env))):=by rfl):JE X (.Call (.Attribute o m apos) (e::es) [] pos) (z7 C m sp dvs E ta t):=.of (yK he.to c hm F hr hb hd hx ha.to hst hpl ht)
theorem vh {pl:Sem Bool} (he:PE X o ta) (c:WE X.K C) (hm:Ux X.K C m f) (F:qI X.prog X.w X.K X.mg X.base CX k f fd ps sp) (hr:jq k X.A) (hb:Qv X.K fd ps ds) (hd:qL dvs ds) (hx:Q1 CX X E)
   (ht:eval (.Call (.Attribute o m apos) [] [] pos) X.env=(do
     let ov <-eval o X.env
     standAt apos.atName
     let (f,first) <-holding [ov] (getMethod ov m pl)
     callWith pos f first (backTo pos (starEach [] X.env)) (backToKw pos (keywordEach [] X.env))):=by rfl):
   PE X (.Call (.Attribute o m apos) [] [] pos) (z7 C m sp dvs E ta QN):=by
 intro pins s σ H Q I h
 refine PySem.W.methodCall_KW (pl:=pl) (ja (he pins s σ H _ I h) λu s1 ⟨x,H1,I1,rx,a,dx,fs,ex,ea,l,q⟩=>?_) ht
 subst ex
 obtain rfl:u=Value.ref a:=rx
 refine zA I1 ea c hm l ?_
 exact PySem.W.callWith_K0 (first:=[.ref a]) I1.kIn hm.kp (Wi (us:=[.ref a]) (vs:=[.ref a]) F hr hb hd hx I1 (.cons rfl .nil) q)
theorem kl {pl:Sem Bool} (he:JE X o ta) (c:WE X.K C) (hm:Ux X.K C m f) (F:qI X.prog X.w X.K X.mg X.base CX k f fd ps sp) (hr:jq k X.A) (hb:Qv X.K fd ps ds) (hd:qL dvs ds) (hx:Q1 CX X E) (ht:eval (.Call (.Attribute o m apos) [] [] pos) X.env=(do
     let ov <-eval o X.env
     standAt apos.atName
     let (f,first) <-holding [ov] (getMethod ov m pl)
     callWith pos f first (backTo pos (starEach [] X.env)) (backToKw pos (keywordEach [] X.env))):=by rfl):JE X (.Call (.Attribute o m apos) [] [] pos) (z7 C m sp dvs E ta QN):=.of (vh he.to c hm F hr hb hd hx ht)
structure Mk (K:PySem.W.Frag) (C f:Addr):Prop where
 makes:PySem.W.makesIn K C=true
 init:PySem.W.findIn K (.ref C) "__init__"=some (some (.ref f))
 fn:PySem.W.isFn K (.ref f)=true
 kp:PySem.W.keepIn K (.ref C)=true
theorem U3 {pins:List (Addr×Obj)} {σ:St} {H:Hp} {s:Shared} {Q:VK} {us:List Value} {vs:List V} (M:Mk X.K C f) (F:qI X.prog X.w X.K X.mg X.base CX k f fd ps sp) (hr:jq (k+1) X.A) (hb:Qv X.K fd ps ds) (hd:qL dvs ds)
   (hx:Q1 CX X E) (I:qy X pins σ H s) (r:qL vs us)
   (h:∀x dx,H x=none->H dx=none->dx≠x->sp (.ref x::(vs++dvs)) (upd (upd H dx (.own x)) x (.ins C dx [])) (λv H2=>v=.non/\Q (.ref x) H2) E):
   wpAny (model X.prog X.w) X.A (call (.ref C) us) (EP X pins σ Q) X.xe s:=by
 have hq:=h (s.heap.objs.size+1) s.heap.objs.size (I.hok.fresh (Nat.le_succ _)) (I.hok.fresh (Nat.le_refl _)) (Nat.ne_of_lt (Nat.lt_succ_self _))
 have I2:=qy.made (C:=C) I
 have r2:qL (V.ref (s.heap.objs.size+1)::(vs++dvs)) (Value.ref (s.heap.objs.size+1)::(us++ds)):=.cons rfl (r.append hd)
 have hl:(Value.ref (s.heap.objs.size+1)::us++ds).length=ps.length:=by
   have e:=r2.length
   rw[F.len _ _ _ _ hq]at e
   exact e.symm
 refine wpAny_call (vS (f:=f) I.kIn M.makes M.init (beq_iff_eq.mp M.fn) (codeAny_mono (F.run _ X.stack _ _ ⟨Value.ref (s.heap.objs.size+1)::us,[]⟩ (Value.ref (s.heap.objs.size+1)::(us++ds)) _ _ E (hr.make C us [])
   (I2.env0.make C us []) (hb _ (Value.ref (s.heap.objs.size+1)::us) I2.kIn hl) r2 hq) λr s' hq'=>?_))
 cases r with
 | error e=>exact hx pins σ _ _ e s' I2 hq'
 | ok fl=>
   cases fl with
   | ret u=>
     obtain⟨v,H',I3,rv,ev,q3⟩:=I2.after hq'
     subst ev
     exact⟨rv,⟨V.ref (s.heap.objs.size+1),H',I3,rfl,q3⟩⟩
   | next=>exact False.elim hq'
   | brk=>exact False.elim hq'
   | cont=>exact False.elim hq'
theorem xx (M:Mk X.K C f) (F:qI X.prog X.w X.K X.mg X.base CX k f fd ps sp) (hr:jq (k+1) X.A) (hg:Gl X x) (hm:X.mg x=some (.ref C)) (hb:Qv X.K fd ps ds) (hd:qL dvs ds) (hx:Q1 CX X E) (ha:JA X (e::es) t) (hdb:(x==("__debug__":Str))=false:=by decide) (he:starEach (e::es) X.env=(false,eval e X.env)::starEach es X.env:=by rfl) (hpl:(backTo pos (starEach es X.env)).any (·.1)=false:=by rfl):JE X (.Call (.Name x p) (e::es) [] pos) (Ki C sp dvs E t):=.of (by
 have ha:=ha.to
 intro pins s σ H Q I h
 refine wpAny_Call_Name_kw (YU I hg hm ?_ hdb)
 refine PySem.W.callWith_K (h₀:=X.base) I.ok.mod.kin M.kp (ja (ha pos pins s σ H _ I h) λus s1 ⟨vs,H1,I1,r,q⟩=>⟨I1.kIn,?_⟩) he hpl
 exact U3 M F hr hb hd hx I1 r q)
end
section
variable {X:Cx} {CX:Xg} {k:Nat} {f C:Addr} {fd:FuncData} {ps ks:List Str} {sp:Sp} {E:XK} {x m:Str} {p pos apos kpos:Pos} {e o:Expr} {es:List Expr} {kws:List Keyword} {te ta:TE} {t tk:TA} {nm:Option Str}
structure RY (K:PySem.W.Frag) (fd:FuncData) (ps ks:List Str) (g:List Value->List Value->List Value) (gV:List V->List V->List V):Prop where
 to:∀(s:Shared) (us ws:List Value),K.In s.heap->(g us ws).length=ps.length->BindsTo s fd ⟨us,ks.zip ws⟩ (ps.zip (g us ws))
 rel:∀{vs:List V} {us:List Value} {zs:List V} {ws:List Value},qL vs us->qL zs ws->qL (gV vs zs) (g us ws)
variable {g:List Value->List Value->List Value} {gV:List V->List V->List V}
end
structure qJ (N P:List Str) (sc:Scope):Prop where
 kind:sc.kind=.function
 co:sc.isCoroutine=false
 gen:sc.isGenerator=false
 nd:N.Nodup
 pre:N.take P.length=P
 par:∀x∈P,sc.names.lookup x=some .local\/sc.names.lookup x=some .cell
 nofree:∀y∈sc.names,y.2≠.free
theorem Yx {kindOf:Str->Option NameKind} {x:Str}:∀{binds:List (Str×Value)} {m:Str->Option Value},(∀v,(x,v)∉binds)->bindL kindOf binds m x=m x
 | [],_,_=>rfl
 | (n,v)::r,m,h=>by
   unfold bindL
   rw[Yx λw hw=>h w (List.mem_cons_of_mem _ hw)]
   split
   . have:x≠n:=by rintro rfl;exact h v List.mem_cons_self
     simp [this]
   . rfl
theorem Yz {kindOf:Str->Option NameKind} {x:Str}:∀{binds:List (Str×Value)} {m:Str->Option Value},(∀v,(x,v)∉binds)->bindC kindOf binds m x=m x
 | [],_,_=>rfl
 | (n,v)::r,m,h=>by
   unfold bindC
   rw[Yz λw hw=>h w (List.mem_cons_of_mem _ hw)]
   split
   . rfl
   . have:x≠n:=by rintro rfl;exact h v List.mem_cons_self
     simp [this]
theorem Yy {kindOf:Str->Option NameKind} {x:Str} {v:Value}:∀{P:List Str} {vs:List Value} {i:Nat} {m:Str->Option Value},P.Nodup->P[i]?=some x->vs[i]?=some v->kindOf x=some .local->
   bindL kindOf (P.zip vs) m x=some v
 | [],_,_,_,_,h,_,_=>by simp at h
 | _::_,[],_,_,_,_,h,_=>by simp at h
 | p::P,w::vs,0,m,nd,h1,h2,hk=>by
   simp at h1 h2;subst h1;subst h2
   show bindL kindOf ((p,w)::P.zip vs) m p=_
   unfold bindL
   rw[Yx λv hv=>(List.nodup_cons.mp nd).1 (List.of_mem_zip hv).1,if_pos hk]
   simp
 | p::P,w::vs,i+1,m,nd,h1,h2,hk=>by
   show bindL kindOf ((p,w)::P.zip vs) m x=_
   unfold bindL
   exact Yy (i:=i) (List.nodup_cons.mp nd).2 (by simpa using h1) (by simpa using h2) hk
theorem YA {kindOf:Str->Option NameKind} {x:Str} {v:Value}:∀{P:List Str} {vs:List Value} {i:Nat} {m:Str->Option Value},P.Nodup->P[i]?=some x->vs[i]?=some v->kindOf x≠some .local->
   bindC kindOf (P.zip vs) m x=some v
 | [],_,_,_,_,h,_,_=>by simp at h
 | _::_,[],_,_,_,_,h,_=>by simp at h
 | p::P,w::vs,0,m,nd,h1,h2,hk=>by
   simp at h1 h2;subst h1;subst h2
   show bindC kindOf ((p,w)::P.zip vs) m p=_
   unfold bindC
   rw[Yz λv hv=>(List.nodup_cons.mp nd).1 (List.of_mem_zip hv).1,if_neg hk]
   simp
 | p::P,w::vs,i+1,m,nd,h1,h2,hk=>by
   show bindC kindOf ((p,w)::P.zip vs) m x=_
   unfold bindC
   exact YA (i:=i) (List.nodup_cons.mp nd).2 (by simpa using h1) (by simpa using h2) hk
def JY (N:List Str) (vs:List V):St:=vs.map some++List.replicate (N.length - vs.length) none
def Wx (CX:Xg) (P:Program) (w:World) (K:PySem.W.Frag) (mg:Str->Option Value) (base:Heap) (N:List Str) (qual:Str) (scope:Scope) (f:Addr) (cd:Value) (A:Around) (outer:List Env) (s:Shared) (H:Hp) (E:XK):Cx where
 prog:=P
 w:=w
 K:=K
 mg:=mg
 base:=base
 A:=A.deeper (envOfC qual scope s.heap.objs.size f cd)
 N:=N
 s₀:=s
 H₀:=H
 env:=envOfC qual scope s.heap.objs.size f cd
 outer:=outer
 stack:=envOfC qual scope s.heap.objs.size f cd::outer
 ex:=[]
 calm:=true
 fn:=λ_=>true
 pn:=[]
 xe:=λe s'=>wpAny (model P w) (A.deeper (envOfC qual scope s.heap.objs.size f cd)) (leaving (envOfC qual scope s.heap.objs.size f cd) e) (λ_ s''=>CX outer H s E e s'') (λe' s''=>CX outer H s E e' s'') s'
theorem XW {sc:Scope} {n:Nat} {x:Str} (h:sc.names.lookup x=some .cell):∃c,(cellsFrom n sc.names []).lookup x=some c:=by
 have q:=PySem.W.cellsFrom_some sc.names n [] (.inl h)
 exact Option.isSome_iff_exists.mp q
theorem Uc {CX:Xg} {P:Program} {w:World} {K:PySem.W.Frag} {mg:Str->Option Value} {base:Heap} {N ps:List Str} {qual:Str} {scope:Scope} {f:Addr} {cd:Value} {A:Around} {outer:List Env} {s s1:Shared} {H:Hp} {E:XK} {us:List Value} {vs:List V}
   (S:qJ N ps scope) (hd:A.handled=none) (e0:X3 P w K mg base A outer s H) (hl:vs.length=ps.length) (r:qL vs us)
   (x:InCallC s s.heap.objs.size (bindL (envOfC qual scope s.heap.objs.size f cd).kindOf (ps.zip us) λ_=>none) (cellsFrom (s.heap.objs.size+1) scope.names []) (bindC (envOfC qual scope s.heap.objs.size f cd).kindOf (ps.zip us) λ_=>none) s1):
   qy (Wx CX P w K mg base N qual scope f cd A outer s H E) [] (JY N vs) H s1:=by
 have hpl:ps.length<=N.length:=by have:=congrArg List.length S.pre;rw[List.length_take]at this;omega
 obtain⟨h1,tk,rfl,hk⟩:=x.done
 have noA:∀b:Addr,b∉(Wx CX P w K mg base N qual scope f cd A outer s H E).ex:=λb z=>absurd (show b∈([]:List Addr) from z) (by simp)
 refine⟨⟨e0.mod,S.kind,rfl,rfl,Nat.le_refl _,λy z c h1 h2=>?_,λy hy=>?_,λy c _ h=>?_,λ_=>hd,Around.frames_deeper e0.frames,.inr ⟨rfl,rfl⟩,λb z=>absurd z (noA b),e0.bs,e0.bsz,λb _ _=>noA b,λb z=>absurd z (noA b),e0.funs,e0.frf⟩,
   rfl,e0.bare,Un.kept hk,⟨_,x.toInCall.ns,λi y v h1 h2 h3=>?_⟩,λy c h=>⟨_,x.cell y c h⟩,e0.hok.fresh (Nat.le_refl _),λy c h=>?_,λp hp=>absurd (show p∈([]:List (Addr×Obj)) from hp) (by simp),e0.hok.kept hk,?_⟩
 . exact name_of_addr x.apart (PySem.mem_of_lookup h1) (PySem.mem_of_lookup h2)
 . have hy:scope.names.lookup y=some .cell\/scope.names.lookup y=some .free:=hy
   rcases hy with hy | hy
   . exact XW hy
   . exact absurd rfl (S.nofree _ (PySem.mem_of_lookup hy))
 . exact Nat.le_of_lt (x.above y c (PySem.mem_of_lookup h))
 . have hi:i < vs.length:=by
     unfold JY at h2
     by_cases hi:i < vs.length
     . exact hi
     . rw[List.getElem?_append_right (by simpa using hi)]at h2
       rw[List.getElem?_replicate]at h2
       split at h2<;>cases h2
   have ha:vs[i]?=some v:=by
     unfold JY at h2
     rw[List.getElem?_append_left (by simpa using hi),List.getElem?_map]at h2
     cases e:vs[i]? with
     | none=>rw[e]at h2;cases h2
     | some a=>rw[e]at h2;cases h2;rfl
   obtain⟨u,hu,rv⟩:=r.get ha
   have hp:ps[i]?=some y:=by
     rw[<-S.pre,List.getElem?_take_of_lt (by omega)];exact h1
   have ndP:ps.Nodup:=by rw[<-S.pre];exact S.nd.sublist (List.take_sublist _ _)
   refine⟨u,rv,?_⟩
   rcases S.par y (List.mem_of_getElem? hp) with k | k
   . exact .inl ⟨k,Yy ndP hp hu k⟩
   . obtain⟨c,e⟩:=XW (n:=s.heap.objs.size+1) k
     refine .inr ⟨.inl k,c,e,?_⟩
     have q:=x.cell y c e
     rw[YA ndP hp hu (by show scope.names.lookup y≠_;rw[k];decide)]at q
     exact q
 . exact .inl (e0.hok.fresh (Nat.le_of_lt (x.above y c (PySem.mem_of_lookup h))))
 . unfold JY
   show _=N.length
   rw[List.length_append,List.length_map,List.length_replicate]
   omega
theorem Gc {CX:Xg} {P:Program} {w:World} {K:PySem.W.Frag} {mg:Str->Option Value} {base:Heap} {k:Nat} {f:Addr} {name qual:Str} {params:Arguments} {body:List Stmt} {scope:Scope} {dV kV doc pm cdv ct oc:Value} {an od:Option Addr}
   {osl:Array (Option Value)} {N ps:List Str} {sp:Sp} (lk:K.lookup f=some ⟨oc,od,.func (PySem.W.fnOf name qual params body scope dV kV doc pm an cdv ct),osl⟩) (hcd:PySem.W.codeIn K cdv qual=true) (S:qJ N ps scope)
   (len:∀vs H Q E,sp vs H Q E->vs.length=ps.length)
   (hbody:∀(A:Around) (outer:List Env) (s:Shared) (H:Hp) (vs:List V) (Q:VK) (E:XK),jq k (A.deeper (envOfC qual scope s.heap.objs.size f cdv))->sp vs H Q E->
     ∃t,wI (Wx CX P w K mg base N qual scope f cdv A outer s H E) body t/\t {nx:=λ_ H'=>Q .non H',rt:=Q} (JY N vs) H):
   qI P w K mg base CX (k+1) f (PySem.W.fnOf name qual params body scope dV kV doc pm an cdv ct) ps sp:=by
 refine⟨len,λA outer s H args us vs Q E hr e0 hb r hsp=>?_⟩
 have hl:=len _ _ _ _ hsp
 have KX:K.In s.heap:=e0.mod.kin.keeps λb o e=>(e0.bs b o e).1
 have lim:s.heap.NoLimit:=e0.mod.nolimit.keeps λb o e=>(e0.bs b o e).1
 have hkind:∀y∈ps.zip us,scope.names.lookup y.1=some .local\/(scope.names.lookup y.1=some .cell/\((cellsFrom (s.heap.objs.size+1) scope.names []).lookup y.1).isSome=true):=λ⟨n,v⟩ hy=>by
   rcases S.par n (List.of_mem_zip hy).1 with q | q
   . exact .inl q
   . exact .inr ⟨q,PySem.W.cellsFrom_some _ _ _ (.inl q)⟩
 refine codeAny_call_function hr.depth (KX _ _ lk) rfl S.co S.gen rfl (PySem.W.codeRec_of KX hcd) (hb _ _ _ _ ?_)
 refine wpAny_newFunctionEnv_cells S.kind hkind λenv he s1 x=>?_
 subst he
 refine⟨lim.keeps x.toInCall.keep,codeAny_func ?_⟩
 obtain⟨t,ht,hq⟩:=hbody A outer s H vs Q E (hr.deeper _) hsp
 have I:qy (Wx CX P w K mg base N qual scope f cdv A outer s H E) [] (JY N vs) H s1:=Uc S hr.hd e0 hl r x
 refine wpAny_mono (ht [] s1 (JY N vs) H _ I hq) (λfl s' hs=>?_) λe s' hs=>hs
 have fin:∀{σ':St} {H':Hp} {v:V} {u:Value},qy (Wx CX P w K mg base N qual scope f cdv A outer s H E) [] σ' H' s'->qN v u->Q v H'->CE outer P w H s Q u s':=
   λ{σ' H' v u} J rv q=>⟨v,H',J.os,J.bare,J.base,J.hok,rv,q⟩
 cases fl with
 | ret u=>
   obtain⟨v,σ',H',J,rv,q⟩:=hs
   exact fin J rv q
 | next=>
   obtain⟨σ',H',J,q⟩:=hs
   exact fin (v:=V.non) (u:=Value.none) J rfl q
 | brk=>
   obtain⟨_,_,_,q⟩:=hs
   exact False.elim q
 | cont=>
   obtain⟨_,_,_,q⟩:=hs
   exact False.elim q
end L2
namespace L2
open PySem PySem.Spec PyProof.Rows
section
variable {X:Cx} {x:Str} {p pos:Pos} {e:Expr} {es:List Expr} {t:TA} {id T:String} {r:List V->Hp->VK->Prop}
def Ks (r:List V->Hp->VK->Prop) (t:TA):TE:=λσ H Q=>t σ H λvs H1=>r vs H1 Q
theorem qo (hc:jn X (.builtin id) r) (hg:Gl X x) (hm:X.mg x=none) (hv:bootBuiltins x=some (.builtin id)) (ha:JA X (e::es) t) (hn:x≠"__name__":=by decide) (hdb:(x==("__debug__":Str))=false:=by decide) (he:starEach (e::es) X.env=(false,eval e X.env)::starEach es X.env:=by rfl) (hpl:(backTo pos (starEach es X.env)).any (·.1)=false:=by rfl):JE X (.Call (.Name x p) (e::es) [] pos) (Ks r t):=.of (by
 have ha:=ha.to
 intro pins s σ H Q I h
 refine wpAny_Call_Name_kw (Qf I hg hm hv ?_ hn hdb)
 exact PyProof.Rows.callWith_builtin1 (ja (ha pos pins s σ H _ I h) λus s1 ⟨vs,H1,I1,r1,q1⟩=>hc pins s1 σ H1 vs us Q I1 r1 q1) he hpl)
theorem jE (hc:jn X (.type T) r) (hg:Gl X x) (hm:X.mg x=none) (hv:bootBuiltins x=some (.type T)) (ha:JA X (e::es) t) (hn:x≠"__name__":=by decide) (hdb:(x==("__debug__":Str))=false:=by decide) (he:starEach (e::es) X.env=(false,eval e X.env)::starEach es X.env:=by rfl) (hpl:(backTo pos (starEach es X.env)).any (·.1)=false:=by rfl):JE X (.Call (.Name x p) (e::es) [] pos) (Ks r t):=.of (by
 have ha:=ha.to
 intro pins s σ H Q I h
 refine wpAny_Call_Name_kw (Qf I hg hm hv ?_ hn hdb)
 exact PyProof.Rows.callWith_type1 (ja (ha pos pins s σ H _ I h) λus s1 ⟨vs,H1,I1,r1,q1⟩=>hc pins s1 σ H1 vs us Q I1 r1 q1) he hpl)
end
end L2
namespace HT
open PySem PyProof.Rows
section
open PySem.SeqAt
open PySem.AutoSeq1 (wpAny_loadPart')
open PySem.MeetsSeq PySem.MeetsSeq2 PySem.MeetsSeq3
end
section
variable {prog:Program} {w:World} {A:Around} {E:Value->Shared->Prop} {s:Shared}
def sIx (n d:Nat):Option Int->Nat
 | none=>d
 | some v=>if v < 0 then (v+(n:Int)).toNat else min v.toNat n
end
end HT
namespace L2
open PySem PySem.Spec PyProof.Rows
abbrev TO:=St->Hp->(Option Int->Hp->Prop)->Prop
def PO (X:Cx) (e:Option Expr) (t:TO):Prop:=
 ∀(pins:List (Addr×Obj)) (s:Shared) (σ:St) (H:Hp) (Q:Option Int->Hp->Prop),qy X pins σ H s->t σ H Q->
   wpAny (model X.prog X.w) X.A (evalPart e X.env) (λu s'=>∃o H',qy X pins σ H' s'/\IsPart u o/\Q o H') X.xe s
@[irreducible] def JO (X:Cx) (e:Option Expr) (t:TO):Prop:=PO X e t
theorem JO.of {X:Cx} {e:Option Expr} {t:TO} (h:PO X e t):JO X e t:=by unfold JO;exact h
theorem JO.to {X:Cx} {e:Option Expr} {t:TO} (h:JO X e t):PO X e t:=by unfold JO at h;exact h
def yj:TO:=λ_ H Q=>Q none H
def Kf (t:TE):TO:=λσ H Q=>t σ H λx H1=>∃i,x=.int i/\Q (some i) H1
theorem zy {ns:List Int}:∀{us:List Value},qL (ns.map V.int) us->IntsAre us ns:=by
 induction ns with
 | nil=>intro us r;rw[List.map_nil]at r;cases r;exact .nil
 | cons n ns ih=>
   intro us r
   rw[List.map_cons]at r
   cases r with
   | cons r1 r2=>
     obtain⟨t,e⟩:=r1
     subst e
     exact .cons n t (ih r2)
section
variable {X:Cx} {e:Expr} {te:TE} {lo hi:Option Expr} {tl th:TO} {pos p2:Pos}
theorem YW:JO X none yj:=.of (by
 intro pins s σ H Q I h
 rw[evalPart_none]
 exact wpAny_pure ⟨none,H,I,.none,h⟩)
theorem YV (h:JE X e te):JO X (some e) (Kf te):=.of (by
 have h:=h.to
 intro pins s σ H Q I hw
 rw[evalPart_some]
 refine ja (h pins s σ H _ I hw) λu s1 ⟨x,H1,I1,r1,q1⟩=>?_
 obtain⟨i,rfl,q⟩:=q1
 obtain⟨t,rfl⟩:=r1
 exact⟨some i,H1,I1,.int i t,q⟩)
def RU (X:Cx) (r:V->Option Int->Option Int->Hp->VK->Prop):Prop:=
 ∀(pins:List (Addr×Obj)) (s:Shared) (σ:St) (H:Hp) (x:V) (v vl vu:Value) (lo hi:Option Int) (sl:Addr) (Q:VK),qy X pins σ H s->qN x v->s.heap.IsSliceOf sl vl vu .none->IsPart vl lo->IsPart vu hi->r x lo hi H Q->
   ∃T id,typeLookup (.type T) "__getitem__"=pure (some (.builtin id))/\s.TypeIs v T/\wpAny (model X.prog X.w) X.A (getItem v (.ref sl)) (EP X pins σ Q) X.xe s
def tSl (r:V->Option Int->Option Int->Hp->VK->Prop) (te:TE) (tl th:TO):TE:=λσ H Q=>te σ H λx H1=>tl σ H1 λl H2=>th σ H2 λu H3=>r x l u H3 Q
theorem zw {r:V->Option Int->Option Int->Hp->VK->Prop} (hr:RU X r) (he:JE X e te) (hl:JO X lo tl) (hu:JO X hi th):JE X (.Subscript e (.Slice lo hi none p2) pos) (tSl r te tl th):=.of (by
 have he:=he.to
 have hl:=hl.to
 have hu:=hu.to
 intro pins s σ H Q I h
 refine Subscript_ (ja (he pins s σ H _ I h) λv s1 ⟨x,H1,I1,r1,q1⟩=>?_)
 refine wpAny_Slice (ja (hl pins s1 σ H1 _ I1 q1) λvl s2 ⟨l,H2,I2,pl,q2⟩=>ja (hu pins s2 σ H2 _ I2 q2) λvu s3 ⟨u,H3,I3,pu,q3⟩=>?_)
 rw[evalPart_none]
 refine wpAny_pure ?_
 have I4:qy X pins σ H3 {s3 with heap:=s3.heap.push {cls:=.type "slice",data:=.fields #[vl,vu,.none]}}:=I3.kept (t':=s3.toks) λb ob q=>Heap.get?_push_of_some _ q
 obtain⟨T,id,hT,ht,hg⟩:=hr pins {s3 with heap:=s3.heap.push {cls:=.type "slice",data:=.fields #[vl,vu,.none]}} σ H3 x v vl vu l u s3.heap.objs.size Q I4 r1 (Heap.IsSliceOf.new ..) pl pu q3
 show wpAny (model X.prog X.w) X.A (subscriptTail e (.Slice lo hi none p2) v (.ref s3.heap.objs.size)) (EP X pins σ Q) X.xe {s3 with heap:=s3.heap.push {cls:=.type "slice",data:=.fields #[vl,vu,.none]}}
 exact tail_any (ops:=[.ref s3.heap.objs.size,v]) ht hT hg (by with_unfolding_all rfl))
def Uq (xs:List V) (lo hi:Option Int):List V:=(xs.drop (HT.sIx xs.length 0 lo)).take (HT.sIx xs.length xs.length hi - HT.sIx xs.length 0 lo)
theorem XV (xs:List V) (lo hi:Option Int):(Uq xs lo hi).length<=xs.length:=by
 unfold Uq
 rw[List.length_take,List.length_drop]
 omega
end
end L2
namespace L2
open PySem PySem.Spec PyProof.Rows
def ky (n:Nat) (i:Int):Option Nat:=if 0<=i then (if i < n then some i.toNat else none) else if -(n:Int)<=i then some (i+n).toNat else none
def JJ {α:Type} (xs:List α) (i:Int):Option α:=(ky xs.length i).bind λj=>xs[j]?
theorem xC {n:Nat} {i:Int} {j:Nat} (h:ky n i=some j):seqIndex? i n=some j/\j < n/\-(n:Int)<=i/\i < n:=by
 unfold ky at h
 by_cases h0:0<=i
 . rw[if_pos h0]at h
   by_cases h1:i < n
   . rw[if_pos h1]at h
     have e:i.toNat=j:=Option.some.inj h
     exact⟨by rw[seqIndex_of h0 h1,e],by omega,by omega,h1⟩
   . rw[if_neg h1]at h;cases h
 . rw[if_neg h0]at h
   by_cases h1:-(n:Int)<=i
   . rw[if_pos h1]at h
     have e:(i+n).toNat=j:=Option.some.inj h
     exact⟨by rw[seqIndex_neg (by omega) h1,e],by omega,h1,by omega⟩
   . rw[if_neg h1]at h;cases h
theorem Xc {α:Type} {xs:List α} {i:Int} {v:α} (h:JJ xs i=some v):∃j,seqIndex? i xs.length=some j/\xs[j]?=some v/\j < xs.length/\-(xs.length:Int)<=i/\i < xs.length:=by
 unfold JJ at h
 cases e:ky xs.length i with
 | none=>rw[e]at h;cases h
 | some j=>
   rw[e]at h
   obtain⟨h1,h2,h3,h4⟩:=xC e
   exact⟨j,h1,h,h2,h3,h4⟩
theorem ZU {α:Type} {xs:List α} {j:Nat} {v:α} (h:xs[j]?=some v):JJ xs (j:Int)=some v:=by
 have hj:j < xs.length:=(List.getElem?_eq_some_iff.mp h).1
 have e:ky xs.length (j:Int)=some j:=by
   unfold ky
   rw[if_pos (by omega),if_pos (by omega)];simp
 unfold JJ;rw[e];exact h
def xV (b:Expr):Prop:=∀o i,subscripted b false o i=operate [o,i] (getItem o i)
def G8 (X:Cx) (r:R2):Prop:=
 ∀(value slice:Expr) (pins:List (Addr×Obj)) (s:Shared) (σ:St) (H:Hp) (x y:V) (v u:Value) (Q:VK),qy X pins σ H s->qN x v->qN y u->r x y H Q->
   subscripted slice false v u=operate [v,u] (getItem v u)->wpAny (model X.prog X.w) X.A (subscriptTail value slice v u) (EP X pins σ Q) X.xe s
def G7 (X:Cx) (id:String) (r:V->List V->Hp->VK->Prop):Prop:=
 ∀(pins:List (Addr×Obj)) (s:Shared) (σ:St) (H:Hp) (x:V) (xs:List V) (v:Value) (us:List Value) (Q:VK),qy X pins σ H s->qN x v->qL xs us->r x xs H Q->
   wpAny (model X.prog X.w) X.A (call (.builtin id) (v::us)) (EP X pins σ Q) X.xe s
section
variable {X:Cx} {a b:Expr} {ta tb:TE} {pos:Pos}
theorem qH {r:R2} (hr:G8 X r) (ha:JE X a ta) (hb:JE X b tb) (hs:xV b):JE X (.Subscript a b pos) (Ju r ta tb):=.of (by
 have ha:=ha.to
 have hb:=hb.to
 intro pins s σ H Q I h
 exact Subscript_ (uW ha hb I h λv u s2 x y H2 I2 rx ry q=>hr a b pins s2 σ H2 x y v u Q I2 rx ry q (hs _ _)))
def yG (K:PySem.W.Frag):R2:=λx y H Q=>∃p xs i v,x=.ref p/\y=.int i/\SqL K H p xs/\JJ xs i=some v/\Q v H
def Q6 (K:PySem.W.Frag):R2:=λx y H Q=>∃p xs i v,x=.ref p/\y=.int i/\SqT K H p xs/\JJ xs i=some v/\Q v H
def Rv:R2:=λx y H Q=>∃z i c,x=.str z/\y=.int i/\z.length<=sizeLine/\JJ z.cps.toList i=some c/\Q (.str ⟨#[c]⟩) H
theorem jl:G8 X (yG X.K):=by
 intro value slice pins s σ H x y v u Q I rx ry h hs
 obtain⟨p,xs,i,z,rfl,rfl,hq,he,q⟩:=h
 cases rx
 obtain⟨t,rfl⟩:=ry
 obtain⟨its,r,pl,hz⟩:=I.list hq
 obtain⟨j,h1,h2,h3,h4,h5⟩:=Xc he
 obtain⟨w,ew,rw'⟩:=r.get h2
 have hl:=r.length
 have hn:=zp
 have fin:EP X pins σ Q w s:=⟨z,H,I,rw',q⟩
 by_cases h0:0<=i
 . have hj:i.toNat=j:=by
     rw[seqIndex_of h0 h5]at h1
     exact Option.some.inj h1
   exact item_listR pl.isList h0 (by omega) (by rw[hj];simpa using ew) fin hs
 . have hj:(i+(its.toArray.size:Int)).toNat=j:=by
     rw[seqIndex_neg (by omega) h4]at h1
     rw[List.size_toArray,<-hl]
     exact Option.some.inj h1
   exact subscriptTail_builtinR (x:=w) pl.isList.typeIs slot_list_getitem.lookup
     (wpAny_getItem_list_neg (Q:=λr s'=>r=w/\EP X pins σ Q r s') pl.isList (by omega) (by rw[List.size_toArray]<;>omega) (by omega) (by rw[hj];simpa using ew) ⟨rfl,fin⟩) hs
theorem qK:G8 X (Q6 X.K):=by
 intro value slice pins s σ H x y v u Q I rx ry h hs
 obtain⟨p,xs,i,z,rfl,rfl,hq,he,q⟩:=h
 cases rx
 obtain⟨t,rfl⟩:=ry
 obtain⟨its,r,pl,hz⟩:=I.tuple hq
 obtain⟨j,h1,h2,h3,h4,h5⟩:=Xc he
 obtain⟨w,ew,rw'⟩:=r.get h2
 have hl:=r.length
 have hn:=zp
 have fin:EP X pins σ Q w s:=⟨z,H,I,rw',q⟩
 exact subscriptTail_builtinR (x:=w) pl.typeIs slot_tuple_getitem.lookup
   (getItem_tuple (j:=j) (Q:=λr s'=>r=w/\EP X pins σ Q r s') pl (by omega) (by omega) (by rw[List.size_toArray,<-hl];exact h1) (by simpa using ew) ⟨rfl,fin⟩) hs
theorem kx:G8 X Rv:=by
 intro value slice pins s σ H x y v u Q I rx ry h hs
 obtain⟨z,i,c,rfl,rfl,hz,he,q⟩:=h
 obtain⟨t,rfl⟩:=rx
 obtain⟨t',rfl⟩:=ry
 obtain⟨j,h1,h2,h3,h4,h5⟩:=Xc he
 have hl:z.cps.toList.length=z.length:=by simp [Str.length]
 rw[hl]at h1 h4 h5
 have hn:=zp
 exact tail_any (typeIs_str s z t) slot_str_getitem.lookup (getItem_str (c:=c) (by
   have e1:decide (i < -(2^63:Int))=false:=decide_eq_false (by omega)
   have e2:decide (i ≥ 2^63)=false:=decide_eq_false (by omega)
   rw[e1,e2,Bool.or_false]) (by rw[h1];simpa using h2) ⟨.str ⟨#[c]⟩,H,I.tok _,⟨_,rfl⟩,q⟩) hs
theorem YI (lo hi:Option Int) (n:Nat):(sliceBounds lo hi none n).1=((HT.sIx n 0 lo:Nat):Int)/\(sliceBounds lo hi none n).2.1=((HT.sIx n n hi:Nat):Int)/\(sliceBounds lo hi none n).2.2=1:=by
 refine⟨?_,?_,rfl⟩
 . cases lo with
   | none=>simp [sliceBounds,HT.sIx]
   | some i=>
     simp only[sliceBounds,HT.sIx,Option.getD_none,show (1:Int) > 0 by decide,if_true]
     by_cases h:i < 0
     . simp only[h,if_true]<;>omega
     . simp only[h,if_false]<;>omega
 . cases hi with
   | none=>simp [sliceBounds,HT.sIx]
   | some i=>
     simp only[sliceBounds,HT.sIx,Option.getD_none,show (1:Int) > 0 by decide,if_true]
     by_cases h:i < 0
     . simp only[h,if_true]<;>omega
     . simp only[h,if_false]<;>omega
theorem zV (its:List Value) (lo hi:Option Int):slicePick its.toArray lo hi none=((its.drop (HT.sIx its.length 0 lo)).take (HT.sIx its.length its.length hi - HT.sIx its.length 0 lo)).toArray:=by
 obtain⟨h1,h2,h3⟩:=YI lo hi its.toArray.size
 unfold slicePick
 rw[h1,h2,h3]
 simp only[sliceRange_one,pick_run,List.size_toArray]<;>rfl
def Rs (K:PySem.W.Frag):V->Option Int->Option Int->Hp->VK->Prop:=λx lo hi H Q=>∃a xs,x=.ref a/\SqL K H a xs/\∀p,H p=none->Q (.ref p) (upd H p (.lst (Uq xs lo hi)))
theorem yu:RU X (Rs X.K):=by
 intro pins s σ H x v vl vu lo hi sl Q I rx hs pl pu h
 obtain⟨a,xs,rfl,hx,q⟩:=h
 cases rx
 obtain⟨its,r,ht,hz⟩:=I.list hx
 have hlen:=r.length
 refine⟨"list",_,slot_list_getitem.lookup,ht.isList.typeIs,?_⟩
 refine wpAny_getItem_list_slice ht.isList hs pl pu .none (by simp) ?_ (by rw[List.size_toArray]<;>omega)
 rw[zV,<-hlen]
 refine⟨.ref s.heap.objs.size,_,I.laid (t':=s.toks) (o:=.lst (Uq xs lo hi)) (λb ob q=>Heap.get?_push_of_some _ q) (Nat.le_refl _) ?_,rfl,q _ (I.hok.fresh (Nat.le_refl _))⟩
 exact⟨Nat.le_trans (XV xs lo hi) hz,_,0,(r.drop (HT.sIx xs.length 0 lo)).take (HT.sIx xs.length xs.length hi - HT.sIx xs.length 0 lo),Heap.get?_push_size _ rfl⟩
def Q4:V->Bool
 | .non=>true
 | .bl _=>true
 | .int _=>true
 | .str _=>true
 | _=>false
def kJ:V->V->Bool
 | .non,.non=>true
 | .bl a,.bl b=>a==b
 | .bl a,.int b=>(if a then 1 else 0)==b
 | .int a,.bl b=>a==(if b then 1 else 0)
 | .int a,.int b=>a==b
 | .str a,.str b=>a==b
 | _,_=>false
theorem kL {A:Around} {s:Shared} {y x:V} {u v:Value} (ry:qN y u) (rx:qN x v) (fy:Q4 y=true) (fx:Q4 x=true):SeqAt.EqAt A s u v (kJ y x):=by
 cases y with
 | non=>
   cases ry
   cases x with
   | non=>cases rx;exact SeqAt.EqAt.same _
   | bl b=>cases rx;exact SeqAt.EqAt.none_bool b
   | int b=>obtain⟨t,rfl⟩:=rx;exact SeqAt.EqAt.none_int b t
   | str b=>obtain⟨t,rfl⟩:=rx;exact SeqAt.EqAt.none_str b t
   | _=>exact absurd (show false=true from fx) Bool.false_ne_true
 | bl a=>
   cases ry
   cases x with
   | non=>cases rx;exact SeqAt.EqAt.bool_none a
   | bl b=>cases rx;exact SeqAt.EqAt.bool_bool a b
   | int b=>obtain⟨t,rfl⟩:=rx;exact SeqAt.EqAt.bool_int a b t
   | str b=>obtain⟨t,rfl⟩:=rx;exact SeqAt.EqAt.bool_str a b t
   | _=>exact absurd (show false=true from fx) Bool.false_ne_true
 | int a=>
   obtain⟨t',rfl⟩:=ry
   cases x with
   | non=>cases rx;exact SeqAt.EqAt.int_none a t'
   | bl b=>cases rx;exact SeqAt.EqAt.int_bool a t' b
   | int b=>obtain⟨t,rfl⟩:=rx;exact SeqAt.EqAt.int_int a t' b t
   | str b=>obtain⟨t,rfl⟩:=rx;exact SeqAt.EqAt.int_str a t' b t
   | _=>exact absurd (show false=true from fx) Bool.false_ne_true
 | str a=>
   obtain⟨t',rfl⟩:=ry
   cases x with
   | non=>cases rx;exact SeqAt.EqAt.str_none a t'
   | bl b=>cases rx;exact SeqAt.EqAt.str_bool a t' b
   | int b=>obtain⟨t,rfl⟩:=rx;exact SeqAt.EqAt.str_int a t' b t
   | str b=>obtain⟨t,rfl⟩:=rx;exact SeqAt.EqAt.str_str a t' b t
   | _=>exact absurd (show false=true from fx) Bool.false_ne_true
 | _=>exact absurd (show false=true from fy) Bool.false_ne_true
def Ww (x:V) (u:Value):Bool:=match u with
 | .none=>kJ .non x
 | .bool b=>kJ (.bl b) x
 | .int i _=>kJ (.int i) x
 | .str z _=>kJ (.str z) x
 | _=>false
theorem kK {x y:V} {u:Value} (r:qN y u) (f:Q4 y=true):Ww x u=kJ y x:=by
 cases y with
 | non=>cases r;rfl
 | bl b=>cases r;rfl
 | int i=>obtain⟨t,rfl⟩:=r;rfl
 | str z=>obtain⟨t,rfl⟩:=r;rfl
 | _=>exact absurd (show false=true from f) Bool.false_ne_true
theorem Zi {x:V}:∀{xs:List V} {us:List Value},qL xs us->xs.all Q4=true->us.any (Ww x)=xs.any λy=>kJ y x
 | _,_,.nil,_=>rfl
 | y::xs,u::us,.cons r t,f=>by
   rw[List.all_cons,Bool.and_eq_true]at f
   rw[List.any_cons,List.any_cons,kK r f.1,Zi t f.2]
theorem Jd {A:Around} {s:Shared} {x:V} {v:Value} (rx:qN x v) (fx:Q4 x=true):∀{xs:List V} {us:List Value},qL xs us->xs.all Q4=true->∀u∈us,SeqAt.EqAt A s u v (Ww x u)
 | _,_,.nil,_=>λu hu=>by cases hu
 | y::xs,u::us,.cons r t,f=>λu' hu=>by
   rw[List.all_cons,Bool.and_eq_true]at f
   rcases List.mem_cons.mp hu with rfl | hu
   . rw[kK r f.1];exact kL r rx f.1 fx
   . exact Jd rx fx t f.2 u' hu
def YZ (x:V) (xs:List V):Bool:=xs.any λy=>kJ y x
def Rx (K:PySem.W.Frag) (neg:Bool):R2:=λx y H Q=>∃p xs,y=.ref p/\(SqL K H p xs\/SqT K H p xs)/\Q4 x=true/\xs.all Q4=true/\Q (.bl (if neg then !YZ x xs else YZ x xs)) H
theorem Yd:QM X (compareOp .In) (Rx X.K false):=by
 intro pins s σ H x y v u Q I rx ry h
 obtain⟨p,xs,rfl,hq,fx,fs,q⟩:=h
 cases ry
 rcases hq with hq | hq
 . obtain⟨its,r,pl,hz⟩:=I.list hq
   refine SeqAt.in_listAt (Ww x) pl.isList (λw hw=>Jd rx fx r fs w (by simpa using hw)) ⟨.bl _,H,I,rfl,?_⟩
   rw[show its.toArray.any (Ww x)=its.any (Ww x) by simp,Zi r fs]
   exact q
 . obtain⟨its,r,pl,hz⟩:=I.tuple hq
   refine SeqAt.in_tupleAt (Ww x) pl (λw hw=>Jd rx fx r fs w (by simpa using hw)) ⟨.bl _,H,I,rfl,?_⟩
   rw[show its.toArray.any (Ww x)=its.any (Ww x) by simp,Zi r fs]
   exact q
theorem YO:QM X (compareOp .NotIn) (Rx X.K true):=by
 intro pins s σ H x y v u Q I rx ry h
 obtain⟨p,xs,rfl,hq,fx,fs,q⟩:=h
 cases ry
 rcases hq with hq | hq
 . obtain⟨its,r,pl,hz⟩:=I.list hq
   refine SeqAt.notIn_listAt (Ww x) pl.isList (λw hw=>Jd rx fx r fs w (by simpa using hw)) ⟨.bl _,H,I,rfl,?_⟩
   rw[show its.toArray.any (Ww x)=its.any (Ww x) by simp,Zi r fs]
   exact q
 . obtain⟨its,r,pl,hz⟩:=I.tuple hq
   refine SeqAt.notIn_tupleAt (Ww x) pl (λw hw=>Jd rx fx r fs w (by simpa using hw)) ⟨.bl _,H,I,rfl,?_⟩
   rw[show its.toArray.any (Ww x)=its.any (Ww x) by simp,Zi r fs]
   exact q
theorem qx:jn X (.builtin "len") (λxs H Q=>∃p ys,xs=[.ref p]/\(SqL X.K H p ys\/SqT X.K H p ys)/\Q (.int ys.length) H):=by
 intro pins s σ H xs us Q I r h
 obtain⟨p,ys,rfl,hq,q⟩:=h
 obtain⟨u,rfl,rx⟩:=jW r
 cases rx
 have hn:=zp
 rcases hq with hq | hq
 . obtain⟨its,r',pl,hz⟩:=I.list hq
   have hlen:=r'.length
   exact Calls.call_len_list pl.isList (by simp only[List.size_toArray]<;>omega) ⟨.int ys.length,H,I.tok _,⟨s.toks+1,by rw[List.size_toArray,hlen]⟩,q⟩
 . obtain⟨its,r',pl,hz⟩:=I.tuple hq
   have hlen:=r'.length
   exact len_tuple pl (by simp only[List.size_toArray]<;>omega) ⟨.int ys.length,H,I.tok _,⟨s.toks+1,by rw[List.size_toArray,hlen]⟩,q⟩
theorem QY:jn X (.builtin "len") (λxs H Q=>∃z,xs=[.str z]/\z.length<=sizeLine/\Q (.int z.length) H):=by
 intro pins s σ H xs us Q I r h
 obtain⟨z,rfl,hz,q⟩:=h
 obtain⟨u,rfl,t,rfl⟩:=jW r
 have hn:=zp
 exact len_str (by omega) ⟨.int z.length,H,I.tok _,⟨_,rfl⟩,q⟩
theorem jn.or {f:Value} {r r':List V->Hp->VK->Prop} (h:jn X f r) (h':jn X f r'):jn X f (λxs H Q=>r xs H Q\/r' xs H Q):=by
 intro pins s σ H xs us Q I rs q
 rcases q with q | q
 . exact h pins s σ H xs us Q I rs q
 . exact h' pins s σ H xs us Q I rs q
theorem QX:jn X (.type "list") (λxs H Q=>∃p ys,xs=[.ref p]/\(SqL X.K H p ys\/SqT X.K H p ys)/\∀l,H l=none->Q (.ref l) (upd H l (.lst ys))):=by
 intro pins s σ H xs us Q I r h
 obtain⟨p,ys,rfl,hq,q⟩:=h
 obtain⟨u,rfl,rx⟩:=jW r
 cases rx
 have fin:∀(its:List Value),qL ys its->ys.length<=sizeLine->∀(h':Heap) (c':Nat),(∀b o',s.heap.get? b=some o'->h'.get? b=some o')->
     h'.get? s.heap.objs.size=some {cls:=.type "list",dict:=none,data:=.seq its.toArray c',slots:=#[]}->EP X pins σ Q (.ref s.heap.objs.size) {s with heap:=h'}:=λits r' hz h' c' kp e=>
   ⟨.ref s.heap.objs.size,_,I.laid (t':=s.toks) kp (Nat.le_refl _) (show qU X.prog X.w _ h' _ (.lst ys) from⟨hz,its,c',r',e⟩),rfl,q _ (I.hok.fresh (Nat.le_refl _))⟩
 rcases hq with hq | hq
 . obtain⟨its,r',pl,hz⟩:=I.list hq
   have hlen:=r'.length
   obtain⟨o,ho,hc,n,hd⟩:=pl.isList
   exact call_list_seq p (.inl rfl) ho hc hd (λh' c' kp e=>fin its r' hz h' c' kp e) (by simp only[List.size_toArray]<;>omega)
 . obtain⟨its,r',pl,hz⟩:=I.tuple hq
   have hlen:=r'.length
   obtain⟨o,ho,hc,n,hd⟩:=pl
   exact call_list_seq p (.inr rfl) ho hc hd (λh' c' kp e=>fin its r' hz h' c' kp e) (by simp only[List.size_toArray]<;>omega)
theorem zW:jn X (.type "tuple") (λxs H Q=>∃p ys,xs=[.ref p]/\((SqL X.K H p ys/\∀l,H l=none->Q (.ref l) (upd H l (.tup ys)))\/(SqT X.K H p ys/\Q (.ref p) H))):=by
 intro pins s σ H xs us Q I r h
 obtain⟨p,ys,rfl,h⟩:=h
 obtain⟨u,rfl,rx⟩:=jW r
 cases rx
 rcases h with ⟨hq,q⟩ | ⟨hq,q⟩
 . obtain⟨its,r',pl,hz⟩:=I.list hq
   have hlen:=r'.length
   refine call_tuple_list pl.isList (λh' kp=>?_) (by simp only[List.size_toArray]<;>omega)
   have I1:qy X pins σ H {s with heap:=h'}:=I.kept (t':=s.toks) kp
   have I2:qy X pins σ (upd H h'.objs.size (.tup ys)) {s with heap:=h'.push {cls:=.type "tuple",data:=.seq its.toArray}}:=
     I1.laid (t':=s.toks) (λb o e=>Heap.get?_push_of_some _ e) (Nat.le_refl _) (show qU X.prog X.w _ _ _ (.tup ys) from⟨hz,its,r',IsTup.new _ _⟩)
   exact⟨.ref h'.objs.size,_,I2,rfl,q _ (I1.hok.fresh (Nat.le_refl _))⟩
 . obtain⟨its,r',pl,hz⟩:=I.tuple hq
   exact call_tuple_same pl ⟨.ref p,H,I,rfl,q⟩
def Ra (K:PySem.W.Frag) (T:String) (x:V) (H:Hp):Prop:=match x with
 | .str _=>T="str"
 | .int _=>T="int"
 | .ref p=>(T="list"/\∃xs,SqL K H p xs)\/(T="tuple"/\∃o,K.lookup p=some o/\o.cls=.type "tuple"/\o.dict=none)\/
     (T="dict"/\((∃kvs,H p=some (.dK kvs))\/∃kvs,H p=some (.dT kvs)))\/(T="set"/\∃S n,H p=some (.set S n))
 | _=>False
theorem UB {pins:List (Addr×Obj)} {σ:St} {H:Hp} {s:Shared} {T:String} {x:V} {v:Value} (I:qy X pins σ H s) (r:qN x v) (ty:Ra X.K T x H):
   s.TypeIs v T/\∀a,v=.ref a->∃ob,s.heap.get? a=some ob/\ob.dict=none:=by
 cases x with
 | str z=>
   obtain⟨t,rfl⟩:=r
   cases (show T="str" from ty)
   exact⟨typeIs_str s z t,λ_ e=>nomatch e⟩
 | int i=>
   obtain⟨t,rfl⟩:=r
   cases (show T="int" from ty)
   exact⟨typeIs_int s i t,λ_ e=>nomatch e⟩
 | ref p=>
   cases r
   rcases ty with ⟨rfl,xs,hq⟩ | ⟨rfl,o,hk,hc,hd⟩ | ⟨rfl,hk⟩ | ⟨rfl,S,n,hk⟩
   . obtain⟨its,_,pl,_⟩:=I.list hq
     refine⟨pl.isList.typeIs,λa e=>?_⟩
     cases e
     obtain⟨o,n,e,c,hd,_⟩:=pl
     exact⟨o,e,hd⟩
   . refine⟨⟨o,I.kIn p o hk,hc⟩,λa e=>?_⟩
     cases e
     exact⟨o,I.kIn _ o hk,hd⟩
   . have z:∃o,s.heap.get? p=some o/\o.ExactDict:=by
       rcases hk with ⟨kvs,hk⟩ | ⟨kvs,hk⟩
       . obtain⟨_,_,_,_,o,_,_,e,ex,_⟩:=I.hok p _ hk
         exact⟨o,e,ex⟩
       . obtain⟨_,_,_,_,o,_,_,e,ex,_⟩:=I.hok p _ hk
         exact⟨o,e,ex⟩
     obtain⟨o,e,ex⟩:=z
     refine⟨⟨o,e,ex.1⟩,λa e2=>?_⟩
     cases e2
     exact⟨o,e,ex.2.1⟩
   . obtain⟨o,_,_,_,e,ex,_⟩:=I.hok p _ hk
     refine⟨⟨o,e,ex.1⟩,λa e2=>?_⟩
     cases e2
     exact⟨o,e,ex.2.1⟩
 | _=>exact False.elim ty
def Rg (K:PySem.W.Frag) (T:String) (r:V->List V->Hp->VK->Prop) (to:TE):TE:=λσ H Q=>to σ H λx H1=>Ra K T x H1/\r x [] H1 Q
def tBM (K:PySem.W.Frag) (T:String) (r:V->List V->Hp->VK->Prop) (to:TE) (t:TA):TE:=λσ H Q=>to σ H λx H1=>Ra K T x H1/\t σ H1 λxs H2=>r x xs H2 Q
variable {o e:Expr} {es:List Expr} {to:TE} {t:TA} {name:Str} {apos cpos:Pos} {T id:String} {r:V->List V->Hp->VK->Prop}
theorem uN (pa:PlainAttrs T) (slot:Slot T name id) (hty:typeOf (.builtin id)=pure (.type "method_descriptor")) (hm:G7 X id r) (ho:JE X o to) (hbase:attributeBase o name X.env (eval o X.env)=eval o X.env:=by rfl) (hline:(apos.endLine==cpos.line)=true:=by rfl):JE X (.Call (.Attribute o name apos) [] [] cpos) (Rg X.K T r to):=.of (by
 have ho:=ho.to
 intro pins s σ H Q I h
 refine wpAny_Call_method0_late hbase hline (ja (ho pins s σ H _ I h) λv s1 ⟨x,H1,I1,r1,ty,q1⟩=>?_)
 obtain⟨h1,h2⟩:=UB I1 r1 ty
 exact⟨T,id,pa,slot,hty,h1,h2,Calls.callWith_builtin rfl (PySem.evalArgs_none (hm pins s1 σ H1 x [] v [] Q I1 r1 .nil q1))⟩)
theorem KM (pa:PlainAttrs T) (slot:Slot T name id) (hty:typeOf (.builtin id)=pure (.type "method_descriptor")) (hm:G7 X id r) (ho:PE X o to) (ha:PA X (e::es) t)
   (hbase:attributeBase o name X.env (eval o X.env)=eval o X.env:=by rfl)
   (hfew:((backTo cpos (starEach (e::es) X.env)).all (λx=> !x.1)&&(backToKw cpos (keywordEach [] X.env)).all (λx=>x.1.isSome)
     &&decide ((e::es).length+([]:List Keyword).length+(if ([]:List Keyword).isEmpty then 0 else 1) < 30))=true:=by rfl)
   (hline:(apos.endLine==cpos.line)=true:=by rfl) (hs:starEach (e::es) X.env=(false,eval e X.env)::starEach es X.env:=by rfl) (hplain:(backTo cpos (starEach es X.env)).any (·.1)=false:=by rfl):
   PE X (.Call (.Attribute o name apos) (e::es) [] cpos) (tBM X.K T r to t):=by
 intro pins s σ H Q I h
 refine wpAny_Call_method_late hbase hfew hline rfl (ja (ho pins s σ H _ I h) λv s1 ⟨x,H1,I1,r1,ty,q1⟩=>?_)
 obtain⟨h1,h2⟩:=UB I1 r1 ty
 refine⟨T,id,pa,slot,hty,h1,h2,?_⟩
 have hA:=ha cpos pins s1 σ H1 _ I1 q1
 rw[hs]at hA ⊢
 refine Calls.callWith_builtin (by show (false || (backTo cpos (starEach es X.env)).any (·.1))=false;rw[hplain]<;>rfl) (Calls.evalArgs_plain ?_)
 exact ja hA λus s2 ⟨vs,H2,I2,r2,q2⟩=>hm pins s2 σ H2 x vs v us Q I2 r1 r2 q2
theorem ku (pa:PlainAttrs T) (slot:Slot T name id) (hty:typeOf (.builtin id)=pure (.type "method_descriptor")) (hm:G7 X id r) (ho:JE X o to) (ha:JA X (e::es) t) (hbase:attributeBase o name X.env (eval o X.env)=eval o X.env:=by rfl) (hfew:((backTo cpos (starEach (e::es) X.env)).all (λx=> !x.1)&&(backToKw cpos (keywordEach [] X.env)).all (λx=>x.1.isSome)
     &&decide ((e::es).length+([]:List Keyword).length+(if ([]:List Keyword).isEmpty then 0 else 1) < 30))=true:=by rfl) (hline:(apos.endLine==cpos.line)=true:=by rfl) (hs:starEach (e::es) X.env=(false,eval e X.env)::starEach es X.env:=by rfl) (hplain:(backTo cpos (starEach es X.env)).any (·.1)=false:=by rfl):JE X (.Call (.Attribute o name apos) (e::es) [] cpos) (tBM X.K T r to t):=.of (KM pa slot hty hm ho.to ha.to hbase hfew hline hs hplain)
end
end L2
namespace L2
open PySem PySem.Spec PyProof.Rows
def MtM (X:Cx) (id:String) (r:V->List V->Hp->VK->Prop):Prop:=
 ∀(pins:List (Addr×Obj)) (s:Shared) (σ:St) (H:Hp) (x:V) (xs:List V) (v:Value) (us:List Value) (Q:VK),qy X pins σ H s->qN x v->qL xs us->r x xs H Q->
   wpAny (model X.prog X.w) X.A (call (.builtin id) (v::us)) (EP X pins σ Q) X.xe s
theorem qL.one:∀{x:V} {us:List Value},qL [x] us->∃u,us=[u]/\qN x u
 | _,_,.cons r .nil=>⟨_,rfl,r⟩
theorem qL.zero:∀{us:List Value},qL [] us->us=[]
 | _,.nil=>rfl
theorem qL.reverse {xs:List V} {us:List Value} (h:qL xs us):qL xs.reverse us.reverse:=by
 induction h with
 | nil=>exact .nil
 | cons r t ih=>rw[List.reverse_cons,List.reverse_cons];exact qL.append ih (.cons r .nil)
section
variable {X:Cx} {pins:List (Addr×Obj)} {σ:St} {H:Hp} {s:Shared} {l b:Addr} {xs ys zs:List V}
theorem qy.lset {its its':List Value} {n:Nat} {f:Array Value->Array Value} {t':Nat} (I:qy X pins σ H s) (hH:H l=some (.lst xs))
   (e:s.heap.get? l=some {cls:=.type "list",data:=.seq its.toArray n}) (hf:f its.toArray=its'.toArray) (hv:qL ys its') (hz:ys.length<=sizeLine):
   qy X pins σ (upd H l (.lst ys)) {s with heap:=s.heap.update l (Obj.mapSeq f),toks:=t'}:=by
 have q:=PySem.IsL.update e f
 rw[hf]at q
 refine I.write (x:=l) (e:=l) (by rw[hH];exact trivial) (.inl rfl) (λb' u hb hu=>(Heap.get?_update_other s.heap (Obj.mapSeq f) (Ne.symm hb)).trans hu) ⟨_,q⟩ ?_
 exact⟨hz,its',_,hv,q⟩
theorem qy.lstM (I:qy X pins σ H s) (hH:H l=some (.lst xs)):xs.length<=sizeLine/\∃(its:List Value) (n:Nat),qL xs its/\xs.length=its.length/\s.heap.get? l=some {cls:=.type "list",data:=.seq its.toArray n}:=by
 obtain⟨z,its,n,r,e⟩:=I.hok l _ hH
 exact⟨z,its,n,r,r.length,e⟩
end
section
variable {X:Cx}
def yH:V->List V->Hp->VK->Prop:=λx vs H Q=>∃l xs y,x=.ref l/\vs=[y]/\H l=some (.lst xs)/\xs.length < sizeLine/\Q .non (upd H l (.lst (xs++[y])))
theorem Zq:MtM X "list.append" yH:=by
 intro pins s σ H x vs v us Q I rx rv h
 obtain⟨l,xs,y,rfl,rfl,hH,hz,q⟩:=h
 cases rx
 obtain⟨u,rfl,ru⟩:=rv.one
 obtain⟨z,its,n,r,hl,e⟩:=I.lstM hH
 refine call_meets F.slot_list_append ⟨_,e,rfl⟩ F.entry_list_append (F.args_list_append_2 _ _) (PySem.list_append l its.toArray n u (by rw[List.size_toArray];omega)) ⟨e,?_⟩
 refine⟨.non,_,I.lset (its':=its++[u]) hH e (by simp) (r.append (.cons ru .nil)) ?_,rfl,q⟩
 rw[List.length_append,List.length_singleton]
 omega
def U8:V->List V->Hp->VK->Prop:=λx vs H Q=>∃l xs,x=.ref l/\vs=[]/\H l=some (.lst xs)/\Q .non (upd H l (.lst xs.reverse))
theorem Wm:MtM X "list.reverse" U8:=by
 intro pins s σ H x vs v us Q I rx rv h
 obtain⟨l,xs,rfl,rfl,hH,q⟩:=h
 cases rx
 have hus:=rv.zero
 subst hus
 obtain⟨z,its,n,r,hl,e⟩:=I.lstM hH
 refine call_meets F.slot_list_reverse ⟨_,e,rfl⟩ F.entry_list_reverse (F.args_list_reverse_1 _) (AutoSeq1.list_reverse_list_0 l its.toArray n (by rw[List.size_toArray];omega)) ⟨e,?_⟩
 refine⟨.non,_,I.lset (its':=its.reverse) hH e (by simp) r.reverse ?_,rfl,q⟩
 rw[List.length_reverse]
 omega
end
section
variable {prog:Program} {w:World} {A:Around} {E:Value->Shared->Prop} {s:Shared}
set_option maxRecDepth 100000 in
end
section
variable {X:Cx}
end
end L2
namespace L2
open PySem PySem.Spec PyProof.Rows
section
variable {κ:Type} [DecidableEq κ]
def qD (kvs:List (κ×V)) (k:κ):Option V:=(kvs.find? λkv=>decide (kv.1=k)).map (·.2)
def jf (kvs:List (κ×V)) (k:κ) (v:V):List (κ×V):=
 if (kvs.any λkv=>decide (kv.1=k))=true then kvs.map (λkv=>if kv.1=k then (kv.1,v) else kv) else kvs++[(k,v)]
def Qt (kvs:List (κ×V)) (k:κ):List (κ×V):=kvs.filter λkv=>decide (kv.1≠k)
theorem jd {p:κ×V} {r:List (κ×V)} {k:κ} (e:p.1=k):qD (p::r) k=some p.2:=by simp [qD,List.find?_cons,e]
theorem je {p:κ×V} {r:List (κ×V)} {k:κ} (e:¬p.1=k):qD (p::r) k=qD r k:=by simp [qD,List.find?_cons,e]
theorem Qq (k:κ):∀kvs:List (κ×V),(kvs.any λkv=>decide (kv.1=k))=(qD kvs k).isSome
 | []=>rfl
 | p::r=>by
   rw[List.any_cons]
   by_cases e:p.1=k
   . simp only[jd e,decide_eq_true e,Bool.true_or,Option.isSome_some]
   . rw[je e,decide_eq_false e,Bool.false_or];exact Qq k r
theorem Xl (k j:κ) (y:V):∀kvs:List (κ×V),qD (kvs.map λkv=>if kv.1=k then (kv.1,y) else kv) j=(qD kvs j).map λx=>if j=k then y else x
 | []=>rfl
 | p::r=>by
   have ih:=Xl k j y r
   rw[List.map_cons]
   by_cases h:p.1=k
   . rw[if_pos h]
     by_cases e:p.1=j
     . rw[jd (p:=(p.1,y)) e,jd e,Option.map_some,if_pos (e.symm.trans h)]
     . rw[je (p:=(p.1,y)) e,je e,ih]
   . rw[if_neg h]
     by_cases e:p.1=j
     . rw[jd (p:=p) e,jd e,Option.map_some,if_neg (λz=>h (e.trans z))]
     . rw[je (p:=p) e,je e,ih]
theorem z5 (k j:κ) (y:V):∀kvs:List (κ×V),qD kvs k=none->qD (kvs++[(k,y)]) j=if j=k then some y else qD kvs j
 | [],_=>by
   by_cases e:k=j
   . rw[if_pos e.symm];exact jd (p:=(k,y)) e
   . rw[if_neg (λz=>e z.symm)];exact je (p:=(k,y)) e
 | p::r,hn=>by
   rw[List.cons_append]
   have hk:¬p.1=k:=λz=>by rw[jd z]at hn;cases hn
   rw[je hk]at hn
   have ih:=z5 k j y r hn
   by_cases e:p.1=j
   . rw[jd e,jd e,if_neg (λz=>hk (e.trans z))]
   . rw[je e,je e,ih]
theorem Qp (kvs:List (κ×V)) (k j:κ) (y:V):qD (jf kvs k y) j=if j=k then some y else qD kvs j:=by
 unfold jf
 by_cases a:(kvs.any λkv=>decide (kv.1=k))=true
 . rw[if_pos a,Xl]
   rw[Qq]at a
   by_cases e:j=k
   . obtain⟨x,hx⟩:=Option.isSome_iff_exists.mp a
     rw[if_pos e,e,hx,Option.map_some,if_pos rfl]
   . rw[if_neg e]
     cases qD kvs j with
     | none=>rfl
     | some x=>rw[Option.map_some,if_neg e]
 . rw[if_neg a]
   refine z5 k j y kvs ?_
   rw[Qq]at a
   cases q:qD kvs k with
   | none=>rfl
   | some x=>rw[q]at a;exact(a rfl).elim
theorem Qz (kvs:List (κ×V)) (k:κ) (v:V):(jf kvs k v).length<=kvs.length+1:=by
 unfold jf
 split
 . rw[List.length_map];omega
 . rw[List.length_append,List.length_cons,List.length_nil];omega
theorem J6 {kvs:List (κ×V)} {k:κ} (v:V) (h:qD kvs k=none):jf kvs k v=kvs++[(k,v)]:=by
 unfold jf
 rw[Qq,h]
 exact if_neg (by decide)
theorem Q0.isSome_eq {o:Option V} {u:Option Value} (r:Q0 o u):o.isSome=u.isSome:=by
 cases o with
 | none=>cases u with
   | none=>rfl
   | some _=>exact(show False from r).elim
 | some _=>cases u with
   | none=>exact(show False from r).elim
   | some _=>rfl
theorem Q0.getD {o:Option V} {u:Option Value} {d:V} {d':Value} (r:Q0 o u) (rd:qN d d'):qN (o.getD d) (u.getD d'):=by
 cases o with
 | none=>cases u with
   | none=>exact rd
   | some _=>exact(show False from r).elim
 | some _=>cases u with
   | none=>exact(show False from r).elim
   | some _=>exact r
theorem KV.val {kvs:List (κ×V)} {vs:List (κ×Value)} (r:KV kvs vs) (k:κ):Q0 (qD kvs k) (valueAt vs k):=by
 unfold KV at r
 induction r with
 | nil=>exact True.intro
 | @cons p q ps qs h t ih=>
   obtain⟨h1,h2⟩:=h
   by_cases e:p.1=k
   . have e':q.1=k:=h1.symm.trans e
     have b:valueAt (q::qs) k=some q.2:=by simp [valueAt,List.find?_cons,e']
     rw[jd e,b];exact h2
   . have e':¬q.1=k:=λz=>e (h1.trans z)
     have b:valueAt (q::qs) k=valueAt qs k:=by simp [valueAt,List.find?_cons,e']
     rw[je e,b];exact ih
theorem KV.any {kvs:List (κ×V)} {vs:List (κ×Value)} (r:KV kvs vs) (k:κ):(kvs.any λkv=>decide (kv.1=k))=vs.any λkv=>decide (kv.1=k):=by
 unfold KV at r
 induction r with
 | nil=>rfl
 | cons h t ih=>rw[List.any_cons,List.any_cons,ih,h.1]
theorem KV.repl {kvs:List (κ×V)} {vs:List (κ×Value)} (r:KV kvs vs) (k:κ) {y:V} {u:Value} (ry:qN y u):
   KV (kvs.map λkv=>if kv.1=k then (kv.1,y) else kv) (vs.map λkv=>if kv.1=k then (kv.1,u) else kv):=by
 unfold KV at r ⊢
 induction r with
 | nil=>exact .nil
 | @cons p q ps qs h t ih=>
   rw[List.map_cons,List.map_cons]
   refine .cons ?_ ih
   obtain⟨h1,h2⟩:=h
   by_cases e:p.1=k
   . rw[if_pos e,if_pos (h1.symm.trans e)];exact⟨h1,ry⟩
   . rw[if_neg e,if_neg (λz=>e (h1.trans z))];exact⟨h1,h2⟩
theorem KV.put {kvs:List (κ×V)} {vs:List (κ×Value)} (r:KV kvs vs) (k:κ) {y:V} {u:Value} (ry:qN y u):KV (jf kvs k y) (stored vs k u):=by
 unfold jf stored
 rw[r.any k]
 by_cases e:(vs.any λkv=>decide (kv.1=k))=true
 . rw[if_pos e,if_pos e];exact r.repl k ry
 . rw[if_neg e,if_neg e];exact Paired.snoc r ⟨rfl,ry⟩
theorem KV.drop {kvs:List (κ×V)} {vs:List (κ×Value)} (r:KV kvs vs) (k:κ):KV (Qt kvs k) (without vs k):=by
 unfold KV at r ⊢
 unfold Qt without
 induction r with
 | nil=>exact .nil
 | @cons p q ps qs h t ih=>
   obtain⟨h1,h2⟩:=h
   rw[List.filter_cons,List.filter_cons]
   by_cases e:p.1=k
   . have a:¬decide (p.1≠k)=true:=by simp [e]
     have b:¬decide (q.1≠k)=true:=by simp [h1.symm.trans e]
     rw[if_neg a,if_neg b];exact ih
   . have e':¬q.1=k:=λz=>e (h1.trans z)
     have a:decide (p.1≠k)=true:=by simp [e]
     have b:decide (q.1≠k)=true:=by simp [e']
     rw[if_pos a,if_pos b];exact .cons ⟨h1,h2⟩ ih
theorem KV.length {kvs:List (κ×V)} {vs:List (κ×Value)} (r:KV kvs vs):kvs.length=vs.length:=Paired.length r
theorem XQ (kvs:List (κ×V)) (k:κ):(Qt kvs k).length<=kvs.length:=List.length_filter_le _ _
end
theorem ZE {P:Program} {w:World} {k:qw} {u:Value} (r:qN (kV k) u):(qF P w).is k u=true:=by
 cases k with
 | inl i=>obtain⟨t,e⟩:=(show ∃t,u=Value.int i t from r);subst e;exact XF P w i t
 | inr x=>obtain⟨t,e⟩:=(show ∃t,u=Value.str x t from r);subst e;exact Qy P w x t
theorem Ym {P:Program} {w:World}:∀{ks:List qw} {us:List Value},qL (ks.map kV) us->ItemsAre (qF P w) ks us
 | [],_,r=>by rw[List.map_nil]at r;cases r;exact .nil
 | k::ks,_,r=>by
   rw[List.map_cons]at r
   cases r with
   | cons h t=>exact .cons (ZE h) (Ym t)
abbrev KT (H:Hp):List (List qw×V)->List (List qw×Addr×Value)->Prop:=Paired λp q=>p.1=q.1/\H q.2.1=some (.tup (p.1.map kV))/\qN p.2 q.2.2
theorem KT.val {H:Hp} {kvs:List (List qw×V)} {xs:List (List qw×Addr×Value)} (r:KT H kvs xs) (k:List qw):Q0 (qD kvs k) ((atKey xs k).map (·.2)):=by
 induction r with
 | nil=>exact True.intro
 | @cons p q ps qs h t ih=>
   obtain⟨h1,_,h2⟩:=h
   by_cases e:p.1=k
   . have e':q.1=k:=h1.symm.trans e
     have b:atKey (q::qs) k=some q.2:=by simp [atKey,List.find?_cons,e']
     rw[jd e,b];exact h2
   . have e':¬q.1=k:=λz=>e (h1.trans z)
     have b:atKey (q::qs) k=atKey qs k:=by simp [atKey,List.find?_cons,e']
     rw[je e,b];exact ih
theorem KT.repl {H:Hp} {kvs:List (List qw×V)} {xs:List (List qw×Addr×Value)} (r:KT H kvs xs) (k:List qw) {y:V} {u:Value} (ry:qN y u):
   KT H (kvs.map λkv=>if kv.1=k then (kv.1,y) else kv) (xs.map (putAt k u)):=by
 induction r with
 | nil=>exact .nil
 | @cons p q ps qs h t ih=>
   rw[List.map_cons,List.map_cons]
   refine .cons ?_ ih
   obtain⟨h1,h2,h3⟩:=h
   unfold putAt
   by_cases e:p.1=k
   . rw[if_pos e,if_pos (h1.symm.trans e)];exact⟨h1,h2,ry⟩
   . rw[if_neg e,if_neg (λz=>e (h1.trans z))];exact⟨h1,h2,h3⟩
theorem KT.put {H:Hp} {kvs:List (List qw×V)} {xs:List (List qw×Addr×Value)} (r:KT H kvs xs) (k:List qw) {b:Addr} {y:V} {u:Value} (hb:H b=some (.tup (k.map kV))) (ry:qN y u):
   KT H (jf kvs k y) (storedH xs k b u):=by
 have e:(kvs.any λkv=>decide (kv.1=k))=(atKey xs k).isSome:=by
   rw[Qq,(r.val k).isSome_eq,Option.isSome_map]
 unfold jf storedH
 rw[e]
 by_cases q:(atKey xs k).isSome=true
 . rw[if_pos q,if_pos q];exact r.repl k ry
 . rw[if_neg q,if_neg q];exact Paired.snoc r ⟨rfl,hb,ry⟩
theorem KT.keeps {H H':Hp} {kvs:List (List qw×V)} {xs:List (List qw×Addr×Value)} (r:KT H kvs xs) (ht:∀b ys,H b=some (.tup ys)->H' b=some (.tup ys)):KT H' kvs xs:=
 Paired.mapP r λ_ _ z=>⟨z.1,ht _ _ z.2.1,z.2.2⟩
section
variable {P:Program} {w:World} {H:Hp} {h:Heap} {a:Addr}
theorem wp {u:HO} (ok:Jx P w H h) (e:Rd H a u):qU P w H h a u:=e.ok ok
theorem Zf {kvs:List (qw×V)} (ok:Jx P w H h) (e:Rd H a (.dK kvs)):kvs.length<=sizeLine/\(a==sysModules)=false/\∃vs,KV kvs vs/\h.DictOf (qF P w) a vs:=
 show qU P w H h a (.dK kvs) from wp ok e
theorem Yq {kvs:List (qw×V)} (ok:Jx P w H h) (e:H a=some (.dK kvs)):kvs.length<=sizeLine/\(a==sysModules)=false/\∃vs,KV kvs vs/\h.DictOf (qF P w) a vs:=Zf ok (.inl e)
theorem Zu {ks:List qw} (ok:Jx P w H h) (e:H a=some (.tup (ks.map kV))):(tupleKind (qF P w)).is h ks a:=by
 obtain⟨_,its,r,o,h1,h2,n,h3⟩:=(show qU P w H h a (.tup (ks.map kV)) from ok a _ e)
 exact⟨o,its.toArray,n,h1,h2,h3,by simpa using Ym r⟩
theorem zH {kvs:List (List qw×V)} (ok:Jx P w H h) (e:Rd H a (.dT kvs)):kvs.length<=sizeLine/\(a==sysModules)=false/\
   ∃xs,KT H kvs xs/\h.DictOfH (tupleKind (qF P w)) a xs:=by
 obtain⟨z,y,xs,r,o,es,ep,h1,h2,h3,h4,h5⟩:=(show qU P w H h a (.dT kvs) from wp ok e)
 refine⟨z,y,xs,r,o,es,ep,h1,h2,h3,h4,λx hx=>?_,h5⟩
 have all:∀{l:List (List qw×V)} {m:List (List qw×Addr×Value)},KT H l m->∀x∈m,(tupleKind (qF P w)).is h x.1 x.2.1:=by
   intro l m q
   induction q with
   | nil=>intro x hx;exact nomatch hx
   | @cons p q ps qs hq t ih=>
     intro x hx
     rcases List.mem_cons.mp hx with e | hx
     . subst e
       exact Zu ok (by rw[<-hq.1];exact hq.2.1)
     . exact ih x hx
 exact all r x hx
theorem Gf {kvs:List (List qw×V)} (ok:Jx P w H h) (e:H a=some (.dT kvs)):kvs.length<=sizeLine/\(a==sysModules)=false/\
   ∃xs,KT H kvs xs/\h.DictOfH (tupleKind (qF P w)) a xs:=zH ok (.inl e)
end
def jC (H:Hp) (a:Addr) (y:V) (r:Option V):Prop:=
 (∃kvs k,Rd H a (.dK kvs)/\y=kV k/\r=qD kvs k)\/∃kvs k b,Rd H a (.dT kvs)/\y=.ref b/\H b=some (.tup (k.map kV))/\r=qD kvs k
def Qu (H:Hp) (a:Addr) (y v:V) (H':Hp):Prop:=
 (∃kvs k,H a=some (.dK kvs)/\y=kV k/\kvs.length < sizeLine/\H'=upd H a (.dK (jf kvs k v)))\/
 ∃kvs k b,H a=some (.dT kvs)/\y=.ref b/\H b=some (.tup (k.map kV))/\kvs.length < sizeLine/\H'=upd H a (.dT (jf kvs k v))
theorem jC.k {H:Hp} {a:Addr} {kvs:List (qw×V)} {k:qw} (e:H a=some (.dK kvs)):jC H a (kV k) (qD kvs k):=.inl ⟨kvs,k,.inl e,rfl,rfl⟩
theorem Qu.k {H:Hp} {a:Addr} {kvs:List (qw×V)} {k:qw} {v:V} (e:H a=some (.dK kvs)) (hl:kvs.length < sizeLine):Qu H a (kV k) v (upd H a (.dK (jf kvs k v))):=.inl ⟨kvs,k,e,rfl,hl,rfl⟩
theorem Qu.t {H:Hp} {a b:Addr} {kvs:List (List qw×V)} {k:List qw} {v:V} (e:H a=some (.dT kvs)) (eb:H b=some (.tup (k.map kV))) (hl:kvs.length < sizeLine):
   Qu H a (.ref b) v (upd H a (.dT (jf kvs k v))):=.inr ⟨kvs,k,b,e,rfl,eb,hl,rfl⟩
section
variable {X:Cx} {pins:List (Addr×Obj)} {σ:St} {H:Hp} {s:Shared} {a:Addr} {y v:V} {u r:Value} {o:Option V} {A:Around} {E:Value->Shared->Prop}
theorem qy.big (I:qy X pins σ H s):sysModules < s.heap.objs.size:=by
 have h:mainGlobals < s.heap.objs.size:=(I.mod.glob.keeps I.bk).lt
 exact Nat.lt_trans (by decide) h
theorem Up {Q:Value->Shared->Prop} (hu:A.units+1 < cLine) (I:qy X pins σ H s) (g:jC H a y (some v)) (ry:qN y u) (h:∀w' s',qy X pins σ H s'->qN v w'->Q w' s'):
   wpAny (model X.prog X.w) A (getItem (.ref a) u) Q E s:=by
 rcases g with ⟨kvs,k,e,ey,l⟩ | ⟨kvs,k,b,e,ey,eb,l⟩
 . subst ey
   obtain⟨z,hd,vs,rel,dd⟩:=Zf I.hok e
   obtain⟨w',hw,rw'⟩:=Q0.some_of (v:=v) (o:=valueAt vs k) (by rw[l];exact rel.val k)
   exact wpAny_getItem_of (ZE ry) dd.mapOf hw (h w' _ (I.tok _) rw')
 . subst ey
   cases (show u=Value.ref b from ry)
   obtain⟨z,hd,xs,rel,dd⟩:=zH I.hok e
   obtain⟨w',hw,rw'⟩:=Q0.some_of (v:=v) (o:=(atKey xs k).map (·.2)) (by rw[l];exact rel.val k)
   obtain⟨p,hp,hp2⟩:=Option.map_eq_some_iff.mp hw
   refine wpAny_getItem_heap (tupleKind_room_in1 hu) (Zu I.hok eb) dd hp ?_
   rw[hp2]
   exact h w' _ (I.tok _) rw'
theorem Gh {Q:Value->Shared->Prop} (hu:A.units+1 < cLine) (I:qy X pins σ H s) (g:jC H a y o) (ry:qN y u) (h:∀s',qy X pins σ H s'->Q (.bool o.isSome) s'):
   wpAny (model X.prog X.w) A (compareOp .In u (.ref a)) Q E s:=by
 rcases g with ⟨kvs,k,e,ey,l⟩ | ⟨kvs,k,b,e,ey,eb,l⟩
 . subst ey
   obtain⟨z,hd,vs,rel,dd⟩:=Zf I.hok e
   refine wpAny_in_of (ZE ry) hd dd.mapOf ?_
   rw[<-(rel.val k).isSome_eq,<-l]
   exact h _ (I.tok _)
 . subst ey
   cases (show u=Value.ref b from ry)
   obtain⟨z,hd,xs,rel,dd⟩:=zH I.hok e
   refine wpAny_in_heap (tupleKind_room_in1 hu) (Zu I.hok eb) hd dd ?_
   have q:=(rel.val k).isSome_eq
   rw[Option.isSome_map]at q
   rw[<-q,<-l]
   exact h _ (I.tok _)
theorem Vo {Q:Value->Shared->Prop} (hu:A.units+1 < cLine) (I:qy X pins σ H s) (g:jC H a y o) (ry:qN y u) (h:∀s',qy X pins σ H s'->Q (.bool (!o.isSome)) s'):
   wpAny (model X.prog X.w) A (compareOp .NotIn u (.ref a)) Q E s:=by
 rcases g with ⟨kvs,k,e,ey,l⟩ | ⟨kvs,k,b,e,ey,eb,l⟩
 . subst ey
   obtain⟨z,hd,vs,rel,dd⟩:=Zf I.hok e
   refine wpAny_notIn_of (ZE ry) hd dd.mapOf ?_
   rw[<-(rel.val k).isSome_eq,<-l]
   exact h _ (I.tok _)
 . subst ey
   cases (show u=Value.ref b from ry)
   obtain⟨z,hd,xs,rel,dd⟩:=zH I.hok e
   refine wpAny_notIn_heap (tupleKind_room_in1 hu) (Zu I.hok eb) hd dd ?_
   have q:=(rel.val k).isSome_eq
   rw[Option.isSome_map]at q
   rw[<-q,<-l]
   exact h _ (I.tok _)
theorem QW {h':Heap} {t':Nat} {ob:HO} (I:qy X pins σ H s) (mu:Ka (H a)) (hs:Heap.SameBut a s.heap h') (he:∃q,h'.get? a=some q) (new:qU X.prog X.w (upd H a ob) h' a ob):
   qy X pins σ (upd H a ob) {s with heap:=h',toks:=t'}:=
 I.write (x:=a) (e:=a) mu (.inl rfl) (λb q hb z=>(hs.2 b hb).trans z) he new
theorem zI {P:Program} {w:World} {H':Hp} {h':Heap} {kvs:List (qw×V)} {vs:List (qw×Value)} (z:kvs.length<=sizeLine) (hd:(a==sysModules)=false) (rel:KV kvs vs) (dd:h'.DictOf (qF P w) a vs):
   qU P w H' h' a (.dK kvs):=⟨z,hd,vs,rel,dd⟩
theorem Yr {H':Hp} {Q:Unit->Shared->Prop} (hu:A.units+1 < cLine) (I:qy X pins σ H s) (g:Qu H a y v H') (ry:qN y u) (rv:qN v r) (h:∀s',qy X pins σ H' s'->Q () s'):
   wpAny (model X.prog X.w) A (setItem (.ref a) u r) Q E s:=by
 rcases g with ⟨kvs,k,e,ey,l,eH⟩ | ⟨kvs,k,b,e,ey,eb,l,eH⟩
 . subst ey eH
   obtain⟨z,hd,vs,rel,dd⟩:=Yq I.hok e
   have hz:vs.length<=sizeLine:=by rw[<-rel.length];exact z
   have hl:(jf kvs k v).length<=sizeLine:=by have:=Qz kvs k v;omega
   refine wpAny_setItem_pairs (hsz:=hz) (ZE ry) dd λh' dd' hs=>h _ ?_
   have he:∃q,h'.get? a=some q:=let ⟨q,_,_,hq,_⟩:=dd';⟨q,hq⟩
   exact QW I (by rw[e];exact True.intro) hs he (zI hl hd (rel.put k rv) dd')
 . subst ey eH
   cases (show u=Value.ref b from ry)
   obtain⟨z,hd,xs,rel,dd⟩:=Gf I.hok e
   have hz:xs.length<=sizeLine:=by rw[<-Paired.length rel];exact z
   have hl:(jf kvs k v).length<=sizeLine:=by have:=Qz kvs k v;omega
   refine wpAny_setItem_heap (hsz:=hz) (tupleKind_room_in1 hu) (Zu I.hok eb) dd λh' dd' hs=>h _ ?_
   obtain⟨q,es,ep,hq,h2,h3,h4,_,h5⟩:=dd'
   refine QW I (by rw[e];exact True.intro) hs ⟨q,hq⟩ ⟨hl,hd,_,(rel.put k eb rv).keeps λc ys ec=>?_,q,es,ep,hq,h2,h3,h4,h5⟩
   rw[qk (Qx ec e (λz=>nomatch z))]
   exact ec
end
section
variable {X:Cx} {pins:List (Addr×Obj)} {σ:St} {H:Hp} {s:Shared} {a:Addr} {kvs:List (qw×V)} {k:qw} {u:Value} {A:Around} {E:Value->Shared->Prop}
theorem Gg {v:V} {more:List Value} {Q:Value->Shared->Prop} (I:qy X pins σ H s) (e:H a=some (.dK kvs)) (ry:qN (kV k) u) (l:qD kvs k=some v) (hm:more=[]\/∃x,more=[x])
   (h:∀w' s',qy X pins σ (upd H a (.dK (Qt kvs k))) s'->qN v w'->Q w' s'):wpAny (model X.prog X.w) A (call (.builtin "dict.pop") (.ref a::u::more)) Q E s:=by
 obtain⟨z,hd,vs,rel,dd⟩:=Yq I.hok e
 obtain⟨w',hw,rw'⟩:=Q0.some_of (v:=v) (o:=valueAt vs k) (by rw[<-l];exact rel.val k)
 have hp:(keyPart u).isSome=true:=by
   cases k with
   | inl i=>obtain⟨t,q⟩:=(show ∃t,u=Value.int i t from ry);subst q;rfl
   | inr x=>obtain⟨t,q⟩:=(show ∃t,u=Value.str x t from ry);subst q;rfl
 have ha:argsOk "dict.pop" ⟨.ref a::u::more,[]⟩:=by
   rcases hm with q | ⟨x,q⟩
   . subst q;exact PySem.F.args_dict_pop_2 _ _
   . subst q;exact PySem.F.args_dict_pop_3 _ _ _
 refine call_meetsIn PySem.F.slot_dict_pop dd.typeIs PySem.F.entry_dict_pop ha (meets_dict_pop_there (qF X.prog X.w) a (ZE ry) more hm hp)
   ⟨vs,w',dd,by rw[<-rel.length];exact z,hw,λh' dd' hs=>h w' _ ?_ rw'⟩
 have he:∃q,h'.get? a=some q:=let ⟨q,_,_,hq,_⟩:=dd';⟨q,hq⟩
 exact QW I (by rw[e];exact True.intro) hs he (zI (Nat.le_trans (XQ kvs k) z) hd (rel.drop k) dd')
theorem wF {Q:Value->Shared->Prop} (I:qy X pins σ H s) (e:Rd H a (.dK kvs)) (h:∀t s',qy X pins σ H s'->Q (.int kvs.length t) s'):wpAny (model X.prog X.w) A (call (.builtin "len") [.ref a]) Q E s:=by
 obtain⟨z,hd,vs,rel,dd⟩:=Zf I.hok e
 refine call_len_dict hd dd (by rw[<-rel.length];rw[sizeLine_eq]at z;omega) ?_
 rw[<-rel.length]
 exact h _ _ (I.tok _)
end
def Gs (i:Expr):Prop:=∀ov iv,subscripted i false ov iv=operate [ov,iv] (getItem ov iv)
theorem yp {prog:Program} {w:World} {A:Around} {E:Value->Shared->Prop} {s:Shared} {env:Env} {value slice:Expr} {pos:Pos} {T id:String} {Q:Value->Shared->Prop}
   (hl:typeLookup (.type T) "__getitem__"=pure (some (.builtin id))) (hs:Gs slice)
   (h:wpAny (model prog w) A (eval value env) (λo s₁=>wpAny (model prog w) A (eval slice env) (λi s₂=>s₂.TypeIs o T/\wpAny (model prog w) A (getItem o i) Q E s₂) E s₁) E s):
   wpAny (model prog w) A (eval (.Subscript value slice pos) env) Q E s:=by
 refine Subscript_ (wpAny_mono h (λo s₁ h₁=>wpAny_mono h₁ (λi s₂ h₂=>?_) λ_ _ x=>x) λ_ _ x=>x)
 obtain⟨hT,h₂⟩:=h₂
 unfold subscriptTail
 refine wpAny_bind ?_
 rw[getitemInPython_of_ne hT.not_modules]
 refine wpAny_bind (wpAny_specialOf hT hl ?_)
 have fin:wpAny (model prog w) A (subscripted slice false o i) (λr s₃=>wpAny (model prog w) A (letTemporaryGo value o r >>= λ_=>pure r) Q E s₃) E s₂:=by
   rw[hs o i]
   exact wpAny_operating (wpAny_mono h₂ (λr s₃ h₃=>wpAny_bind (wpAny_letTemporaryGo (wpAny_pure h₃))) λ_ _ x=>x)
 first
   | exact wpAny_pure (wpAny_bind fin)
   | exact wpAny_bind (wpAny_pure (wpAny_bind fin))
   | exact wpAny_bind fin
theorem XU {X:Cx} {pins:List (Addr×Obj)} {σ:St} {H:Hp} {s:Shared} {a:Addr} {y:V} {o:Option V} (I:qy X pins σ H s) (g:jC H a y o):s.TypeIs (.ref a) "dict":=by
 rcases g with ⟨kvs,k,e,_,_⟩ | ⟨kvs,k,b,e,_,_,_⟩
 . obtain⟨_,_,vs,_,dd⟩:=Zf I.hok e
   exact dd.typeIs
 . obtain⟨_,_,xs,_,dd⟩:=zH I.hok e
   exact dd.typeIs
def Xo (td ty:TE):TE:=λσ H Q=>td σ H λx H1=>ty σ H1 λy H2=>∃a v,x=.ref a/\jC H2 a y (some v)/\Q v H2
def Kq (ty td:TE):TE:=λσ H Q=>ty σ H λy H1=>td σ H1 λx H2=>∃a o,x=.ref a/\jC H2 a y o/\Q (.bl o.isSome) H2
def ym (ty td:TE):TE:=λσ H Q=>ty σ H λy H1=>td σ H1 λx H2=>∃a o,x=.ref a/\jC H2 a y o/\Q (.bl (!o.isSome)) H2
def wo (td ty tv:TE):TS:=λD σ H=>tv σ H λv H1=>td σ H1 λx H2=>ty σ H2 λy H3=>∃a H4,x=.ref a/\Qu H3 a y v H4/\D.nx σ H4
section
variable {X:Cx} {o i e value:Expr} {pos pos' tpos:Pos} {td ty tv:TE}
theorem jA (hu:X.A.units+1 < cLine) (ho:JE X o td) (hi:JE X i ty) (hs:Gs i):JE X (.Subscript o i pos) (Xo td ty):=.of (by
 have ho:=ho.to
 have hi:=hi.to
 intro pins s σ H Q I h
 refine yp PySem.F.slot_dict_getitem.lookup hs (ja (ho pins s σ H _ I h) λu s1 ⟨x,H1,I1,rx,q1⟩=>ja (hi pins s1 σ H1 _ I1 q1) λiv s2 ⟨y,H2,I2,ry,a,v,ex,g,q2⟩=>?_)
 subst ex
 obtain rfl:u=Value.ref a:=rx
 exact⟨XU I2 g,Up hu I2 g ry λw' s3 I3 rw'=>⟨v,H2,I3,rw',q2⟩⟩)
theorem YY (hu:X.A.units+1 < cLine) (hi:JE X i ty) (ho:JE X o td):JC X .In i o (Kq ty td):=.of (by
 have hi:=hi.to
 have ho:=ho.to
 intro pins s σ H Q I h
 refine ja (hi pins s σ H _ I h) λiv s1 ⟨y,H1,I1,ry,q1⟩=>ja (ho pins s1 σ H1 _ I1 q1) λu s2 ⟨x,H2,I2,rx,a,ov,ex,g,q2⟩=>?_
 subst ex
 obtain rfl:u=Value.ref a:=rx
 exact Gh hu I2 g ry λs3 I3=>⟨.bl ov.isSome,H2,I3,rfl,q2⟩)
theorem Ua (hu:X.A.units+1 < cLine) (hi:JE X i ty) (ho:JE X o td):JC X .NotIn i o (ym ty td):=.of (by
 have hi:=hi.to
 have ho:=ho.to
 intro pins s σ H Q I h
 refine ja (hi pins s σ H _ I h) λiv s1 ⟨y,H1,I1,ry,q1⟩=>ja (ho pins s1 σ H1 _ I1 q1) λu s2 ⟨x,H2,I2,rx,a,ov,ex,g,q2⟩=>?_
 subst ex
 obtain rfl:u=Value.ref a:=rx
 exact Vo hu I2 g ry λs3 I3=>⟨.bl (!ov.isSome),H2,I3,rfl,q2⟩)
theorem jz (hu:X.A.units+1 < cLine) (ho:JE X o td) (hi:JE X i ty) (hv:JE X value tv) (hs:swapsWith value (some (.Subscript o i pos')) pos.line X.env=pure false):JS X (.Assign [.Subscript o i pos'] value pos) (wo td ty tv):=.of (by
 have ho:=ho.to
 have hi:=hi.to
 have hv:=hv.to
 intro pins s σ H D I h
 refine wpAny_Assign_Subscript (ja (hv pins s σ H _ I h) λr s1 ⟨v,H1,I1,rv,q1⟩=>ja (ho pins s1 σ H1 _ I1 q1) λu s2 ⟨x,H2,I2,rx,q2⟩=>ja (hi pins s2 σ H2 _ I2 q2) λiv s3 ⟨y,H3,I3,ry,a,H4,ex,g,q3⟩=>?_) hs
 subst ex
 obtain rfl:u=Value.ref a:=rx
 exact Yr hu I3 g ry rv λs4 I4=>⟨σ,H4,I4,q3⟩)
end
theorem XT {P:Program} {w:World} {H:Hp} (h:Heap) (hb:sysModules < h.objs.size):qU P w H (h.push {cls:=.type "dict",data:=.dict #[]}) h.objs.size (.dK []):=
 ⟨Nat.zero_le _,beq_eq_false_iff_ne.mpr (Ne.symm (Nat.ne_of_lt hb)),[],.nil,Heap.DictOf.new h⟩
theorem kN {P:Program} {w:World} {H:Hp} (h:Heap) (hb:sysModules < h.objs.size):qU P w H (h.push {cls:=.type "dict",data:=.dict #[]}) h.objs.size (.dT []):=
 ⟨Nat.zero_le _,beq_eq_false_iff_ne.mpr (Ne.symm (Nat.ne_of_lt hb)),[],.nil,_,#[],0,Heap.get?_push_size _ rfl,⟨rfl,rfl,rfl⟩,rfl,rfl,List.nodup_nil⟩
def UJ:TE:=λ_ H Q=>∀p,H p=none->Q (.ref p) (upd H p (.dK []))
def UI:TE:=λ_ H Q=>∀p,H p=none->Q (.ref p) (upd H p (.dT []))
section
variable {X:Cx} {pos:Pos}
theorem vn:PE X (.Dict [] [] pos) UJ:=λpins s σ H Q I h=>
 wpAny_Dict_empty ⟨.ref s.heap.objs.size,_,I.laid (a:=s.heap.objs.size) (o:=.dK []) (t':=s.toks) (λ_ _ q=>Heap.get?_push_of_some _ q) (Nat.le_refl _) (XT s.heap I.big),rfl,h _ (I.hok.fresh (Nat.le_refl _))⟩
theorem j8:JE X (.Dict [] [] pos) UJ:=.of (vn)
theorem vk:PE X (.Dict [] [] pos) UI:=λpins s σ H Q I h=>
 wpAny_Dict_empty ⟨.ref s.heap.objs.size,_,I.laid (a:=s.heap.objs.size) (o:=.dT []) (t':=s.toks) (λ_ _ q=>Heap.get?_push_of_some _ q) (Nat.le_refl _) (kN s.heap I.big),rfl,h _ (I.hok.fresh (Nat.le_refl _))⟩
theorem kr:JE X (.Dict [] [] pos) UI:=.of (vk)
end
def X8:List (TE×TE)->St->Hp->(List (V×V)->Hp->Prop)->Prop
 | [],_,H,Q=>Q [] H
 | (tk,tv)::r,σ,H,Q=>tk σ H λx H1=>tv σ H1 λy H2=>X8 r σ H2 λps H3=>Q ((x,y)::ps) H3
abbrev VV:List (V×V)->List (Value×Value)->Prop:=Paired λp q=>qN p.1 q.1/\qN p.2 q.2
def Gr (X:Cx) (pos:Pos) (keys:List (Option Expr)) (values:List Expr) (trs:List (TE×TE)):Prop:=
 ∀(pins:List (Addr×Obj)) (s:Shared) (σ:St) (H:Hp) (Q:List (V×V)->Hp->Prop),qy X pins σ H s->X8 trs σ H Q->
   wpAny (model X.prog X.w) X.A (evalPairs (pairTrees keys values X.env pos)) (λvs s'=>∃ps H',qy X pins σ H' s'/\VV ps vs/\Q ps H') X.xe s
@[irreducible] def yb (X:Cx) (pos:Pos) (keys:List (Option Expr)) (values:List Expr) (trs:List (TE×TE)):Prop:=Gr X pos keys values trs
theorem yb.of {X:Cx} {pos:Pos} {keys:List (Option Expr)} {values:List Expr} {trs:List (TE×TE)} (h:Gr X pos keys values trs):yb X pos keys values trs:=by unfold yb;exact h
theorem yb.to {X:Cx} {pos:Pos} {keys:List (Option Expr)} {values:List Expr} {trs:List (TE×TE)} (h:yb X pos keys values trs):Gr X pos keys values trs:=by unfold yb at h;exact h
theorem xr {X:Cx} {pos:Pos}:yb X pos [] [] []:=.of (by
 exact λpins s σ H Q I h=>pairTrees_nil_walk ⟨[],H,I,.nil,h⟩)
theorem vg {X:Cx} {pos:Pos} {k v:Expr} {ks:List (Option Expr)} {vs:List Expr} {tk tv:TE} {trs:List (TE×TE)} (hk:PE X k tk) (hv:PE X v tv) (hr:Gr X pos ks vs trs):
   Gr X pos (some k::ks) (v::vs) ((tk,tv)::trs):=λpins s σ H Q I h=>
 pairTrees_cons_walk (ja (hk pins s σ H _ I h) λu s1 ⟨x,H1,I1,rx,q1⟩=>ja (hv pins s1 σ H1 _ I1 q1) λw2 s2 ⟨y,H2,I2,ry,q2⟩=>
   ja (hr pins s2 σ H2 _ I2 q2) λws s3 ⟨ps,H3,I3,rel,q3⟩=>⟨(x,y)::ps,H3,I3,.cons ⟨rx,ry⟩ rel,q3⟩)
theorem zt {X:Cx} {pos:Pos} {k v:Expr} {ks:List (Option Expr)} {vs:List Expr} {tk tv:TE} {trs:List (TE×TE)} (hk:JE X k tk) (hv:JE X v tv) (hr:yb X pos ks vs trs):yb X pos (some k::ks) (v::vs) ((tk,tv)::trs):=.of (vg hk.to hv.to hr.to)
def Qd (kvs more:List (qw×V)):List (qw×V):=more.foldl (λacc kv=>jf acc kv.1 kv.2) kvs
theorem KV.merge:∀{more:List (qw×V)} {rs:List (qw×Value)} {kvs:List (qw×V)} {vs:List (qw×Value)},KV more rs->KV kvs vs->KV (Qd kvs more) (merged vs rs):=by
 intro more rs kvs vs r
 unfold KV at r
 induction r generalizing kvs vs with
 | nil=>intro q;exact q
 | @cons p q ps qs h t ih=>
   intro r0
   have e:KV (jf kvs p.1 p.2) (stored vs q.1 q.2):=by
     have:=r0.put p.1 h.2
     rw[<-h.1];exact this
   exact ih e
theorem QC:∀(more kvs:List (qw×V)),(Qd kvs more).length<=kvs.length+more.length
 | [],kvs=>by show kvs.length<=kvs.length+0;omega
 | p::r,kvs=>by
   have h1:=QC r (jf kvs p.1 p.2)
   have h2:=Qz kvs p.1 p.2
   show (Qd (jf kvs p.1 p.2) r).length<=_
   rw[List.length_cons];omega
theorem zJ {P:Program} {w:World}:∀{kvs:List (qw×V)} {ws:List (Value×Value)},VV (kvs.map λkv=>(kV kv.1,kv.2)) ws->∃rs,Carries (qF P w) ws rs/\KV kvs rs
 | [],_,r=>by rw[List.map_nil]at r;cases r;exact⟨[],True.intro,.nil⟩
 | p::kvs,_,r=>by
   rw[List.map_cons]at r
   cases r with
   | @cons a b as bs h t=>
     obtain⟨rs,c,q⟩:=zJ (P:=P) (w:=w) t
     obtain⟨b1,b2⟩:=b
     exact⟨(p.1,b2)::rs,⟨ZE h.1,rfl,c⟩,.cons ⟨rfl,h.2⟩ q⟩
def Ko (trs:List (TE×TE)):TE:=λσ H Q=>∀p,H p=none->X8 trs σ (upd H p (.dK [])) λps H2=>H2 p=some (.dK [])/\∃kvs:List (qw×V),ps=kvs.map (λkv=>(kV kv.1,kv.2))/\kvs.length<=15/\Q (.ref p) (upd H2 p (.dK (Qd [] kvs)))
theorem xA {X:Cx} {pos:Pos} {keys:List (Option Expr)} {values:List Expr} {trs:List (TE×TE)} (h:yb X pos keys values trs) (hall:keys.all (·.isSome)=true) (hl:keys.length=values.length) (h0:keys≠[]) (h15:keys.length<=15):JE X (.Dict keys values pos) (Ko trs):=.of (by
 have h:=h.to
 intro pins s σ H Q I q
 have hn:=I.hok.fresh (Nat.le_refl s.heap.objs.size)
 have I1:=I.laid (a:=s.heap.objs.size) (o:=.dK []) (h':=s.heap.push {cls:=.type "dict",data:=.dict #[]}) (t':=s.toks) (λ_ _ q=>Heap.get?_push_of_some _ q) (Nat.le_refl _) (XT s.heap I.big)
 refine wpAny_Dict_walk (knd:=qF X.prog X.w) hall hl h0 h15 (ja (h pins _ σ _ _ I1 (q _ hn)) λws s2 ⟨ps,H2,I2,rel,e,kvs,ep,lk,q2⟩=>?_)
 subst ep
 obtain⟨rs,c,rk⟩:=zJ (P:=X.prog) (w:=X.w) rel
 obtain⟨z,hd,vs0,r0,dd⟩:=Yq I2.hok e
 cases r0
 refine⟨rs,c,dd,λh' dd' hs=>⟨.ref s.heap.objs.size,_,?_,rfl,q2⟩⟩
 have hz:(Qd [] kvs).length<=sizeLine:=by
   have h1:=QC kvs []
   rw[List.length_nil]at h1
   rw[sizeLine_eq];omega
 have he:∃q,h'.get? s.heap.objs.size=some q:=let ⟨q,_,_,hq,_⟩:=dd';⟨q,hq⟩
 exact QW I2 (by rw[e];exact True.intro) hs he (zI hz hd (rk.merge .nil) dd'))
structure M1 (X:Cx) (o:Expr) (m:Str) (apos:Pos) (e:Expr) (cpos:Pos):Prop where
 base:attributeBase o m X.env (eval o X.env)=eval o X.env
 few:((backTo cpos (starEach [e] X.env)).all (λx=> !x.1)&&(backToKw cpos (keywordEach [] X.env)).all (λx=>x.1.isSome)
   &&decide (([e]:List Expr).length+([]:List Keyword).length+(if ([]:List Keyword).isEmpty then 0 else 1) < 30))=true
 line:(apos.endLine==cpos.line)=true
 trees:backTo cpos (starEach [e] X.env)=[(false,eval e X.env)]
structure M2 (X:Cx) (o:Expr) (m:Str) (apos:Pos) (e f:Expr) (cpos:Pos):Prop where
 base:attributeBase o m X.env (eval o X.env)=eval o X.env
 few:((backTo cpos (starEach [e,f] X.env)).all (λx=> !x.1)&&(backToKw cpos (keywordEach [] X.env)).all (λx=>x.1.isSome)
   &&decide (([e,f]:List Expr).length+([]:List Keyword).length+(if ([]:List Keyword).isEmpty then 0 else 1) < 30))=true
 line:(apos.endLine==cpos.line)=true
 trees:backTo cpos (starEach [e,f] X.env)=[(false,eval e X.env),(false,eval f X.env)]
def Gv (H:Hp) (a:Addr):Prop:=(∃kvs,Rd H a (.dK kvs))\/∃kvs,Rd H a (.dT kvs)
theorem Wq {X:Cx} {pins:List (Addr×Obj)} {σ:St} {H:Hp} {s:Shared} {a:Addr} (I:qy X pins σ H s) (d:Gv H a):
   s.TypeIs (.ref a) "dict"/\(∀b,Value.ref a=.ref b->∃ob,s.heap.get? b=some ob/\ob.dict=none)/\(a==sysModules)=false:=by
 rcases d with ⟨kvs,e⟩ | ⟨kvs,e⟩
 . obtain⟨_,hd,vs,_,dd⟩:=Zf I.hok e
   refine⟨dd.typeIs,λb q=>?_,hd⟩
   cases q
   obtain⟨ob,_,_,h1,h2,_⟩:=dd
   exact⟨ob,h1,h2.2.1⟩
 . obtain⟨_,hd,xs,_,dd⟩:=zH I.hok e
   refine⟨dd.typeIs,λb q=>?_,hd⟩
   cases q
   obtain⟨ob,_,_,h1,h2,_⟩:=dd
   exact⟨ob,h1,h2.2.1⟩
section
variable {X:Cx} {pins:List (Addr×Obj)} {σ:St} {H:Hp} {s:Shared} {a:Addr} {y d:V} {u r:Value} {o:Option V} {A:Around} {E:Value->Shared->Prop}
theorem uV {Q:Value->Shared->Prop} (hu:A.units+1 < cLine) (I:qy X pins σ H s) (g:jC H a y o) (ry:qN y u) (rd:qN d r) (h:∀w' s',qy X pins σ H s'->qN (o.getD d) w'->Q w' s'):
   wpAny (model X.prog X.w) A (call (.builtin "dict.get") [.ref a,u,r]) Q E s:=by
 rcases g with ⟨kvs,k,e,ey,l⟩ | ⟨kvs,k,b,e,ey,eb,l⟩
 . subst ey
   obtain⟨z,hd,vs,rel,dd⟩:=Zf I.hok e
   refine call_meetsIn PySem.F.slot_dict_get dd.typeIs PySem.F.entry_dict_get (PySem.F.args_dict_get_3 _ _ _) (meets_dict_get_default (qF X.prog X.w) a (ZE ry) hd r) ⟨_,dd.mapOf,h _ _ (I.tok _) ?_⟩
   rw[l]
   exact(rel.val k).getD rd
 . subst ey
   cases (show u=Value.ref b from ry)
   obtain⟨z,hd,xs,rel,dd⟩:=zH I.hok e
   refine call_meetsIn PySem.F.slot_dict_get dd.typeIs PySem.F.entry_dict_get (PySem.F.args_dict_get_3 _ _ _) (meetsH_dict_get_default (tupleKind (qF X.prog X.w)) a b hd r) ⟨tupleKind_room_in1 hu,k,xs,Zu I.hok eb,dd,h _ _ (I.tok _) ?_⟩
   rw[l]
   exact(rel.val k).getD rd
end
def wR (td ty tx:TE):TE:=λσ H Q=>td σ H λx H1=>∃a,x=.ref a/\Gv H1 a/\ty σ H1 λy H2=>tx σ H2 λz H3=>∃o,jC H3 a y o/\Q (o.getD z) H3
section
variable {X:Cx} {o e f:Expr} {apos cpos:Pos} {td ty tx:TE}
theorem kt (hu:X.A.units+1 < cLine) (ho:JE X o td) (he:JE X e ty) (hf:JE X f tx) (m:M2 X o "get" apos e f cpos):JE X (.Call (.Attribute o "get" apos) [e,f] [] cpos) (wR td ty tx):=.of (by
 have ho:=ho.to
 have he:=he.to
 have hf:=hf.to
 intro pins s σ H Q I h
 refine wpAny_Call_method m.base m.few m.line PySem.F.plainAttrs_dict PySem.F.slot_dict_get PySem.F.type_dict_get (ja (ho pins s σ H _ I h) λu s1 ⟨x,H1,I1,rx,a,ex,d,q1⟩=>?_)
 subst ex
 obtain rfl:u=Value.ref a:=rx
 obtain⟨t1,t2,_⟩:=Wq I1 d
 refine⟨t1,t2,?_⟩
 rw[m.trees]
 refine Calls.callWith_builtin rfl (Calls.evalArgs_plain (Calls.spliced_cons (ja (he pins s1 σ H1 _ I1 q1) λiv s2 ⟨y,H2,I2,ry,q2⟩=>
   Calls.spliced_cons (ja (hf pins s2 σ H2 _ I2 q2) λfv s3 ⟨z,H3,I3,rz,ov,g,q3⟩=>Calls.spliced_nil ?_))))
 exact uV hu I3 g ry rz λw' s4 I4 rw'=>⟨_,H3,I4,rw',q3⟩)
end
section
variable {X:Cx} {pins:List (Addr×Obj)} {σ:St} {H:Hp} {s:Shared} {a:Addr} {kvs:List (qw×V)} {A:Around} {E:Value->Shared->Prop}
theorem kQ {Q:Value->Shared->Prop} (I:qy X pins σ H s) (e:Rd H a (.dK kvs)) (h:∀p s',H p=none->qy X pins σ (upd H p (.dK kvs)) s'->Q (.ref p) s'):wpAny (model X.prog X.w) A (call (.type "dict") [.ref a]) Q E s:=by
 obtain⟨z,hd,vs,rel,dd⟩:=Zf I.hok e
 refine kt_call_dict hd dd (by rw[<-rel.length];exact z) λh' dd' hs=>?_
 refine h _ _ (I.hok.fresh (Nat.le_refl _)) (I.laid (a:=s.heap.objs.size) (o:=.dK kvs) (t':=s.toks) (λb q hq=>?_) (Nat.le_refl _) (zI z (beq_eq_false_iff_ne.mpr (Ne.symm (Nat.ne_of_lt I.big))) rel dd'))
 exact(hs.2 b (Nat.ne_of_lt (Heap.lt_size hq))).trans (Heap.get?_push_of_some _ hq)
end
section
variable {X:Cx} {pins:List (Addr×Obj)} {σ:St} {H:Hp} {s:Shared} {a:Addr} {y:V} {u:Value} {A:Around} {E:Value->Shared->Prop}
end
end L2
namespace Att
open PySem PySem.W PySem.Calls PyProof.Rows
theorem ZK {P:Params} {h:Heap}:∀(ns:List Int) (vs:List Value),WellAll P h vs (ns.map WData.int)->IntsAre vs ns:=by
 intro ns
 induction ns with
 | nil=>
   intro vs w
   rw[List.map_nil]at w
   cases w
   exact .nil
 | cons n ns ih=>
   intro vs w
   rw[List.map_cons]at w
   cases w with
   | cons a b=>
     cases a
     exact .cons _ _ (ih _ b)
theorem VE {l:OpenLaw} {n:Nat} (hn:l.most=some n) {P:Params} {h:Heap} {args:List WData} {vals:List Value}
   (hpre:l.row.toRowW.claim.pre args=true) (hwl:WellAll P h vals args):
   ∃a vs ns,vals=[Value.ref a]/\args=[WData.list (ns.map WData.int)]/\h.get? a=some {cls:=.type "list",data:=.seq vs.toArray}/\IntsAre vs ns/\ns.length<=n:=by
 have hsh:WShape.hasAll [] args [.list .int]=true:=(pre_splitW hpre).1
 have hc:l.pre.holds [] {args:=args}=true:=(pre_splitW hpre).2
 obtain⟨d,r,rfl,h1,h2⟩:=hasAllW_cons hsh
 obtain rfl:=hasAllW_nil h2
 obtain⟨xs,rfl,h3⟩:=hasW_list h1
 obtain⟨ns,rfl⟩:=items_int h3
 have hlen:ns.length<=n:=by
   unfold OpenLaw.pre at hc
   have h4:(WTm.not (.lt (.lit (.int (n:Int))) (.len (.arg 0)))).holds [] {args:=[.list (ns.map .int)]}=true:=by
     have h4:=(holds_andW hc).1
     rw[hn]at h4
     exact h4
   have h5:=condW_of h4 (w_not (w_lt w_lit (w_len_list (w_arg rfl))))
   rw[List.length_map]at h5
   refine Nat.le_of_not_lt λq=>?_
   have q':(n:Int) < ((ns.length:Nat):Int):=by omega
   first
     | (rw[decide_eq_true q']at h5;exact absurd h5 (by decide))
     | (simp at h5;omega)
 cases hwl with
 | cons w1 w2=>
   cases w2
   cases w1 with
   | list ho hall=>exact⟨_,_,ns,rfl,rfl,ho,ZK ns _ hall,hlen⟩
theorem VN (l:OpenLaw) (args:List WData):l.row.toRowW.claim.post args (.bool true) args=true:=
 postW_of (r:=l.row.toRowW) (X:=(true==true))
   (show WShape.has [] (.bool true) .bool=true by first | rfl | decide | simp [WShape.has,WShape.arms,WShape.armsAll])
   (show (WTm.eq .res (.lit (.bool true))).value [] {args:=args,res:=some (.bool true),after:=args}=some (.bool (true==true)) from w_eq_bool (w_res rfl) w_lit) rfl
theorem attach_call {l:OpenLaw} {n:Nat} {q:Program} {loose:List Str} {XP:(Str->Option Value)->Heap->Prop} {YP:World->Heap->Prop} {d:DefRec}
   (hn:l.most=some n) (hdf:d.params.defaults=[])
   (call:∀(w:World) (s₀ s₁:Shared) (mg mb:Str->Option Value) (fa:Addr) (o:Obj) (pm cd doc:Value) (a:Addr) (vs:List Value) (ns:List Int),
     Ground q loose [] XP w s₀ mg mb s₁.heap->YP w s₁.heap->
     s₁.heap.get? fa=some o->o.data=.func (docDef d.name d.params d.body d.scope pm cd doc)->s₁.heap.CodeRec cd d.name->mg d.name=some (.ref fa)->
     s₁.heap.get? a=some {cls:=.type "list",data:=.seq vs.toArray}->IntsAre vs ns->ns.length<=n->s₁.gens=#[]->
     codeAny (model l.prog w) callerA (.call (.ref fa) ⟨[.ref a],[]⟩) (λr s'=>r=.ok (.ret (.bool true))/\OldK s₁.heap s'.heap/\s'.os=s₁.os/\AllBare s'.gens) s₁):
   WalkO q loose XP YP l.row.toRowW d [] (λf vs=>PySem.call f vs):=by
 intro w s₀ s₁ mg mb G Y fa o pm cd doc dV kV ho hd hcd hD hmg hg args vals as hpre hlay hrd hwl hlo
 obtain rfl:dV=.none:=Dflts.none hD hdf
 obtain rfl:kV=.none:=Dflts.noKw hD
 obtain⟨a,vs,ns,rfl,rfl,hobj,hints,hlen⟩:=VE hn hpre hwl
 refine enter_call (codeAny_mono (call w s₀ s₁ mg mb fa o pm cd doc a vs ns G Y ho (fd_plain hd) hcd hmg hobj hints hlen hg) λr s' hq=>?_)
 obtain⟨rfl,h2,h3,h4⟩:=hq
 exact⟨.inl ⟨.bool true,.bool true,[],rfl,λ_=>rfl,.bool true,VN l _,λ_=>⟨List.Pairwise.nil,λ_ hm=>(nomatch hm)⟩⟩,h2,h3,h4⟩
section
variable {prog:Program} {w:World} {A:Around} {E:Value->Shared->Prop} {s:Shared} {K:Frag}
end
end Att
namespace L2
open PySem PySem.Spec PyProof.Rows
theorem zY:∀{vs:List Value} {ns:List Int},IntsAre vs ns->qL (ns.map V.int) vs
 | _,_,.nil=>.nil
 | _,_,.cons n t h=>.cons ⟨t,rfl⟩ (zY h)
def uZ (H:Hp):Prop:=∀b,H b=none\/∃o xs,H b=some (.frz o (.lst xs))
theorem ka {P:Program} {w:World} {K:PySem.W.Frag} {mg mb:Str->Option Value} {CX:Xg} {k:Nat} {fa a:Addr} {fd:FuncData} {x:Str} {sp:Sp} {s₁:Shared} {vs:List Value} {ns:List Int}
   (KX:K.In s₁.heap) (hns:s₁.heap.Ns mainGlobals mg) (hb:s₁.heap.Ns builtinsNs mb) (hbb:∀x:Str,x≠"__name__"->mb x=bootBuiltins x) (hlim:s₁.heap.NoLimit) (hg:s₁.gens=#[])
   (ha:s₁.heap.get? a=some {cls:=.type "list",data:=.seq vs.toArray}) (hi:IntsAre vs ns) (hl:ns.length<=sizeLine) (hr:jq k callerA)
   (F:∀base:Heap,K.In base->base.Ns mainGlobals mg->qI P w K mg base CX k fa fd [x] sp) (hbind:∀(s:Shared) (u:Value),BindsTo s fd ⟨[u],[]⟩ [(x,u)])
   (hsp:∀H:Hp,uZ H->SqL K H a (ns.map V.int)->sp [.ref a] H (λv _=>v=.bl true) λ_ _ _=>False)
   (hCX:∀H e s',CX [] H s₁ (λ_ _ _=>False) e s'->False):
   codeAny (model P w) callerA (.call (.ref fa) ⟨[.ref a],[]⟩) (λr s'=>r=.ok (.ret (.bool true))/\OldK s₁.heap s'.heap/\s'.os=s₁.os/\AllBare s'.gens) s₁:=by
 have rv:=zY hi
 have lenV:=hi.length
 have core:∀H:Hp,uZ H->SqL K H a (ns.map V.int)->Jx P w H s₁.heap->(∀b,H b≠none->b=a)->(H a≠none->K.lookup a=none)->
     codeAny (model P w) callerA (.call (.ref fa) ⟨[.ref a],[]⟩) (λr s'=>r=.ok (.ret (.bool true))/\OldK s₁.heap s'.heap/\s'.os=s₁.os/\AllBare s'.gens) s₁:=by
   intro H hO hS hok hA hK
   have base_of:∀{b:Addr} {o:Obj},s₁.heap.get? b=some o->H b=none->(Y1 s₁.heap H).get? b=some o:=λe n=>kE e n
   have noA:∀{b:Addr} {o:Obj} {es:Array DictEntry} {ep:Nat},s₁.heap.get? b=some o->o.data=.dict es ep->H b=none:=λ{b o es ep} e d=>by
     cases q:H b with
     | none=>rfl
     | some u=>
       have e':b=a:=hA b (by rw[q];simp)
       subst e'
       rw[ha]at e;cases e
       have d':Data.seq vs.toArray _=Data.dict es ep:=d
       cases d'
   have nsK:∀{b:Addr} {m:Str->Option Value},s₁.heap.Ns b m->(Y1 s₁.heap H).Ns b m:=λ{b m} ⟨o,es,ep,e,d,r⟩=>⟨o,es,ep,base_of e (noA e d),d,r⟩
   have hKb:K.In (Y1 s₁.heap H):=λb o e=>base_of (KX b o e) (by
     cases q:H b with
     | none=>rfl
     | some u=>
       have e':b=a:=hA b (by rw[q];simp)
       subst e'
       rw[hK (by rw[q];simp)]at e;cases e)
   have hM:Mod K mg (Y1 s₁.heap H):=⟨hKb,nsK hns,⟨mb,nsK hb,hbb⟩,let ⟨mc,h1,h2⟩:=hlim;⟨mc,nsK h1,h2⟩⟩
   have e0:X3 P w K mg (Y1 s₁.heap H) callerA [] s₁ H:=⟨rfl,hM,λb o e=>yY e,Nat.le_of_eq (Uf _ _),trivial,λb hb=>absurd (show b∈([]:List Addr) from hb) (by simp),hok,.of_eq hg⟩
   refine codeAny_mono ((F _ hKb (nsK hns)).run callerA [] s₁ H ⟨[.ref a],[]⟩ [.ref a] [.ref a] _ _ hr e0 (hbind s₁ (.ref a)) (.cons rfl .nil) (hsp H hO hS)) λr s' h=>?_
   cases r with
   | error e=>exact(hCX H e s' h).elim
   | ok fl=>
     cases fl with
     | next=>exact False.elim h
     | brk=>exact False.elim h
     | cont=>exact False.elim h
     | ret u=>
       obtain⟨v,H',os,bare,un,hok',r',q⟩:=h
       have q':v=.bl true:=q
       subst q'
       obtain rfl:u=Value.bool true:=r'
       refine⟨rfl,OldK.of_keep λb o e=>?_,os,bare⟩
       cases q:H b with
       | none=>exact un.keep b o e q (by intro z;exact absurd (show b∈([]:List Addr) from z) (by simp)) (by simp)
       | some u=>
         rcases hO b with z | ⟨ob,xs,z⟩
         . rw[q]at z;cases z
         . have z2:=un.frzs b ob _ z
           obtain⟨e1,_⟩:=hok b _ z
           obtain⟨e2,_⟩:=hok' b _ z2
           rw[e]at e1;cases e1
           exact e2
 cases hk:K.lookup a with
 | some o=>
   have e:=KX a o hk
   rw[ha]at e
   cases e
   refine core (λ_=>none) (λ_=>.inl rfl) (.inr ⟨_,vs.toArray,_,hk,rfl,rfl,rfl,by rw[List.size_toArray,lenV];exact hl,by simpa using rv⟩) (λb u z=>by have z':(none:Option HO)=some u:=z;cases z') (λb z=>absurd rfl z) λz=>absurd rfl z
 | none=>
   refine core (λb=>if b=a then some (.frz {cls:=.type "list",data:=.seq vs.toArray} (.lst (ns.map V.int))) else none) (λb=>?_) (.inl (.inr ⟨{cls:=.type "list",data:=.seq vs.toArray},if_pos rfl⟩)) (λb u z=>?_) (λb z=>?_) λ_=>hk
   . by_cases hb:b=a
     . exact .inr ⟨_,_,if_pos hb⟩
     . exact .inl (if_neg hb)
   . by_cases hb:b=a
     . have z':=(if_pos hb).symm.trans z
       cases z'
       subst hb
       exact⟨ha,by rw[List.length_map];exact hl,vs,_,rv,ha⟩
     . have z':=(if_neg hb).symm.trans z
       cases z'
   . by_cases hb:b=a
     . exact hb
     . exact absurd (if_neg hb) z
end L2
namespace L2
open PySem PySem.Spec PyProof.Rows
theorem walk_of {l:PySem.W.OpenLaw} {n k:Nat} {q:Program} {loose:List Str} {XP:(Str->Option Value)->Heap->Prop} {YP:World->Heap->Prop} {d:DefRec} {K:Params->PySem.W.Frag} {CX:World->Xg} {sp:World->Sp} {x:Str}
   (hn:l.most=some n) (hn2:n<=sizeLine) (hdf:d.params.defaults=[]) (hr:jq k callerA)
   (hY:∀(w:World) (h:Heap),YP w h->(K w.params).In h)
   (F:∀(w:World) (mg:Str->Option Value) (fa:Addr) (h:Heap),(K w.params).In h->h.Ns mainGlobals mg->mg d.name=some (.ref fa)->
     ∃fd:FuncData,(∀(s:Shared) (u:Value),BindsTo s fd ⟨[u],[]⟩ [(x,u)])/\
      ∀base:Heap,(K w.params).In base->base.Ns mainGlobals mg->qI l.prog w (K w.params) mg base (CX w) k fa fd [x] (sp w))
   (hsp:∀(w:World) (H:Hp) (a:Addr) (ns:List Int),ns.length<=n->uZ H->SqL (K w.params) H a (ns.map V.int)->sp w [.ref a] H (λv _=>v=.bl true) λ_ _ _=>False)
   (hCX:∀(w:World) (H:Hp) (s:Shared) (e:Value) (s':Shared),CX w [] H s (λ_ _ _=>False) e s'->False):
   PySem.W.WalkO q loose XP YP l.row.toRowW d [] (λf vs=>PySem.call f vs):=by
 refine Att.attach_call hn hdf λw s₀ s₁ mg mb fa o pm cd doc a vs ns G Y ho hd hcd hmg hobj hints hlen hg=>?_
 have KX:=hY w _ Y
 obtain⟨fd,hb,hF⟩:=F w mg fa _ KX G.T.g hmg
 exact ka KX G.T.g G.T.b G.T.builtins G.T.nolimit hg hobj hints (Nat.le_trans hlen hn2) hr hF hb (λH hO hS=>hsp w H a ns hlen hO hS) λH e s'=>hCX w H s₁ e s'
end L2
namespace L2
open PySem PySem.Spec PyProof.Rows
def Y0 (s:Stmt) (j:Nat):Stmt:=match s with
 | .ClassDef _ _ _ body _ _ _ _ _ _ _=>body.getD j (.Pass ⟨0,0,0,0⟩)
 | _=>.Pass ⟨0,0,0,0⟩
def Qk (s:Stmt):Arguments:=match s with
 | .FunctionDef _ a _ _ _ _ _ _ _ _=>a
 | _=>{posonlyargs:=[],args:=[],vararg:=none,kwonlyargs:=[],kw_defaults:=[],kwarg:=none,defaults:=[]}
def j3 (s:Stmt):List Stmt:=match s with
 | .FunctionDef _ _ b _ _ _ _ _ _ _=>b
 | _=>[]
def qt (s:Stmt):Scope:=match s with
 | .FunctionDef _ _ _ _ _ _ sc _ _ _=>sc
 | _=>{kind:=.function,names:=[],isGenerator:=false,isCoroutine:=false}
abbrev ji:Xg:=λ_ _ _ _ _ _=>False
abbrev E0:XK:=λ_ _ _=>False
theorem W6 {X:Cx}:Q1 ji X E0:=λ_ _ _ _ _ _ _ h=>h.elim
structure Qw (K:PySem.W.Frag) (x qual:Str) (st:Stmt) (f:Addr) (fd:FuncData):Prop where
 ex:∃(oc:Value) (od:Option Addr) (kV doc pm:Value) (an:Option Addr) (cdv ct:Value) (osl:Array (Option Value)),
   fd=PySem.W.fnOf x qual (Qk st) (j3 st) (qt st) .none kV doc pm an cdv ct/\K.lookup f=some ⟨oc,od,.func fd,osl⟩/\PySem.W.codeIn K cdv qual=true
 kp:PySem.W.keepIn K (.ref f)=true
section
variable {P:Program} {w:World} {K:PySem.W.Frag} {mg:Str->Option Value} {base:Heap}
theorem Qw.ok {x qual:Str} {st:Stmt} {f:Addr} {fd:FuncData} {N ps:List Str} {k:Nat} {sp:Sp} (F:Qw K x qual st f fd) (S:qJ N ps (qt st)) (len:∀vs H Q E,sp vs H Q E->vs.length=ps.length)
   (hbody:∀(cdv:Value) (A:Around) (outer:List Env) (s:Shared) (H:Hp) (vs:List V) (Q:VK) (E:XK),jq k (A.deeper (envOfC qual (qt st) s.heap.objs.size f cdv))->sp vs H Q E->
     ∃t,wI (Wx ji P w K mg base N qual (qt st) f cdv A outer s H E).nox (j3 st) t/\t {nx:=λ_ H'=>Q .non H',rt:=Q} (JY N vs) H):qI P w K mg base ji (k+1) f fd ps sp:=by
 obtain⟨oc,od,kV,doc,pm,an,cdv,ct,osl,rfl,lk,hcd⟩:=F.ex
 refine Gc lk hcd S len λA outer s H vs Q E hr hsp=>?_
 obtain⟨t,h,q⟩:=hbody cdv A outer s H vs Q E hr hsp
 exact⟨t,h.nox,q⟩
theorem Qw.okJ {x qual:Str} {st:Stmt} {f:Addr} {fd:FuncData} {N ps:List Str} {k:Nat} {sp:Sp} (F:Qw K x qual st f fd) (S:qJ N ps (qt st)) (len:∀vs H Q E,sp vs H Q E->vs.length=ps.length)
   (hbody:∀(cdv:Value) (A:Around) (outer:List Env) (s:Shared) (H:Hp) (vs:List V) (Q:VK) (E:XK),jq k (A.deeper (envOfC qual (qt st) s.heap.objs.size f cdv))->sp vs H Q E->
     ∃t,Xf (Wx ji P w K mg base N qual (qt st) f cdv A outer s H E).nox (j3 st) t/\t {nx:=λ_ H'=>Q .non H',rt:=Q} (JY N vs) H):qI P w K mg base ji (k+1) f fd ps sp:=
 F.ok S len λcdv A outer s H vs Q E hr h=>let ⟨t,a,b⟩:=hbody cdv A outer s H vs Q E hr h;⟨t,a.to,b⟩
theorem Qw.binds {x qual:Str} {st:Stmt} {f:Addr} {fd:FuncData} {ps:List Str} (F:Qw K x qual st f fd)
   (h:∀(kV doc pm:Value) (an:Option Addr) (cdv ct:Value) (us:List Value),us.length=ps.length->bindArgs (PySem.W.fnOf x qual (Qk st) (j3 st) (qt st) .none kV doc pm an cdv ct) ⟨us,[]⟩=pure (ps.zip us)):Qv K fd ps []:=by
 obtain⟨oc,od,kV,doc,pm,an,cdv,ct,osl,rfl,lk,hcd⟩:=F.ex
 exact .all (h kV doc pm an cdv ct)
theorem Wt {x qual:Str} {st:Stmt} {f:Addr} {oc:Value} {od an:Option Addr} {osl:Array (Option Value)} {kV doc pm cdv ct:Value} (l:K.lookup f=some ⟨oc,od,.func (PySem.W.fnOf x qual (Qk st) (j3 st) (qt st) .none kV doc pm an cdv ct),osl⟩)
   (c:PySem.W.codeIn K cdv qual=true) (k:PySem.W.keepIn K (.ref f)=true):Qw K x qual st f (PySem.W.fnOf x qual (Qk st) (j3 st) (qt st) .none kV doc pm an cdv ct):=⟨⟨oc,od,kV,doc,pm,an,cdv,ct,osl,rfl,l,c⟩,k⟩
end
theorem jN {A:Around} {k:Nat} (hr:jq k A):A.units+1 < cLine:=Nat.lt_of_le_of_lt (Nat.add_le_add_left (by decide:1<=64) _) hr.units
theorem qp {n:Nat} (h:n<=1000):n < sizeLine:=Nat.lt_of_le_of_lt h (by decide)
section
variable {X:Cx}
theorem pv (i:Nat) {x:Str} {pos:Pos} (hN:X.N[i]?=some x:=by rfl) (hv:u8 X.env.scope x:=by first | exact Or.inl rfl | exact Or.inr (Or.inl rfl) | exact Or.inr (Or.inr rfl)) (hd:(x==("__debug__":Str))=false:=by decide)
   (hcd:(x==("__classdict__":Str))=false:=by decide):PE X (.Name x pos) (qZ i):=ug hN hv hd hcd
theorem jv (i:Nat) {x:Str} {pos:Pos} (hN:X.N[i]?=some x:=by rfl) (hv:u8 X.env.scope x:=by first | exact Or.inl rfl | exact Or.inr (Or.inl rfl) | exact Or.inr (Or.inr rfl)) (hd:(x==("__debug__":Str))=false:=by decide) (hcd:(x==("__classdict__":Str))=false:=by decide):JE X (.Name x pos) (qZ i):=.of (pv i hN hv hd hcd)
end
theorem jm {A B:Prop} (h:B):if false=true then A else B:=by
 rw[if_neg Bool.false_ne_true]
 exact h
theorem j0 {A B:Prop} (h:A):if true=true then A else B:=by
 rw[if_pos rfl]
 exact h
theorem jL {c A B:Prop} [Decidable c] (h1:c->A) (h2:¬c->B):if c then A else B:=by
 by_cases h:c
 . rw[if_pos h]
   exact h1 h
 . rw[if_neg h]
   exact h2 h
def qu (H H':Hp):Prop:=∀b o,H b=some o->H' b=some o
theorem qu.refl (H:Hp):qu H H:=λ_ _ h=>h
theorem qu.trans {H H1 H2:Hp} (a:qu H H1) (b:qu H1 H2):qu H H2:=λc o h=>b c o (a c o h)
section
variable {X:Cx}
theorem Uv:jn X (.builtin "len") (λxs H Q=>∃a kvs,xs=[V.ref a]/\H a=some (.dK kvs)/\Q (.int kvs.length) H):=by
 intro pins s σ H xs us Q I r h
 obtain⟨a,kvs,rfl,ha,q⟩:=h
 obtain⟨u,rfl,ru⟩:=jW r
 cases ru
 exact wF I (.inl ha) λt s' I'=>⟨.int kvs.length,H,I',⟨t,rfl⟩,q⟩
end
section
variable {κ:Type} [DecidableEq κ]
theorem Xk {kvs:List (κ×V)} {k:κ} (h:qD kvs k=none):¬k∈kvs.map (·.1):=by
 intro m
 obtain⟨p,hp,e⟩:=List.mem_map.mp m
 have q:(kvs.any λkv=>decide (kv.1=k))=true:=List.any_eq_true.mpr ⟨p,hp,decide_eq_true e⟩
 rw[Qq,h]at q
 exact absurd q (by simp)
theorem YE {kvs:List (κ×V)} {k:κ} {v:V} (h:qD kvs k=some v):k∈kvs.map (·.1):=by
 have q:(kvs.any λkv=>decide (kv.1=k))=true:=by
   rw[Qq,h]
   all_goals rfl
 obtain⟨p,hp,e⟩:=List.any_eq_true.mp q
 exact List.mem_map.mpr ⟨p,hp,of_decide_eq_true e⟩
theorem Va:∀{l:List κ} {k:κ},l.Nodup->¬k∈l->(l++[k]).Nodup
 | [],k,_,_=>by simp
 | a::r,k,h,hk=>by
   obtain⟨h1,h2⟩:=List.nodup_cons.mp h
   show (a::(r++[k])).Nodup
   refine List.nodup_cons.mpr ⟨λm=>?_,Va h2 λm=>hk (List.mem_cons.mpr (Or.inr m))⟩
   rcases List.mem_append.mp m with q | q
   . exact h1 q
   . exact hk (List.mem_cons.mpr (Or.inl (List.mem_singleton.mp q).symm))
theorem xh {kvs:List (κ×V)} {k:κ} (v:V) (hn:(kvs.map (·.1)).Nodup) (h:qD kvs k=none):((jf kvs k v).map (·.1)).Nodup:=by
 rw[J6 v h,List.map_append]
 exact Va hn (Xk h)
theorem Um {p:κ×V} {r:List (κ×V)} {k:κ} (e:p.1=k):Qt (p::r) k=Qt r k:=by
 unfold Qt
 rw[List.filter_cons,if_neg (by simp [e])]
theorem Uo {p:κ×V} {r:List (κ×V)} {k:κ} (e:¬p.1=k):Qt (p::r) k=p::Qt r k:=by
 unfold Qt
 rw[List.filter_cons,if_pos (by simp [e])]
theorem Zw {kvs:List (κ×V)} {k:κ} {p:κ×V} (h:p∈Qt kvs k):p∈kvs:=(List.mem_filter.mp h).1
theorem zm:∀{kvs:List (κ×V)} {k:κ},(kvs.map (·.1)).Nodup->((Qt kvs k).map (·.1)).Nodup
 | [],_,_=>List.nodup_nil
 | p::r,k,h=>by
   have h:(p.1::r.map (·.1)).Nodup:=h
   obtain⟨h1,h2⟩:=List.nodup_cons.mp h
   by_cases e:p.1=k
   . rw[Um e]
     exact zm h2
   . rw[Uo e]
     show (p.1::(Qt r k).map (·.1)).Nodup
     refine List.nodup_cons.mpr ⟨λm=>h1 ?_,zm h2⟩
     obtain⟨q,hq,eq⟩:=List.mem_map.mp m
     exact List.mem_map.mpr ⟨q,Zw hq,eq⟩
end
end L2
set_option Elab.async false
set_option linter.all false
set_option maxRecDepth 100000
set_option maxHeartbeats 4000000
namespace L2
open PySem PySem.Spec PyProof.Rows
theorem Ve:(NameKind.free==NameKind.free)=true:=rfl
def js (env:Env):List (Str×NameKind)->List (Str×Addr)->List (Str×Addr)
 | [],cs=>cs
 | (n,k)::r,cs=>js env r (if k==.free then (n,(env.cells.lookup n).getD 0)::cs else cs)
theorem JH {scope:Scope} {env:Env} (h:∀x∈scope.names,x.2=.free->∃c,env.cells.lookup x.1=some c):closureFor scope env=pure (js env scope.names []):=by
 simp only[closureFor]
 have key:∀(l:List (Str×NameKind)) (cs:List (Str×Addr)),(∀x∈l,x.2=.free->∃c,env.cells.lookup x.1=some c)->
     (forIn l cs λx (r:List (Str×Addr))=>if (x.snd==NameKind.free)=true then (do let a <-cellOf env x.fst;pure (ForInStep.yield ((x.fst,a)::r)):Sem (ForInStep (List (Str×Addr)))) else pure (ForInStep.yield r))=(pure (js env l cs):Sem (List (Str×Addr))):=by
   intro l
   induction l with
   | nil=>intro cs _;rfl
   | cons x l ih=>
     intro cs hl
     obtain⟨n,k⟩:=x
     have ihl:=λcs'=>ih cs' λy hy=>hl y (List.mem_cons_of_mem _ hy)
     rw[List.forIn_cons]
     by_cases hk:k=.free
     . subst hk
       obtain⟨c,hc⟩:=hl (n,.free) List.mem_cons_self rfl
       have e1:cellOf env n=pure c:=by
         unfold cellOf
         have hc':env.cells.lookup n=some c:=hc
         rw[hc']
       have e2:js env ((n,NameKind.free)::l) cs=js env l ((n,c)::cs):=by
         have hc':env.cells.lookup n=some c:=hc
         show js env l (if (NameKind.free==NameKind.free)=true then (n,(env.cells.lookup n).getD 0)::cs else cs)=_
         rw[if_pos Ve,hc']
         rfl
       rw[e2,<-ihl]
       dsimp only
       rw[if_pos Ve,e1]
       rfl
     . have hb:(k==NameKind.free)=false:=by simpa using hk
       have e2:js env ((n,k)::l) cs=js env l cs:=by
         show js env l (if (k==NameKind.free)=true then (n,(env.cells.lookup n).getD 0)::cs else cs)=_
         rw[if_neg (by rw[hb];decide)]
       rw[e2,<-ihl]
       dsimp only
       rw[if_neg (by rw[hb];decide)]
       rfl
 rw[key scope.names [] h]
 rfl
theorem ZH {env:Env} {x:Str} {c:Addr}:∀{l:List (Str×NameKind)} {cs:List (Str×Addr)},(js env l cs).lookup x=some c->cs.lookup x=some c\/((x,NameKind.free)∈l/\c=(env.cells.lookup x).getD 0)
 | [],cs,h=>.inl h
 | (n,k)::r,cs,h=>by
   rcases ZH (l:=r) h with h | ⟨h1,h2⟩
   . by_cases hk:k=.free
     . subst hk
       rw[if_pos Ve,List.lookup_cons]at h
       by_cases hx:x=n
       . subst hx
         simp only[beq_self_eq_true]at h
         exact .inr ⟨List.mem_cons_self,(Option.some.inj h).symm⟩
       . have hb:(x==n)=false:=beq_eq_false_iff_ne.mpr hx
         simp only[hb]at h
         exact .inl h
     . have hb:(k==NameKind.free)=false:=by simpa using hk
       rw[if_neg (by rw[hb];decide)]at h
       exact .inl h
   . exact .inr ⟨List.mem_cons_of_mem _ h1,h2⟩
theorem JN {env:Env} {x:Str}:∀{l:List (Str×NameKind)} {cs:List (Str×Addr)},((x,NameKind.free)∈l\/∃c,cs.lookup x=some c)->∃c,(js env l cs).lookup x=some c
 | [],cs,h=>by
   rcases h with h | h
   . cases h
   . exact h
 | (n,k)::r,cs,h=>by
   show ∃c,(js env r (if (k==NameKind.free)=true then (n,(env.cells.lookup n).getD 0)::cs else cs)).lookup x=some c
   refine JN (l:=r) ?_
   rcases h with h | ⟨c,h⟩
   . rcases List.mem_cons.mp h with h | h
     . cases h
       refine .inr ⟨(env.cells.lookup x).getD 0,?_⟩
       rw[if_pos Ve,List.lookup_cons]
       simp only[beq_self_eq_true]
     . exact .inl h
   . refine .inr ?_
     by_cases hk:(k==NameKind.free)=true
     . rw[if_pos hk,List.lookup_cons]
       cases hx:x==n with
       | true=>exact⟨_,rfl⟩
       | false=>exact⟨c,h⟩
     . rw[if_neg hk]
       exact⟨c,h⟩
theorem J4 {scope:Scope} {env:Env} {x:Str} {k:NameKind}:∀{names:List (Str×NameKind)},names.lookup x=some k->
   ∃k',(names.map λ(n,k)=>if (k==NameKind.free&&env.scope.kind==.function&&env.kindOf n==some .cell) then (n,NameKind.cell) else (n,k)).lookup x=some k'/\(k'=k\/(k=.free/\k'=.cell))
 | [],h=>by simp at h
 | (n,j)::r,h=>by
   rw[List.map_cons]
   by_cases hx:x=n
   . subst hx
     rw[List.lookup_cons]at h
     simp only[beq_self_eq_true]at h
     cases h
     dsimp only
     by_cases hc:(k==NameKind.free&&env.scope.kind==.function&&env.kindOf x==some .cell)=true
     . rw[if_pos hc,List.lookup_cons]
       simp only[beq_self_eq_true]
       refine⟨_,rfl,.inr ⟨?_,rfl⟩⟩
       simp only[Bool.and_eq_true,beq_iff_eq]at hc
       exact hc.1.1
     . rw[if_neg hc,List.lookup_cons]
       simp only[beq_self_eq_true]
       exact⟨_,rfl,.inl rfl⟩
   . have hb:(x==n)=false:=beq_eq_false_iff_ne.mpr hx
     rw[List.lookup_cons]at h
     simp only[hb]at h
     obtain⟨k',h1,h2⟩:=J4 (env:=env) (scope:=scope) h
     refine⟨k',?_,h2⟩
     dsimp only
     by_cases hc:(j==NameKind.free&&env.scope.kind==.function&&env.kindOf n==some .cell)=true
     . rw[if_pos hc,List.lookup_cons]
       simp only[hb]
       exact h1
     . rw[if_neg hc,List.lookup_cons]
       simp only[hb]
       exact h1
theorem mem_of_lookup {x:Str} {k:NameKind}:∀{l:List (Str×NameKind)},l.lookup x=some k->(x,k)∈l
 | [],h=>by simp at h
 | (n,j)::r,h=>by
   rw[List.lookup_cons]at h
   by_cases hx:x=n
   . subst hx
     simp only[beq_self_eq_true]at h
     cases h
     exact List.mem_cons_self
   . have hb:(x==n)=false:=beq_eq_false_iff_ne.mpr hx
     simp only[hb]at h
     exact List.mem_cons_of_mem _ (mem_of_lookup h)
theorem JB {f:Str×NameKind->Str×NameKind} (hf:∀p,(f p).1=p.1) {x:Str} {k:NameKind}:∀{l:List (Str×NameKind)},(l.map f).lookup x=some k->∃j,l.lookup x=some j/\(f (x,j)).2=k
 | [],h=>by simp at h
 | (n,j)::r,h=>by
   rw[List.map_cons]at h
   have e:f (n,j)=(n,(f (n,j)).2):=by
     have:=hf (n,j)
     exact Prod.ext this rfl
   rw[e,List.lookup_cons]at h
   rw[List.lookup_cons]
   by_cases hx:x=n
   . subst hx
     simp only[beq_self_eq_true]at h ⊢
     exact⟨j,rfl,Option.some.inj h⟩
   . have hb:(x==n)=false:=beq_eq_false_iff_ne.mpr hx
     simp only[hb]at h ⊢
     exact JB hf h
def ZG (X:Cx) (N:List Str) (scope:Scope) (C:Addr) (s₂:Shared) (H₂:Hp) (fp:List Addr) (pins:List (Addr×Obj)):Cx where
 prog:=X.prog
 w:=X.w
 K:=X.K
 mg:=X.mg
 base:=X.base
 A:=X.A
 N:=N
 s₀:=s₂
 H₀:=H₂
 env:=compEnvC scope (js X.env scope.names []) C X.env
 outer:=X.stack
 stack:=X.stack
 ex:=fp
 fn:=λ_=>false
 calm:=X.calm
 pn:=X.pn++pins
 xe:=λ_ _=>False
def wS (ix:List (Option Nat)) (σ:St):St:=ix.map λo=>o.bind λj=>(σ[j]?).join
def xB (N' N:List Str) (sc esc:Scope) (ix:List (Option Nat)):Bool:=
 ix.length==N'.length&&(ix.zip N').all λp=>match p.1 with
   | none=>true
   | some j=>N[j]?==some p.2&&sc.names.lookup p.2==some .free&&(esc.names.lookup p.2==some .cell || esc.names.lookup p.2==some .free)
structure jU (X:Cx) (N':List Str) (ix:List (Option Nat)) (scope:Scope):Prop where
 kind:scope.kind=.function
 nocell:(scope.names.all λx=>x.2 != .cell)=true
 locs:(scope.names.all λx=>x.2 != .local || scope.names.lookup x.1==some .local)=true
 frees:(scope.names.all λx=>x.2 != .free || (X.env.scope.names.lookup x.1==some .cell || X.env.scope.names.lookup x.1==some .free))=true
 ixs:xB N' X.N scope X.env.scope ix=true
section
variable {X:Cx} {N':List Str} {ix:List (Option Nat)} {scope:Scope} {pins:List (Addr×Obj)} {σ:St} {H:Hp} {s:Shared}
theorem jU.cellH (S:jU X N' ix scope):∀y∈scope.names,y.2≠.cell:=λy hy e=>by
 have:=List.all_eq_true.mp S.nocell y hy
 rw[e]at this
 exact absurd this (by decide)
theorem jU.locH (S:jU X N' ix scope):∀y∈scope.names,y.2=.local->scope.names.lookup y.1=some .local:=λy hy e=>by
 have:=List.all_eq_true.mp S.locs y hy
 simp only[e,Bool.or_eq_true,bne_self_eq_false,Bool.false_eq_true,false_or,beq_iff_eq]at this
 exact this
theorem jU.freeH (S:jU X N' ix scope) (ok:X.Ok):∀x∈scope.names,x.2=.free->∃c,X.env.cells.lookup x.1=some c:=λx hx e=>by
 have:=List.all_eq_true.mp S.frees x hx
 simp only[e,Bool.or_eq_true,bne_self_eq_false,Bool.false_eq_true,false_or,beq_iff_eq]at this
 exact ok.has x.1 this
theorem jU.clook (S:jU X N' ix scope) (ok:X.Ok) {x:Str} {c:Addr} (h:(js X.env scope.names []).lookup x=some c):X.env.cells.lookup x=some c/\(x,NameKind.free)∈scope.names:=by
 rcases ZH h with h | ⟨h1,h2⟩
 . simp at h
 . obtain⟨c',hc'⟩:=S.freeH ok _ h1 rfl
   have hc2:X.env.cells.lookup x=some c':=hc'
   rw[hc2]at h2
   subst h2
   exact⟨hc2,h1⟩
theorem Gi {C:Addr} {fp:List Addr} (S:jU X N' ix scope) (I:qy X pins σ H s) (hC:s.heap.objs.size<=C) (hf:∀b∈fp,JR X pins H b) (hfo:∀b∈fp,b < s.heap.objs.size):(ZG X N' scope C s H fp pins).Ok where
 mod:=I.ok.mod
 kind:=S.kind
 glob:=I.ok.glob
 blt:=I.ok.blt
 above:=hC
 inj:=λx y c h1 h2=>I.ok.inj x y c (S.clook I.ok h1).1 (S.clook I.ok h2).1
 has:=λx hx=>by
   have hx':(relabel scope X.env).names.lookup x=some .cell\/(relabel scope X.env).names.lookup x=some .free:=hx
   refine JN (.inl ?_)
   have go:∀k,(k=NameKind.cell\/k=.free)->(relabel scope X.env).names.lookup x=some k->(x,NameKind.free)∈scope.names:=λk hk h=>by
     obtain⟨j,h1,h2⟩:=JB (f:=λ(n,k)=>if (k==NameKind.free&&X.env.scope.kind==.function&&X.env.kindOf n==some .cell) then (n,NameKind.cell) else (n,k)) (λp=>by dsimp only;split<;>rfl) h
     have hm:=mem_of_lookup h1
     by_cases hj:j=.free
     . subst hj;exact hm
     . exfalso
       have hb:(j==NameKind.free)=false:=by simpa using hj
       dsimp only at h2
       rw[hb,Bool.false_and,Bool.false_and,if_neg (by decide)]at h2
       have h2':j=k:=h2
       rcases hk with e | e
       . exact S.cellH _ hm (h2'.trans e)
       . exact hj (h2'.trans e)
   rcases hx' with h | h
   . exact go _ (.inl rfl) h
   . exact go _ (.inr rfl) h
 cab:=λx c h _=>by cases h
 hd:=I.ok.hd
 frames:=I.ok.frames
 stk:=.inl rfl
 exf:=λb hb=>⟨Nat.ne_of_lt (Nat.lt_of_lt_of_le (hfo b hb) hC),λx c h=>(hf b hb).2.2.2.2.1 x c (S.clook I.ok h).1⟩
 bs:=I.bs
 bsz:=Nat.le_trans I.ok.bsz I.sz
 noex:=λb o e hb=>by
   rcases(hf b hb).2.2.2.1 with h | h
   . exact I.ok.noex b o e h
   . exact absurd (Nat.lt_of_lt_of_le (Heap.lt_size e) (Nat.le_trans I.ok.bsz h)) (Nat.lt_irrefl _)
 exfs:=λb hb hm=>by
   rcases List.mem_cons.mp (I.stkSub b hm) with e | e
   . exact(hf b hb).2.1 e
   . exact(hf b hb).2.2.1 e
 funs:=I.stack
 frf:=I.stkFree
theorem Ud {C D:Addr} {fp:List Addr} {h₁:Heap} {m:Str->Option Value} {t':Nat} {n₀:Nat} (S:jU X N' ix scope) (I:qy X pins σ H s) (hf:∀b∈fp,JR X pins H b) (hfo:∀b∈fp,b < s.heap.objs.size)
   (hD:s.heap.objs.size<=D) (hC:s.heap.objs.size<=C) (hDC:D≠C) (kp:∀b o,s.heap.get? b=some o->h₁.get? b=some o) (hn:h₁.Ns C m) (hl:h₁.get? D=some {cls:=.type "list",data:=.seq #[] n₀}):
   qy (ZG X N' scope C s H fp pins) [] (wS ix σ) (upd H D (.lst [])) {s with heap:=h₁,toks:=t'} where
 ok:=Gi S I hC hf hfo
 os:=rfl
 bare:=I.bare
 base:=Un.laid kp hD (I.hok.fresh hD)
 loc:=by
   refine⟨m,hn,λi x v e1 e2 e3=>?_⟩
   have hix:=S.ixs
   unfold xB at hix
   rw[Bool.and_eq_true]at hix
   obtain⟨hlen,hall⟩:=hix
   have hlen':ix.length=N'.length:=by simpa using hlen
   have e1':N'[i]?=some x:=e1
   unfold wS at e2
   rw[List.getElem?_map]at e2
   cases ho:ix[i]? with
   | none=>rw[ho]at e2;cases e2
   | some o=>
     rw[ho]at e2
     cases o with
     | none=>cases e2
     | some j=>
       have e2':(σ[j]?).join=some v:=Option.some.inj e2
       have hz:(ix.zip N')[i]?=some (some j,x):=by
         rw[List.getElem?_zip_eq_some]
         exact⟨ho,e1'⟩
       have hm:=List.all_eq_true.mp hall _ (List.mem_of_getElem? hz)
       dsimp only at hm
       simp only[Bool.and_eq_true,beq_iff_eq,Bool.or_eq_true]at hm
       obtain⟨⟨hN,hfr⟩,hk⟩:=hm
       have e2'':σ[j]?=some (some v):=by
         cases q:σ[j]? with
         | none=>rw[q]at e2';cases e2'
         | some z=>
           rw[q]at e2'
           have:z=some v:=e2'
           rw[this]
       obtain⟨mX,hnX,hlX⟩:=I.loc
       have hvis:u8 X.env.scope x:=by
         rcases hk with h | h
         . exact .inr (.inl h)
         . exact .inr (.inr h)
       obtain⟨u,ru,lu⟩:=hlX j x v hN e2'' hvis
       refine⟨u,ru,?_⟩
       rcases lu with ⟨hk',_⟩ | ⟨_,c,hc,hcell⟩
       . exfalso
         have hk'':X.env.scope.names.lookup x=some .local:=hk'
         rcases hk with h | h<;>rw[h]at hk''<;>cases hk''
       . right
         obtain⟨k',r1,r2⟩:=J4 (scope:=scope) (env:=X.env) hfr
         refine⟨?_,?_⟩
         . rcases r2 with z | ⟨_,z⟩
           . right;rw[z]at r1;exact r1
           . left;rw[z]at r1;exact r1
         . obtain⟨c',hc'⟩:=JN (env:=X.env) (cs:=[]) (.inl (mem_of_lookup hfr))
           have:=(S.clook I.ok hc').1
           rw[hc]at this
           cases this
           obtain⟨o,ho',hd⟩:=hcell
           exact⟨c,hc',o,kp _ _ ho',hd⟩
 cell:=λx c h=>by
   obtain⟨v,o,ho,hd⟩:=I.cell x c (S.clook I.ok h).1
   exact⟨v,o,kp _ _ ho,hd⟩
 free:=by
   show (upd H D _) C=none
   rw[qk (Ne.symm hDC)]
   exact I.hok.fresh hC
 freeC:=λx c h=>by
   have h1:=(S.clook I.ok h).1
   obtain⟨v,o,ho,hd⟩:=I.cell x c h1
   rw[qk (Nat.ne_of_lt (Nat.lt_of_lt_of_le (Heap.lt_size ho) hD))]
   exact(I.freeC x c h1).imp id λz=>⟨rfl,z.2⟩
 pin:=λp hp=>by
   have hp':p∈X.pn++pins:=by
     have:p∈(X.pn++pins)++[]:=hp
     simpa using this
   obtain⟨e,n,ne,nf,d⟩:=I.pin p hp'
   have hlt:=Heap.lt_size e
   refine⟨kp _ _ e,?_,Nat.ne_of_lt (Nat.lt_of_lt_of_le hlt hC),λhm=>?_,d⟩
   . rw[qk (Nat.ne_of_lt (Nat.lt_of_lt_of_le hlt hD))];exact n
   . rcases List.mem_cons.mp (I.stkSub p.1 hm) with z | z
     . exact ne z
     . exact nf z
 hok:=I.hok.laid kp hD ⟨Nat.zero_le _,[],n₀,.nil,hl⟩
 len:=by
   have hix:=S.ixs
   unfold xB at hix
   rw[Bool.and_eq_true]at hix
   have:ix.length=N'.length:=by simpa using hix.1
   show (wS ix σ).length=N'.length
   unfold wS
   rw[List.length_map,this]
theorem kA {C:Addr} {fp:List Addr} {σ':St} {H':Hp} {s':Shared} {pl:List (Addr×Obj)} (I:qy X pins σ H s) (hf:∀b∈fp,JR X pins H b) (J:qy (ZG X N' scope C s H fp pins) pl σ' H' s'):qy X pins σ H' s':=
 I.call' (ch:=fp) J.os J.base J.hok J.bare λb hb=>⟨(hf b hb).2.2.2.1,(hf b hb).2.1,(hf b hb).2.2.2.2.1,(hf b hb).2.2.2.2.2⟩
theorem kz {C:Addr} {H':Hp} {s₀ s':Shared} {h':Heap} (I₀:qy X pins σ H s₀) (I:qy X pins σ H' s') (hC:s₀.heap.objs.size<=C) (hn:H' C=none) (sb:Heap.SameBut C s'.heap h'):qy X pins σ H' {s' with heap:=h'}:=by
 refine I.turned (it:=C) (t':=s'.toks) (λb o hb e=>(sb.2 b hb).trans e) hn (Nat.ne_of_gt (Nat.lt_of_lt_of_le I₀.lt hC)) (.inr (Nat.le_trans I₀.sz hC)) (λx c e z=>?_) λp hp z=>?_
 . obtain⟨v,q⟩:=I₀.cell x c e
   exact absurd (Nat.lt_of_lt_of_le q.lt (by rw[z];exact hC)) (Nat.lt_irrefl _)
 . exact absurd (Nat.lt_of_lt_of_le (Heap.lt_size (I₀.pin p hp).1) (by rw[z];exact hC)) (Nat.lt_irrefl _)
end
def u9 (X:Cx) (ifs:List Expr) (t:TT):Prop:=
 ∀(pins:List (Addr×Obj)) (s:Shared) (σ:St) (H:Hp) (Q:Bool->Hp->Prop),qy X pins σ H s->t σ H Q->
   wpAny (model X.prog X.w) X.A (forIn ifs true λc r=>if r=true then do let ok <-isTrue c X.env (eval c X.env);pure (ForInStep.yield ok) else pure (ForInStep.yield r)) (TP X pins σ Q) X.xe s
@[irreducible] def ya (X:Cx) (ifs:List Expr) (t:TT):Prop:=u9 X ifs t
theorem ya.of {X:Cx} {ifs:List Expr} {t:TT} (h:u9 X ifs t):ya X ifs t:=by unfold ya;exact h
theorem ya.to {X:Cx} {ifs:List Expr} {t:TT} (h:ya X ifs t):u9 X ifs t:=by unfold ya at h;exact h
def Kd:TT:=λ_ H Q=>Q true H
theorem jQ {X:Cx}:ya X [] Kd:=.of (by
 exact λ_ _ _ H _ I h=>wpAny_tests_nil ⟨H,I,h⟩)
theorem j4 {X:Cx} {c:Expr} {t:TT} (h:JT X c t):ya X [c] t:=.of (by
 have h:=h.to
 exact λpins s σ H Q I hw=>wpAny_tests_one (h pins s σ H Q I hw))
section
variable {prog:Program} {w:World} {A:Around} {R:Result->Shared->Prop} {s:Shared}
theorem Y8 {elt target iter:Expr} {ifs:List Expr} {scope:Scope} {pos:Pos} {it acc:Value} {env:Env} (I:Nat->Shared->Prop)
   (turn:∀n s,I n s->wpAny (model prog w) A (pyNext it) (λr s₁=>match r with
     | none=>R (.ok .next) s₁
     | some v=>wpAny (model prog w) A (letOwnedTupleGo target it v) (λ_ s₁'=>wpAny (model prog w) A (assign target env v) (λ_ s₂=>
         wpAny (model prog w) A (forIn ifs true λc r=>if r=true then do let ok <-isTrue c env (eval c env);pure (ForInStep.yield ok) else pure (ForInStep.yield r)) (λok s₃=>
           if ok=true then wpAny (model prog w) A (eval elt env) (λx s₄=>
             wpAny (model prog w) A (call (.builtin "list.append") [acc,x]) (λ_ s₅=>∃m,m < n/\I m s₅) (λ_ _=>False) s₄) (λ_ _=>False) s₃
           else ∃m,m < n/\I m s₃) (λ_ _=>False) s₂) (λ_ _=>False) s₁') (λ_ _=>False) s₁) (λ_ _=>False) s)
   (n:Nat) (h:I n s):
   codeAny (model prog w) A (.compLoop (.ListComp elt [⟨target,iter,ifs,0⟩] scope pos) 0 it acc env) R s:=by
 refine codeAny_loop rfl I (λn s hI=>?_) n h
 show wpAny _ A ((compTurn (.ListComp elt [⟨target,iter,ifs,0⟩] scope pos) 0 it acc env).onRaise (λx=>do noteFrame x env;theTreesLotGoes x)) _ _ s
 refine wpAny_noted ?_
 rw[compTurn_list]
 refine wpAny_bind (wpAny_standAt (wpAny_bind (wpAny_mono (turn n s hI) (λr s₁ h₁=>?_) λ_ _ h'=>h'.elim)))
 cases r with
 | none=>exact wpAny_pure h₁
 | some v=>
   refine wpAny_bind (wpAny_mono h₁ (λ_ s₁' h₁'=>?_) λ_ _ h'=>h'.elim)
   refine wpAny_bind (wpAny_mono h₁' (λ_ s₂ h₂=>wpAny_bind (wpAny_mono h₂ (λok s₃ h₃=>?_) λ_ _ h'=>h'.elim)) λ_ _ h'=>h'.elim)
   cases ok with
   | false=>exact wpAny_pure ⟨rfl,h₃⟩
   | true=>
     exact wpAny_bind (wpAny_bind (wpAny_mono h₃ (λx s₄ h₄=>wpAny_bind (wpAny_mono h₄ (λ_ s₅ h₅=>wpAny_pure (wpAny_pure ⟨rfl,h₅⟩)) λ_ _ h'=>h'.elim)) λ_ _ h'=>h'.elim))
end
def ZI (J:It) (g:TG) (tt:TT) (te:TE) (D:Addr) (σ:St) (H:Hp) (Q:Hp->Prop):Prop:=
 ∃W:Nat->Nat->St->Hp->Prop,(∃m,W 0 m σ (upd H D (.lst [])))/\∀i m σ' H',W i m σ' H'->
   (J.stop i H'/\Q H')\/(J.go i H'/\∃N:St->Hp->Prop,(∀σ2 H2,N σ2 H2->∃m',m' < m/\W (i+1) m' σ2 H2)/\∀x H2,J.yld i H' x H2->g x σ' H2 λσ2 H3=>tt σ2 H3 λb H4=>
     if b=true then te σ2 H4 λv H5=>∃ys,H5 D=some (.lst ys)/\ys.length < sizeLine/\N σ2 (upd H5 D (.lst (ys++[v]))) else N σ2 H4)
def GH (wi:TI) (ix:List (Option Nat)) (g:TG) (tt:TT) (te:TE):TE:=λσ H Q=>wi σ H λJ H1=>∀D,H1 D=none->ZI J g tt te D (wS ix σ) H1 λH2=>Q (.ref D) H2
section
variable {X:Cx} {N':List Str} {ix:List (Option Nat)} {scope:Scope}
theorem Yv {elt iter target:Expr} {ifs:List Expr} {pos:Pos} {g:TG} {tt:TT} {te:TE} {pins:List (Addr×Obj)} {σ:St} {H:Hp} {s:Shared} {it:Addr} {fp:List Addr} {tn:Nat->Heap->Prop} {J:It} {E:Value->Shared->Prop}
   {RR:Value->Addr->Result->Shared->Prop} {Q:Addr->Hp->Prop}
   (hc:X.calm=true) (S:jU X N' ix scope) (I:qy X pins σ H s) (T:X1 X.prog X.w X.K target J fp it tn) (st:tn 0 s.heap) (hf:∀b∈fp,JR X pins H b)
   (hb:∀C s₂ H₂ fp pins,PG (ZG X N' scope C s₂ H₂ fp pins) target g/\u9 (ZG X N' scope C s₂ H₂ fp pins) ifs tt/\PE (ZG X N' scope C s₂ H₂ fp pins) elt te)
   (h:∀D,H D=none->ZI J g tt te D (wS ix σ) H (Q D))
   (fin:∀(D C:Addr) (H':Hp) (s':Shared) (m:Str->Option Value),s.heap.objs.size<=C->H' C=none->s'.heap.Ns C m->qy X pins σ H' s'->Q D H'->RR (.ref D) C (.ok .next) s'):
   wpAny (model X.prog X.w) X.A (newList []) (λacc s₃=>wpAny (model X.prog X.w) X.A (newFunctionEnv scope X.env.globals (js X.env scope.names []) [] X.env.qual none .none (some X.env)) (λcenv s₄=>
     codeAny (model X.prog X.w) X.A (.compStart (.ListComp elt [⟨target,iter,ifs,0⟩] scope pos) 0 (.ref it) acc {cenv with scope:=relabel scope X.env}) (RR acc cenv.locals) s₄) E s₃) E s:=by
 have hfo:∀b∈fp,b < s.heap.objs.size:=λb hb=>by
   obtain⟨o,e,_⟩:=T.obj _ _ st b hb
   exact Heap.lt_size e
 refine wpAny_newObj_type (wpAny_newFunctionEnv S.cellH (by intro y hy;simp at hy) (λh₁ hns₁ hsb₁=>?_) S.kind)
 dsimp only at hns₁ hsb₁ ⊢
 generalize hH2:s.heap.push {cls:=.type "list",dict:=none,data:=.seq ([]:List Value).toArray}=H2 at hns₁ hsb₁ ⊢
 have hC:H2.objs.size=s.heap.objs.size+1:=by rw[<-hH2,Heap.size_push]
 have hDC:s.heap.objs.size≠H2.objs.size:=by rw[hC];exact Nat.ne_of_lt (Nat.lt_succ_self _)
 have hCle:s.heap.objs.size<=H2.objs.size:=by rw[hC];exact Nat.le_succ _
 have below:∀b,b < s.heap.objs.size->b≠H2.objs.size:=λb hb=>by rw[hC];exact Nat.ne_of_lt (Nat.lt_succ_of_lt hb)
 have old:∀b o,s.heap.get? b=some o->h₁.get? b=some o:=λb o e=>hsb₁.extBut b o (below b (Heap.lt_size e)) (Heap.get?_push_of_some _ (hH2▸Heap.get?_push_of_some _ e))
 have hacc:h₁.get? s.heap.objs.size=some {cls:=.type "list",data:=.seq #[] 0}:=hsb₁.extBut _ _ hDC (Heap.get?_push_of_some _ (hH2▸Heap.get?_push_size _ rfl))
 obtain⟨W,⟨m0,w0⟩,turn⟩:=h s.heap.objs.size (I.hok.fresh (Nat.le_refl _))
 have I1:qy (ZG X N' scope H2.objs.size s H fp pins) [] (wS ix σ) (upd H s.heap.objs.size (.lst [])) {s with heap:=h₁,toks:=s.toks+([]:List (Str×Value)).length}:=
   Ud S I hf hfo (Nat.le_refl _) hCle hDC old hns₁ hacc
 have st₁:tn 0 h₁:=T.keep _ _ _ st λb hb o e=>old b o e
 have fpn:∀b∈fp,(upd H s.heap.objs.size (.lst [])) b=none:=λb hb=>by
   rw[qk (Nat.ne_of_lt (hfo b hb))]
   exact(hf b hb).1
 obtain⟨hg,htt,hte⟩:=hb H2.objs.size s H fp pins
 have okY:=I1.ok
 have stat:∀{H':Hp},(∀b∈fp,H' b=none)->∀b∈fp,JR (ZG X N' scope H2.objs.size s H fp pins) [] H' b:=λ{H'} hn b hb=>
   ⟨hn b hb,(okY.exf b hb).1,okY.exfs b hb,.inl hb,(okY.exf b hb).2,λp hp=>by
     have hp':p∈X.pn++pins:=by
       have:p∈(X.pn++pins)++[]:=hp
       simpa using this
     exact(hf b hb).2.2.2.2.2 p hp'⟩
 have loop:codeAny (model X.prog X.w) X.A (.compLoop (.ListComp elt [⟨target,iter,ifs,0⟩] scope pos) 0 (.ref it) (.ref s.heap.objs.size) (compEnvC scope (js X.env scope.names []) H2.objs.size X.env))
     (RR (.ref s.heap.objs.size) H2.objs.size) {s with heap:=h₁,toks:=s.toks+([]:List (Str×Value)).length}:=by
   refine Y8 (λn s'=>∃i σ' H',qy (ZG X N' scope H2.objs.size s H fp pins) [] σ' H' s'/\tn i s'.heap/\(∀b∈fp,H' b=none)/\W i n σ' H') ?_ m0 ⟨0,_,_,I1,st₁,fpn,w0⟩
   rintro n s3 ⟨i,σ3,H3,I3,st3,fr3,w3⟩
   rcases turn i n σ3 H3 w3 with ⟨stop,qn⟩ | ⟨go,NN,hNN,step⟩
   . refine ja (T.done (ZG X N' scope H2.objs.size s H fp pins) rfl rfl rfl hc i [] s3 σ3 H3 _ I3 (stat fr3) st3 stop) λr s4 ⟨hr,I4⟩=>?_
     subst hr
     obtain⟨mm,hnm,_⟩:=I4.loc
     exact fin _ _ H3 s4 mm hCle I4.free hnm (kA I hf I4) qn
   . refine ja (T.item (ZG X N' scope H2.objs.size s H fp pins) rfl rfl rfl hc i [] s3 σ3 H3 _ I3 (stat fr3) st3 go) λr s4 ⟨u,hr,h4⟩=>?_
     subst hr
     refine ja h4 λ_ s5 ⟨x,H5,I5,r5,y5,st5,fr5⟩=>?_
     have I5':=I5.pinned (stat fr5) (T.obj _ _ st5)
     refine ja (hg _ s5 σ3 H5 x u _ I5' r5 (step x H5 y5)) λ_ s6 ⟨σ6,H6,I6,q6⟩=>?_
     refine ja (htt _ s6 σ6 H6 _ I6 q6) λok s7 ⟨H7,I7,q7⟩=>?_
     have again:∀{σ8:St} {H8:Hp} {s8:Shared},qy (ZG X N' scope H2.objs.size s H fp pins) ([]++zd fp s5.heap) σ8 H8 s8->NN σ8 H8->
         ∃m,m < n/\∃i σ' H',qy (ZG X N' scope H2.objs.size s H fp pins) [] σ' H' s8/\tn i s8.heap/\(∀b∈fp,H' b=none)/\W i m σ' H':=λ{σ8 H8 s8} I8 n8=>by
       obtain⟨m',hm,w8⟩:=hNN σ8 H8 n8
       refine⟨m',hm,i+1,σ8,H8,I8.unpinned,T.keep _ _ _ st5 λb hb o e=>(I8.pin (b,o) (List.mem_append_right _ (List.mem_append_right _ (QS hb e)))).1,λb hb=>?_,w8⟩
       obtain⟨o,e,d⟩:=T.obj _ _ st5 b hb
       exact(I8.pin (b,o) (List.mem_append_right _ (List.mem_append_right _ (QS hb e)))).2.1
     cases ok with
     | false=>
       rw[if_neg Bool.false_ne_true]at q7 ⊢
       exact again I7 q7
     | true=>
       rw[if_pos rfl]at q7 ⊢
       refine ja (hte _ s7 σ6 H7 _ I7 q7) λv s8 ⟨y,H8,I8,r8,q8⟩=>?_
       obtain⟨ys,hy,hz,q8⟩:=q8
       refine ja (Zq (X:=ZG X N' scope H2.objs.size s H fp pins) _ s8 σ6 H8 (.ref s.heap.objs.size) [y] (.ref s.heap.objs.size) [v] (λ_ H9=>NN σ6 H9) I8 rfl (.cons r8 .nil) ⟨_,ys,y,rfl,rfl,hy,hz,q8⟩) λ_ s9 ⟨_,H9,I9,_,q9⟩=>?_
       exact again I9 q9
 exact codeAny_compStart_list loop (T.self X.A 0 _ _ _ st₁ loop)
theorem KL {elt iter target:Expr} {ifs:List Expr} {pos:Pos} {wi:TI} {g:TG} {tt:TT} {te:TE} (hc:X.calm=true) (S:jU X N' ix scope) (hi:PI X target iter wi)
   (hb:∀C s₂ H₂ fp pins,PG (ZG X N' scope C s₂ H₂ fp pins) target g/\u9 (ZG X N' scope C s₂ H₂ fp pins) ifs tt/\PE (ZG X N' scope C s₂ H₂ fp pins) elt te)
   (hs:∀x,foldedSetIterable iter X.env x=pure x:=by intro _;rfl):PE X (.ListComp elt [⟨target,iter,ifs,0⟩] scope pos) (GH wi ix g tt te):=by
 intro pins s σ H Q I h
 rw[eval_ListComp]
 refine wpAny_comprehension_free (use:=none) rfl hs (JH (S.freeH I.ok)) S.kind S.locH ?_
 refine ja (hi pins s σ H _ I h) λxv s1 h1=>ja h1 λitv s2 h2=>?_
 obtain⟨it,fp,tn,J,H2,e,I2,T,st2,f2,q2⟩:=h2
 subst e
 refine Yv (RR:=λacc C=>compPost (model X.prog X.w) X.A X.xe none (EP X pins σ Q) acc C) (Q:=λD H'=>Q (.ref D) H') hc S I2 T st2 f2 hb q2 ?_
 intro D C H' s' m hC hn hm I' q
 exact⟨m,hm,λh' sb=>⟨.ref D,H',kz I2 I' hC hn sb,rfl,q⟩⟩
theorem Qs {elt iter target:Expr} {ifs:List Expr} {pos:Pos} {wi:TI} {g:TG} {tt:TT} {te:TE} (hc:X.calm=true) (S:jU X N' ix scope) (hi:JI X target iter wi) (hb:∀C s₂ H₂ fp pins,JG (ZG X N' scope C s₂ H₂ fp pins) target g/\ya (ZG X N' scope C s₂ H₂ fp pins) ifs tt/\JE (ZG X N' scope C s₂ H₂ fp pins) elt te) (hs:∀x,foldedSetIterable iter X.env x=pure x:=by intro _;rfl):JE X (.ListComp elt [⟨target,iter,ifs,0⟩] scope pos) (GH wi ix g tt te):=.of (KL hc S hi.to (λC s₂ H₂ fp pins=>⟨(hb C s₂ H₂ fp pins).1.to,(hb C s₂ H₂ fp pins).2.1.to,(hb C s₂ H₂ fp pins).2.2.to⟩) hs)
theorem ve {i:Nat} {x:Str} {elt iter target:Expr} {ifs:List Expr} {pos spos px:Pos} {wi:TI} {g:TG} {tt:TT} {te:TE} (hN:X.N.Nodup) (hxi:X.N[i]?=some x) (hx:u0 X.env.scope x) (hc:X.calm=true) (S:jU X N' ix scope) (hi:PI X target iter wi)
   (hb:∀C s₂ H₂ fp pins,PG (ZG X N' scope C s₂ H₂ fp pins) target g/\u9 (ZG X N' scope C s₂ H₂ fp pins) ifs tt/\PE (ZG X N' scope C s₂ H₂ fp pins) elt te)
   (hsw:swapsWith (.ListComp elt [⟨target,iter,ifs,0⟩] scope pos) (some (.Name x px)) spos.line X.env=pure true:=by rfl)
   (hs:∀x,foldedSetIterable iter X.env x=pure x:=by intro _;rfl) (hf:X.fn x=true\/X.env.scope.names.lookup x=some .local:=by first | exact .inl rfl | exact .inr rfl | assumption):
   PS X (.Assign [.Name x px] (.ListComp elt [⟨target,iter,ifs,0⟩] scope pos) spos) (UK (GH wi ix g tt te) (j9 i)):=by
 intro pins s σ H D I h
 rw[exec_Assign_Name_used _ _ _ _ hsw]
 refine wpAny_bind (wpAny_standAt (wpAny_bind ?_))
 show wpAny _ X.A (do let _ <-comprehension (.ListComp elt [⟨target,iter,ifs,0⟩] scope pos) scope X.env _ (newList []) false (eval iter X.env) (some (assign (.Name x px) X.env))) _ _ s
 refine wpAny_bind (ja (wpAny_comprehension_free (use:=some (assign (.Name x px) X.env)) (Q:=λ_ s'=>SP X pins D .next s') rfl hs (JH (S.freeH I.ok)) S.kind S.locH ?_) λ_ s' hq=>wpAny_pure (wpAny_pure hq))
 refine ja (hi pins s σ H _ I h) λxv s1 h1=>ja h1 λitv s2 h2=>?_
 obtain⟨it,fp,tn,J,H2,e,I2,T,st2,f2,q2⟩:=h2
 subst e
 refine Yv (RR:=λacc C=>compPost (model X.prog X.w) X.A X.xe (some (assign (.Name x px) X.env)) (λ_ s'=>SP X pins D .next s') acc C) (Q:=λD' H'=>j9 i (.ref D') σ H' D.nx) hc S I2 T st2 f2 hb q2 ?_
 intro D' C H' s' m hC hn hm I' q
 show wpAny _ X.A (assign (.Name x px) X.env (.ref D')) _ _ _
 refine wpAny_assign_Name (z9 I' hN hxi hx (v:=.ref D') rfl (λs'' I'' hch=>?_) hf)
 obtain⟨a,sb,ha⟩:=hch
 have hCa:C≠a:=by
   rcases ha with z | z
   . rw[z];exact Nat.ne_of_gt (Nat.lt_of_lt_of_le I2.lt hC)
   . intro e
     obtain⟨v,qc⟩:=I2.cell x a z
     exact absurd (Nat.lt_of_lt_of_le qc.lt (by rw[<-e];exact hC)) (Nat.lt_irrefl _)
 refine⟨m,hm.sameBut sb hCa,λh' sb'=>?_⟩
 refine⟨_,H',?_,q⟩
 refine I''.turned (it:=C) (t':=s''.toks) (λb o hb e=>(sb'.2 b hb).trans e) hn (Nat.ne_of_gt (Nat.lt_of_lt_of_le I2.lt hC)) (.inr (Nat.le_trans I2.sz hC)) (λy c e z=>?_) λp hp z=>?_
 . obtain⟨v,qc⟩:=I2.cell y c e
   exact absurd (Nat.lt_of_lt_of_le qc.lt (by rw[z];exact hC)) (Nat.lt_irrefl _)
 . exact absurd (Nat.lt_of_lt_of_le (Heap.lt_size (I2.pin p hp).1) (by rw[z];exact hC)) (Nat.lt_irrefl _)
theorem Qr {i:Nat} {x:Str} {elt iter target:Expr} {ifs:List Expr} {pos spos px:Pos} {wi:TI} {g:TG} {tt:TT} {te:TE} (hN:X.N.Nodup) (hxi:X.N[i]?=some x) (hx:u0 X.env.scope x) (hc:X.calm=true) (S:jU X N' ix scope) (hi:JI X target iter wi) (hb:∀C s₂ H₂ fp pins,JG (ZG X N' scope C s₂ H₂ fp pins) target g/\ya (ZG X N' scope C s₂ H₂ fp pins) ifs tt/\JE (ZG X N' scope C s₂ H₂ fp pins) elt te) (hsw:swapsWith (.ListComp elt [⟨target,iter,ifs,0⟩] scope pos) (some (.Name x px)) spos.line X.env=pure true:=by rfl) (hs:∀x,foldedSetIterable iter X.env x=pure x:=by intro _;rfl) (hf:X.fn x=true\/X.env.scope.names.lookup x=some .local:=by first | exact .inl rfl | exact .inr rfl | assumption):JS X (.Assign [.Name x px] (.ListComp elt [⟨target,iter,ifs,0⟩] scope pos) spos) (UK (GH wi ix g tt te) (j9 i)):=.of (ve hN hxi hx hc S hi.to (λC s₂ H₂ fp pins=>⟨(hb C s₂ H₂ fp pins).1.to,(hb C s₂ H₂ fp pins).2.1.to,(hb C s₂ H₂ fp pins).2.2.to⟩) hsw hs hf)
end
end L2
set_option Elab.async false
set_option linter.all false
set_option maxRecDepth 100000
set_option maxHeartbeats 4000000
namespace L2
open PySem PySem.Spec PyProof.Rows
def R0 (x:Str):It:=⟨λi _=>i < x.cps.size,λi H v H'=>H'=H/\∃c,x.cps[i]?=some c/\v=.str ⟨#[c]⟩,λi _=>i=x.cps.size⟩
theorem Xm {P:Program} {w:World} {K:PySem.W.Frag} {tg:Expr} (it:Addr) (x:Str) (t:Tok) (ty:String)
   (hn:["enumerate","zip","dict_itemiterator","dict_reverseitemiterator","odict_iterator","itertools.zip_longest","itertools.pairwise"].contains ty=false)
   (hW:∀A:Around,A.handled=none->Walks P w A it [it] [it] x.cps.size (SignAt x) (λi h=>h.IsStrIter it ty x t i))
   (hself:∀(A:Around) (i:Nat) (s:Shared) (Q:Value->Shared->Prop) (E:Value->Shared->Prop),s.heap.IsStrIter it ty x t i->Q (.ref it) s->wpAny (model P w) A (pyIter (.ref it)) Q E s):
   X1 P w K tg (R0 x) [it] it (λi h=>h.IsStrIter it ty x t i) where
 mem:=by simp
 obj:=λi h st b hb=>by
   have e:b=it:=by simpa using hb
   subst e
   obtain⟨o,e,c,d⟩:=st
   exact⟨o,e,λv z=>by rw[d]at z;cases z⟩
 keep:=λi h h' st k=>let ⟨o,e,r⟩:=st;⟨o,k it (by simp) o e,r⟩
 item:=by
   intro X hP hw hK hc i pins s σ H E I hf st hg
   subst hP hw hK
   obtain⟨f0,f1,f2,f3,f4,f5⟩:=hf it (by simp)
   refine(hW X.A (I.ok.hd hc)).item i s _ _ hg st λv h' tk hv st' kk=>?_
   obtain⟨c,u,hcu,rfl⟩:=hv
   have I1:qy X pins σ H {s with heap:=h',toks:=tk}:=I.turned (λb o hb e=>kk b o (by simpa using hb) e) f0 f1 f3 f4 f5
   obtain⟨o,e,c1,d1⟩:=id st'
   exact⟨_,rfl,XM (s:={s with heap:=h',toks:=tk}) e c1 d1 hn ⟨.str ⟨#[c]⟩,H,I1,⟨u,rfl⟩,⟨rfl,c,hcu,rfl⟩,st',λb hb=>(hf b hb).1⟩⟩
 done:=by
   intro X hP hw hK hc i pins s σ H E I hf st hg
   subst hP hw hK
   obtain⟨f0,f1,f2,f3,f4,f5⟩:=hf it (by simp)
   have hi:i=x.cps.size:=hg
   subst hi
   exact(hW X.A (I.ok.hd hc)).done s _ _ st λh' tk kk=>⟨rfl,I.turned (λb o hb e=>kk b o (by simpa using hb) e) f0 f1 f3 f4 f5⟩
 self:=hself
def RN (tl:TE):TI:=λσ H R=>tl σ H λx H1=>∃y,x=.str y/\R (R0 y) H1
theorem uL {X:Cx} {tg l:Expr} {tl:TE} (hl:JE X l tl):JI X tg l (RN tl):=.of (by
 have hl:=hl.to
 intro pins s σ H R I h
 refine ja (hl pins s σ H _ I h) λv s1 ⟨x,H1,I1,r1,q1⟩=>?_
 obtain⟨y,e,q⟩:=q1
 subst e
 obtain⟨t,rfl⟩:=r1
 have fp:∀b∈[s1.heap.objs.size],JR X pins H1 b:=λb hb=>by
   have e:b=s1.heap.objs.size:=by simpa using hb
   subst e
   exact I1.fpOk (Nat.le_refl _) (I1.hok.fresh (Nat.le_refl _))
 cases ha:y.cps.all (· < 128)
 . refine wpAny_pyIter_wide ha ?_
   exact⟨s1.heap.objs.size,[s1.heap.objs.size],_,_,H1,rfl,I1.kept (t':=s1.toks) λb o e=>Heap.get?_push_of_some _ e,
     Xm _ y t "str_iterator" (by decide) (λA hA=>Walks.strWide hA _ y t) (λA i s Q E st q=>wpAny_pyIter_striter_wide st q),⟨_,Heap.get?_push_size _ rfl,rfl,rfl⟩,fp,q⟩
 . refine wpAny_pyIter_ascii ha ?_
   exact⟨s1.heap.objs.size,[s1.heap.objs.size],_,_,H1,rfl,I1.kept (t':=s1.toks) λb o e=>Heap.get?_push_of_some _ e,
     Xm _ y t "str_ascii_iterator" (by decide) (λA hA=>Walks.strAscii hA _ y t) (λA i s Q E st q=>wpAny_pyIter_striter_ascii st q),⟨_,Heap.get?_push_size _ rfl,rfl,rfl⟩,fp,q⟩)
section
variable {K:PySem.W.Frag} {g:TG} {tt:TT} {te:TE} {D a:Addr} {σ:St} {H:Hp} {Q:Hp->Prop}
def XY (tt:TT) (te:TE) (D:Addr) (N:St->Hp->Prop):St->Hp->Prop:=λσ2 H3=>tt σ2 H3 λb H4=>
 if b=true then te σ2 H4 λv H5=>∃ys,H5 D=some (.lst ys)/\ys.length < sizeLine/\N σ2 (upd H5 D (.lst (ys++[v]))) else N σ2 H4
theorem Xa {J:It} {n:Nat} (Pv:Nat->St->Hp->Prop) (h0:Pv 0 σ (upd H D (.lst [])))
   (go:∀i σ' H',i < n->Pv i σ' H'->J.go i H'/\∀x H2,J.yld i H' x H2->g x σ' H2 (XY tt te D (Pv (i+1)))) (stop:∀σ' H',Pv n σ' H'->J.stop n H'/\Q H'):ZI J g tt te D σ H Q:=by
 refine⟨λi m σ' H'=>m=n - i/\i<=n/\Pv i σ' H',⟨n,by simp,Nat.zero_le _,h0⟩,?_⟩
 rintro i m σ' H' ⟨rfl,hi,p⟩
 by_cases hlt:i < n
 . obtain⟨h1,h2⟩:=go i σ' H' hlt p
   exact .inr ⟨h1,Pv (i+1),λσ2 H2 p2=>⟨n - (i+1),by omega,rfl,hlt,p2⟩,h2⟩
 . have e:i=n:=by omega
   subst e
   exact .inl (stop σ' H' p)
theorem Yw {lo:Int} {n:Nat} (Pv:Nat->St->Hp->Prop) (h0:Pv 0 σ (upd H D (.lst [])))
   (hs:∀i σ' H',i < n->Pv i σ' H'->g (.int (lo+i)) σ' H' (XY tt te D (Pv (i+1)))) (hd:∀σ' H',Pv n σ' H'->Q H'):ZI (u2 lo n) g tt te D σ H Q:=
 Xa (n:=n) Pv h0 (λi σ' H' hi p=>⟨hi,λx H2 y=>by
   obtain⟨e,y⟩:=y
   subst e y
   exact hs i σ' H2 hi p⟩) λσ' H' p=>⟨Nat.le_refl _,hd σ' H' p⟩
theorem Qb {xs:List V} (Pv:Nat->St->Hp->Prop) (h0:Pv 0 σ (upd H D (.lst []))) (hl:∀i σ' H',i<=xs.length->Pv i σ' H'->SqL K H' a xs)
   (hs:∀i x σ' H',xs[i]?=some x->Pv i σ' H'->g x σ' H' (XY tt te D (Pv (i+1)))) (hd:∀σ' H',Pv xs.length σ' H'->Q H'):ZI (xW K a) g tt te D σ H Q:=
 Xa (n:=xs.length) Pv h0 (λi σ' H' hi p=>⟨⟨xs,xs[i],hl i σ' H' (Nat.le_of_lt hi) p,by simp [hi]⟩,λx H2 y=>by
   obtain⟨e,y⟩:=y
   subst e
   exact hs i x σ' _ (y xs (hl i σ' _ (Nat.le_of_lt hi) p)) p⟩) λσ' H' p=>⟨⟨xs,hl _ σ' H' (Nat.le_refl _) p,Nat.le_refl _⟩,hd σ' H' p⟩
theorem Vq {xs:List V} (Pv:Nat->St->Hp->Prop) (h0:Pv 0 σ (upd H D (.lst []))) (hl:∀i σ' H',i<=xs.length->Pv i σ' H'->SqT K H' a xs)
   (hs:∀i x σ' H',xs[i]?=some x->Pv i σ' H'->g x σ' H' (XY tt te D (Pv (i+1)))) (hd:∀σ' H',Pv xs.length σ' H'->Q H'):ZI (u1 K a) g tt te D σ H Q:=
 Xa (n:=xs.length) Pv h0 (λi σ' H' hi p=>⟨⟨xs,xs[i],hl i σ' H' (Nat.le_of_lt hi) p,by simp [hi]⟩,λx H2 y=>by
   obtain⟨e,y⟩:=y
   subst e
   exact hs i x σ' _ (y xs (hl i σ' _ (Nat.le_of_lt hi) p)) p⟩) λσ' H' p=>⟨⟨xs,hl _ σ' H' (Nat.le_refl _) p,Nat.le_refl _⟩,hd σ' H' p⟩
theorem xO {x:Str} (Pv:Nat->St->Hp->Prop) (h0:Pv 0 σ (upd H D (.lst [])))
   (hs:∀i c σ' H',x.cps[i]?=some c->Pv i σ' H'->g (.str ⟨#[c]⟩) σ' H' (XY tt te D (Pv (i+1)))) (hd:∀σ' H',Pv x.cps.size σ' H'->Q H'):ZI (R0 x) g tt te D σ H Q:=
 Xa (n:=x.cps.size) Pv h0 (λi σ' H' hi p=>⟨hi,λv H2 y=>by
   obtain⟨e,c,hc,rfl⟩:=y
   subst e
   exact hs i c σ' _ hc p⟩) λσ' H' p=>⟨rfl,hd σ' H' p⟩
end
section
variable {X:Cx}
theorem zP:∀(bs:List Bool),(List.range bs.length).all (λi=>bs.getD i false)=bs.all id:=by
 intro bs
 induction bs with
 | nil=>rfl
 | cons b bs ih=>
   rw[List.length_cons,List.range_succ_eq_map,List.all_cons,List.all_map,List.all_cons]
   have:((λi=>(b::bs).getD i false) ∘ Nat.succ)=λi=>bs.getD i false:=by
     funext i
     simp [Function.comp]
   rw[this,ih]
   simp
theorem QL (hc:X.calm=true):jn X (.builtin "all") (λxs H Q=>∃(p:Addr) (bs:List Bool),xs=[.ref p]/\SqL X.K H p (bs.map V.bl)/\Q (.bl (bs.all id)) H):=by
 intro pins s σ H xs us Q I r h
 obtain⟨p,bs,rfl,hq,q⟩:=h
 obtain⟨u,rfl,rx⟩:=jW r
 cases rx
 obtain⟨its,rv,pl,hz⟩:=I.list hq
 have hlt:p < s.heap.objs.size:=by
   obtain⟨o,n,e,_⟩:=pl
   exact Heap.lt_size e
 have hn:its.toArray.size=bs.length:=by
   have:=rv.length
   rw[List.length_map]at this
   simp only[List.size_toArray]
   omega
 have hh:X.A.in1.handled=none:=I.ok.hd hc
 refine call_all_walk (wpAny_pyIter_list pl.isList ?_)
 refine⟨s.heap.objs.size,[s.heap.objs.size,p],[s.heap.objs.size],its.toArray.size,λi v=>its.toArray[i]?=some v,_,λi=>bs.getD i false,rfl,Walks.list hh s.heap.objs.size p (Nat.ne_of_lt hlt) its.toArray,
   ⟨⟨_,Heap.get?_push_size _ rfl,rfl,rfl⟩,pl.isList.at λo e=>Heap.get?_push_of_some _ e⟩,?_,λh' tk hk=>?_⟩
 . intro i v s' Q' E' hP hQ
   have hi:its[i]?=some v:=by simpa using hP
   have hb:∃b,bs[i]?=some b/\v=Value.bool b:=by
     cases e:bs[i]? with
     | none=>
       exfalso
       have h1:(bs.map V.bl)[i]?=none:=by rw[List.getElem?_map,e];rfl
       rw[qL.none_of rv h1]at hi
       cases hi
     | some b=>
       have h1:(bs.map V.bl)[i]?=some (V.bl b):=by rw[List.getElem?_map,e];rfl
       obtain⟨u,hu,ru⟩:=rv.get h1
       rw[hi]at hu
       cases hu
       exact⟨b,rfl,ru⟩
   obtain⟨b,e,rfl⟩:=hb
   refine wpAny_truthy_bool ?_
   have e2:bs.getD i false=b:=by rw[List.getD_eq_getElem?_getD,e];rfl
   have hQ':Q' (bs.getD i false) s':=hQ
   rw[e2]at hQ'
   exact hQ'
 . rw[hn,zP]
   refine⟨.bl (bs.all id),H,?_,rfl,q⟩
   exact I.kept (h':=h') (t':=tk) λb o e=>hk b o (by
     intro z
     have z':b=s.heap.objs.size:=by simpa using z
     exact absurd (Heap.lt_size e) (by rw[z'];exact Nat.lt_irrefl _)) (Heap.get?_push_of_some _ e)
theorem X9 {ys:List Str}:∀{us:List Value},qL (ys.map V.str) us->StrsAre us ys:=by
 induction ys with
 | nil=>
   intro us r
   rw[List.map_nil]at r
   cases r
   exact .nil
 | cons y ys ih=>
   intro us r
   rw[List.map_cons]at r
   cases r with
   | cons a b=>
     obtain⟨t,rfl⟩:=a
     exact .cons _ _ (ih b)
def KE (K:PySem.W.Frag):V->List V->Hp->VK->Prop:=λx xs H Q=>∃(sep:Str) (p:Addr) (ys:List Str),x=.str sep/\xs=[.ref p]/\SqL K H p (ys.map V.str)/\(ys.map (·.length)).sum+ys.length*sep.length<=16777216/\Q (.str (Txt.join sep ys)) H
theorem xi:G7 X "str.join" (KE X.K):=by
 intro pins s σ H x xs v us Q I rx rv h
 obtain⟨sep,p,ys,rfl,rfl,hq,hz,q⟩:=h
 obtain⟨t,rfl⟩:=rx
 obtain⟨u,rfl,ru⟩:=jW rv
 cases ru
 obtain⟨its,r',pl,_⟩:=I.list hq
 exact join_list pl.isList (by simpa using X9 r') hz λt' k=>⟨.str _,H,I.tok k,⟨t',rfl⟩,q⟩
def Gm:V->Value
 | .ty n=>.type n
 | .ref a=>.ref a
 | _=>.none
def K5:V->Bool
 | .ty _=>true
 | .ref _=>true
 | _=>false
def KF (K:PySem.W.Frag):List V->Hp->VK->Prop:=λxs H Q=>∃x c t b,xs=[x,c]/\K5 c=true/\Zx K H x t/\PySem.W.kitOne K t (Gm c)=some b/\Q (.bl b) H
theorem QA:jn X (.builtin "isinstance") (KF X.K):=by
 intro pins s σ H xs us Q I r h
 obtain⟨x,c,t,b,rfl,hc,ty,e,q⟩:=h
 obtain⟨u,w',rfl,ru,rw'⟩:=zZ r
 have ew:w'=Gm c:=by
   cases c with
   | ty n=>exact rw'
   | ref a=>exact rw'
   | _=>cases hc
 subst ew
 exact QJ I ru ty e λtk=>⟨.bl b,H,I.tok tk,rfl,q⟩
end
end L2
namespace L2
open PySem PySem.Spec PyProof.Rows
end L2
set_option Elab.async false
set_option linter.all false
set_option maxRecDepth 100000
set_option maxHeartbeats 4000000
namespace L2
open PySem PySem.Spec PyProof.Rows
section
variable {prog:Program} {w:World} {A:Around} {E:Value->Shared->Prop} {h:Heap} {g:Array GenState} {d:Drawn} {t:Nat} {os:OsState}
variable {nm q:Str} {C N fI:Addr} {bs bm bmB bmN:List Value} {hdct:Bool} {sn:List Str} {sub:List Value} {ab:Bool} {col:Option Bool} {dd:Option Addr} {k0 k1 k2 k3 k5:Option Value} {B Bn newId nid initId inN:String} {rest:List Value} {oI:Obj}
end
end L2
namespace L2
open PySem PySem.W PyProof.Rows Builtin Builtin.ObjectAttr
structure ECls (K:Frag) (C:Addr) (bm:List Value):Prop where
 ga:findIn K (.ref C) "__getattribute__"=some (some (.builtin "BaseException.__getattribute__"))
 gt:findIn K (.ref C) "__getattr__"=some none
 sa:findIn K (.ref C) "__setattr__"=some (some (.builtin "object.__setattr__"))
 hd:hasDictIn K C=true
 mr:∃cd,clsIn K C=some cd/\cd.mro=.ref C::bm
 mb:mroIn K C (.type "BaseException")=some true
 mo:mroIn K C (.type "object")=some true
 cl:findIn K (.ref C) "__class__"=some (some (.builtin "object.__class__"))
section
variable {prog:Program} {w:World} {A:Around} {E:Value->Shared->Prop} {s:Shared} {K:Frag} {x C:Addr} {ox:Obj} {od:Option Obj} {bm:List Value} {name:Str} {v:Value}
end
end L2
namespace L2
open PySem PySem.W PyProof.Rows Builtin Builtin.ObjectAttr
section
variable {K:Frag} {x C:Addr} {ox odd:Obj} {bm:List Value}
end
end L2
set_option Elab.async false
set_option linter.all false
set_option maxRecDepth 100000
set_option maxHeartbeats 4000000
namespace L2
open PySem PySem.Spec PyProof.Rows
def K1:List Value:=[.type "ValueError",.type "Exception",.type "BaseException",.type "object"]
structure EMk (K:PySem.W.Frag) (C f:Addr) (bm:List Value):Prop where
 obj:∃nm q N bs hdct sn sub ab col dd k0 k1 k2 k3 k5,K.lookup C=some (excClassObj nm q C N bs bm hdct sn sub ab col dd k0 k1 k2 k3 k5 "ValueError.__new__")
 tail:∀h:Heap,K.In h->OwnTail h K1 bm
 init:PySem.W.findIn K (.ref C) "__init__"=some (some (.ref f))
 fn:PySem.W.isFn K (.ref f)=true
 kp:PySem.W.keepIn K (.ref C)=true
section
variable {P:Program} {w:World} {H:Hp} {h h':Heap} {e C dx:Addr}
end
section
variable {X:Cx} {pins:List (Addr×Obj)} {σ:St} {H:Hp} {s:Shared} {e C dx:Addr} {f:Str} {bm:List Value} {y v:V} {u:Value} {A:Around} {E:Value->Shared->Prop}
end
end L2
namespace L2
open PySem PySem.Spec PyProof.Rows
section
variable {X:Cx} {CX:Xg} {k:Nat} {C fI:Addr} {fd:FuncData} {ps:List Str} {sp:Sp} {E:XK} {x f:Str} {o e value:Expr} {es:List Expr} {p pos pos':Pos} {ta tv:TE} {t:TA} {bm:List Value}
end
end L2
set_option Elab.async false
set_option linter.all false
set_option maxRecDepth 100000
set_option maxHeartbeats 4000000
namespace L2
open PySem PySem.Spec PyProof.Rows
def neL (xs ys:List V):Bool:=if xs.length=ys.length then !((List.range xs.length).all λj=>kJ (xs.getD j .non) (ys.getD j .non)) else true
def Ru (K:PySem.W.Frag):R2:=λx y H Q=>∃a b xs ys,x=.ref a/\y=.ref b/\SqL K H a xs/\SqL K H b ys/\xs.all Q4=true/\ys.all Q4=true/\Q (.bl (neL xs ys)) H
theorem uj {X:Cx} (hu:X.A.units < cLine):QM X (compareOp .NotEq) (Ru X.K):=by
 intro pins s σ H x y v u Q I rx ry h
 obtain⟨a,b,xs,ys,rfl,rfl,ha,hb,fx,fy,q⟩:=h
 cases rx
 cases ry
 obtain⟨its,rv,pl,_⟩:=I.list ha
 obtain⟨its2,rv2,pl2,_⟩:=I.list hb
 have l1:=rv.length
 have l2:=rv2.length
 by_cases hz:xs.length=ys.length
 . have e:neL xs ys= !((List.range its.toArray.size).all λj=>kJ (xs.getD j .non) (ys.getD j .non)):=by
     unfold neL
     rw[if_pos hz,l1]
     simp
   rw[e]at q
   refine EqBoolInt.of_rcne (SeqAt.RcNeAt.lists (e:=λj=>kJ (xs.getD j .non) (ys.getD j .non)) pl.isList pl2.isList (by simp;omega) hu λj h1 h2=>?_) ⟨.bl _,H,I,rfl,q⟩
   have j1:j < xs.length:=by simp at h1;omega
   have j2:j < ys.length:=by omega
   obtain⟨w1,hw1,r1⟩:=rv.get (List.getElem?_eq_getElem j1)
   obtain⟨w2,hw2,r2⟩:=rv2.get (List.getElem?_eq_getElem j2)
   have e1:xs.getD j .non=xs[j]:=by rw[List.getD_eq_getElem?_getD,List.getElem?_eq_getElem j1];rfl
   have e2:ys.getD j .non=ys[j]:=by rw[List.getD_eq_getElem?_getD,List.getElem?_eq_getElem j2];rfl
   have g1:its.toArray[j]=w1:=by
     have:its.toArray[j]?=some w1:=by simpa using hw1
     rw[Array.getElem?_eq_getElem h1]at this
     exact Option.some.inj this
   have g2:its2.toArray[j]=w2:=by
     have:its2.toArray[j]?=some w2:=by simpa using hw2
     rw[Array.getElem?_eq_getElem h2]at this
     exact Option.some.inj this
   rw[e1,e2,g1,g2]
   exact kL r1 r2 (List.all_eq_true.mp fx _ (List.getElem_mem j1)) (List.all_eq_true.mp fy _ (List.getElem_mem j2))
 . have e:neL xs ys=true:=by unfold neL;rw[if_neg hz]
   rw[e]at q
   exact EqBoolInt.of_rcne (SeqAt.RcNeAt.lists_lengths pl.isList pl2.isList (by simp;omega) hu) ⟨.bl true,H,I,rfl,q⟩
mutual
inductive DV (K:PySem.W.Frag) (H:Hp):V->PyData->Prop
 | non:DV K H .non .none
 | bl (b:Bool):DV K H (.bl b) (.bool b)
 | int (i:Int):DV K H (.int i) (.int i)
 | str (x:Str):DV K H (.str x) (.str x)
 | lst {a:Addr} {xs:List V} {ds:List PyData}:SqL K H a xs->DVs K H xs ds->DV K H (.ref a) (.list ds)
 | tup {a:Addr} {xs:List V} {ds:List PyData}:SqT K H a xs->DVs K H xs ds->DV K H (.ref a) (.tuple ds)
inductive DVs (K:PySem.W.Frag) (H:Hp):List V->List PyData->Prop
 | nil:DVs K H [] []
 | cons {x:V} {xs:List V} {d:PyData} {ds:List PyData}:DV K H x d->DVs K H xs ds->DVs K H (x::xs) (d::ds)
end
section
variable {X:Cx} {pins:List (Addr×Obj)} {σ:St} {H:Hp} {s:Shared}
mutual
theorem DV.reads (I:qy X pins σ H s):∀{x:V} {d:PyData},DV X.K H x d->∀{u:Value},qN x u->∃as,Reads s.heap u d as
 | _,_,.non,u,r=>by cases (show u=Value.none from r);exact⟨_,.none⟩
 | _,_,.bl b,u,r=>by cases (show u=Value.bool b from r);exact⟨_,.bool b⟩
 | _,_,.int i,u,r=>by obtain⟨t,q⟩:=(show ∃t,u=Value.int i t from r);subst q;exact⟨_,.int i t⟩
 | _,_,.str x,u,r=>by obtain⟨t,q⟩:=(show ∃t,u=Value.str x t from r);subst q;exact⟨_,.str x t⟩
 | _,_,.lst (a:=a) hq hs,u,r=>by
   cases (show u=Value.ref a from r)
   obtain⟨its,rv,⟨o,n,e,hc,hd,hda⟩,hz⟩:=I.list hq
   obtain⟨as,ra⟩:=DVs.reads I hs rv
   exact⟨_,.list e hc hda (by simpa using ra)⟩
 | _,_,.tup (a:=a) hq hs,u,r=>by
   cases (show u=Value.ref a from r)
   obtain⟨its,rv,⟨o,e,hc,n,hda⟩,hz⟩:=I.tuple hq
   obtain⟨as,ra⟩:=DVs.reads I hs rv
   exact⟨_,.tuple e hc hda (by simpa using ra)⟩
theorem DVs.reads (I:qy X pins σ H s):∀{xs:List V} {ds:List PyData},DVs X.K H xs ds->∀{us:List Value},qL xs us->∃as,ReadsAll s.heap us ds as
 | _,_,.nil,_,.nil=>⟨_,.nil⟩
 | _,_,.cons h hs,_,.cons r rs=>by
   obtain⟨as,a⟩:=DV.reads I h r
   obtain⟨bs,b⟩:=DVs.reads I hs rs
   exact⟨_,.cons a b⟩
end
end
end L2
namespace L2
open PySem PySem.Spec PyProof.Rows
end L2
set_option Elab.async false
set_option linter.all false
set_option maxRecDepth 100000
set_option maxHeartbeats 4000000
namespace L2
open PySem PySem.Spec PyProof.Rows
section
variable {X:Cx}
theorem Wv {d:PyData} (h:PySem.SeqAt.shaped d=true):PyData.eqv d d=true:=PySem.SeqAt.eqv_refl d (PySem.SeqAt.canLay_of_shaped h)
def GB (i j:Int):Prop:=0 < j/\j.natAbs < 2^200
theorem vv:QM X (binaryOp .FloorDiv) (rI GB λi j=>.int (i / j)):=KQ λi j _ _ _ _ _ hc q=>by
 have h1:(0:Int) < j:=hc.1
 have h3:j.natAbs.log2 < 200:=(Nat.log2_lt (by omega)).mpr hc.2
 exact floordiv_int (by omega) (by rw[Int.fdiv_eq_ediv_of_nonneg i (by omega)];exact q) (.inl (PyProof.noPylong_of_log2 (Nat.lt_trans h3 (by decide))))
end
section
variable {X:Cx} {tg:Expr}
end
section
variable {X:Cx} {st:Stmt} {rest:List Stmt} {t u:TS}
def Rb (t u:TS):TS:=λD σ H=>∃W:St->Hp->Prop,t {D with nx:=W} σ H/\∀σ' H',W σ' H'->u D σ' H'
theorem xq (h1:JS X st t) (h2:Xf X rest u):Xf X (st::rest) (Rb t u):=.of (by
 have h1:=h1.to
 have h2:=h2.to
 intro pins s σ H D I ⟨W,h,k⟩
 refine wpAny_execs_cons (ja (h1 pins s σ H {D with nx:=W} I h) λf s1 q=>?_)
 cases f with
 | next=>
   obtain⟨σ',H',I',q⟩:=q
   exact h2 pins s1 σ' H' D I' (k σ' H' q)
 | ret v=>exact q
 | brk=>exact q
 | cont=>exact q)
end
end L2
set_option Elab.async false
set_option linter.all false
set_option maxRecDepth 100000
set_option maxHeartbeats 4000000
namespace PySem
section
variable {prog:Program} {w:World} {A:Around} {E:Value->Shared->Prop} {s:Shared}
def za (x n c:Int):Obj:={cls:=.type "range_iterator",data:=.fields #[rawInt x,rawInt n,rawInt c]}
theorem W4 (n:Nat):Builtin.Range.rangeSize 0 n 1=n:=by
 unfold Builtin.Range.rangeSize
 rw[if_pos (by decide)]
 split<;>omega
theorem zM {r:Addr} {a b c:Int} {t u v:Tok} {Q:Value->Shared->Prop} (hr:IsRange s.heap r a b c t u v)
   (hs:(Builtin.Range.rangeFitsLong a&&Builtin.Range.rangeFitsLong b&&Builtin.Range.rangeFitsLong c&&Builtin.Range.rangeFitsLong (-c)&&Builtin.Range.rangeFitsLong (a - c)&&Builtin.Range.rangeFitsLong (Builtin.Range.rangeSize a b c))=true)
   (h:Q (.ref s.heap.objs.size) {s with heap:=s.heap.push (za (a+(Builtin.Range.rangeSize a b c - 1)*c) (Builtin.Range.rangeSize a b c) (-c))}):wpAny (model prog w) A (call (.builtin "range.__reversed__") [.ref r]) Q E s:=by
 have ty:s.TypeIs (.ref r) "range":=⟨_,hr,rfl⟩
 refine wpAny_call_entry F.slot_range_reversed ty F.entry_range_reversed ?_ (F.args_range_reversed_1 _)
 unfold Builtin.«range.__reversed__»
 refine wpAny_bind (wpAny_of_eq (a:=Value.ref r) rfl ?_)
 refine wpAny_bind ?_
 unfold Builtin.Range.rangeFields
 refine wpAny_bind (wpAny_field hr rfl (x:=.int a t) rfl ?_)
 refine wpAny_bind (m:=asInt? (.int a t)) (wpAny_pure ?_)
 refine wpAny_bind (wpAny_field hr rfl (x:=.int b u) rfl ?_)
 refine wpAny_bind (m:=asInt? (.int b u)) (wpAny_pure ?_)
 refine wpAny_bind (wpAny_field hr rfl (x:=.int c v) rfl ?_)
 refine wpAny_bind (m:=asInt? (.int c v)) (wpAny_pure ?_)
 refine wpAny_pure ?_
 dsimp only
 rw[hs]
 simp only[Bool.not_true,Bool.false_eq_true,if_false,if_true]
 first
 | refine wpAny_bind (wpAny_newObj_type (wpAny_pure ⟨_,rfl,h⟩))
 | refine wpAny_bind (wpAny_pure (wpAny_bind (wpAny_newObj_type (wpAny_pure ⟨_,rfl,h⟩))))
theorem Jw {r:Addr} {n:Nat} {t u v:Tok} {Q:Value->Shared->Prop} (hr:IsRange s.heap r 0 n 1 t u v) (hn:n < 1048576)
   (h:Q (.ref s.heap.objs.size) {s with heap:=s.heap.push (za ((n:Int) - 1) n (-1))}):wpAny (model prog w) A (call (.builtin "range.__reversed__") [.ref r]) Q E s:=by
 have f:∀x:Int,-2000000<=x->x<=2000000->Builtin.Range.rangeFitsLong x=true:=λx p q=>by
   unfold Builtin.Range.rangeFitsLong
   simp
   omega
 have e:=W4 n
 have hs:(Builtin.Range.rangeFitsLong 0&&Builtin.Range.rangeFitsLong (n:Int)&&Builtin.Range.rangeFitsLong 1&&Builtin.Range.rangeFitsLong (-1)&&Builtin.Range.rangeFitsLong (0 - 1)&&Builtin.Range.rangeFitsLong (Builtin.Range.rangeSize 0 n 1))=true:=by
   rw[e,f 0 (by omega) (by omega),f n (by omega) (by omega),f 1 (by omega) (by omega),f (-1) (by omega) (by omega),f (0 - 1) (by omega) (by omega)]
   rfl
 refine zM hr hs ?_
 have e2:(0:Int)+(Builtin.Range.rangeSize 0 n 1 - 1)*1=(n:Int) - 1:=by rw[e];omega
 rw[e2,e]
 exact h
end
end PySem
namespace PySem
section
variable {prog:Program} {w:World} {A:Around} {E:Value->Shared->Prop} {s:Shared}
theorem JM {r:Addr} {n:Nat} {t u v:Tok} {Q₁:Value->Shared->Prop} (hr:IsRange s.heap r 0 n 1 t u v) (hn:n < 1048576)
   (h:Q₁ (.ref s.heap.objs.size) {s with heap:=s.heap.push (za ((n:Int) - 1) n (-1))}):
   codeAny (model prog w) A (.call (.builtin "reversed.__new__") ⟨[.type "reversed",.ref r],[]⟩) (wants Q₁ E) s:=by
 have ty:s.TypeIs (.ref r) "range":=⟨_,hr,rfl⟩
 have nn:¬((Value.builtin "range.__reversed__"==Value.none)=true):=Bool.false_ne_true
 refine codeAny_of_tree (show wpAny _ A.in1 (checkBuiltinCall "reversed.__new__" ⟨[.type "reversed",.ref r],[]⟩ >>= λ_=>again (.builtin "reversed.__new__" ⟨[.type "reversed",.ref r],[]⟩)) _ _ s from
   wpAny_bind (wpAny_of_eq (F.newCall_reversed_1 (.ref r)) (wpAny_pure ⟨plainId_quiet F.plain_reversed_new _,codeAny_builtin F.entry_reversed_new ?_⟩)))
 rw[Around.under_plainId F.plain_reversed_new _];unfold Builtin.«reversed.__new__»
 refine wpAny_bind (wpAny_of_eq (newClass_reversed (.ref r)) ?_);dsimp only
 refine wpAny_bind (wpAny_of_eq (a:=()) (by kernel_rfl) (wpAny_bind (wpAny_of_eq (a:=()) (by kernel_rfl) ?_)));try dsimp only
 refine wpAny_bind (wpAny_specialOf ty F.slot_range_reversed.lookup ?_);dsimp only
 refine wpAny_bind (wpAny_of_eq (F.slot_range_reversed.bind _) ?_);dsimp only
 rw[if_neg nn]
 refine wpAny_bind (wpAny_rule (wpAny_bind (m:=runValue (.call (.builtin "range.__reversed__") ⟨[.ref r],[]⟩)) (show wpAny _ _ (call (.builtin "range.__reversed__") [.ref r]) _ _ _ from Jw hr hn ?_)))
 first | exact wpAny_pure h | exact wpAny_bind (wpAny_pure (wpAny_pure h))
theorem ZJ:isSubtype (.type "range_iterator") (.type "reversed")=pure false:=by rw[isSubtype_type];kernel_rfl
theorem Jv {r:Addr} {n:Nat} {t u v:Tok} {Q:Value->Shared->Prop} (hr:IsRange s.heap r 0 n 1 t u v) (hn:n < 1048576)
   (h:Q (.ref s.heap.objs.size) {s with heap:=s.heap.push (za ((n:Int) - 1) n (-1))}):wpAny (model prog w) A (call (.type "reversed") [.ref r]) Q E s:=by
 refine callType_other (U:="range_iterator") (Q₁:=λobj s₁=>obj=.ref s.heap.objs.size/\s₁={s with heap:=s.heap.push (za ((n:Int) - 1) n (-1))}) (by decide+kernel) F.create_reversed ⟨_,_,F.mro_reversed⟩ F.made_reversed ZJ (F.typeCall_reversed_1 _) (JM hr hn ⟨rfl,rfl⟩) ?_
 rintro obj s₁ ⟨rfl,rfl⟩
 exact⟨⟨_,Heap.get?_push_size _ rfl,rfl⟩,h⟩
theorem Y9 {I:Addr} {x left c:Int} {Q:Value->Shared->Prop} (hit:IsRangeIter s.heap I x left c) (h:Q (.int left s.toks) {s with toks:=s.toks+1}):
   wpAny (model prog w) A (call (.builtin "range_iterator.__length_hint__") [.ref I]) Q E s:=by
 have hT:s.TypeIs (.ref I) "range_iterator":=⟨_,hit,rfl⟩
 refine wpAny_call_entry F.slot_range_iterator_length_hint hT F.entry_range_iterator_length_hint ?_ (F.args_range_iterator_length_hint_1 _)
 unfold Builtin.«range_iterator.__length_hint__»
 refine wpAny_bind (wpAny_of_eq (a:=Value.ref I) rfl ?_)
 refine wpAny_bind (wpAny_field hit rfl (x:=rawInt left) rfl ?_)
 show wpAny _ _ (do ret (<-mkInt left)) _ _ _
 exact wpAny_ret_mkInt h
structure WB (P:Program) (w:World) (T:String) (I:Addr) (fp:List Addr) (n:Nat) (V:Nat->Value->Prop) (St:Nat->Heap->Prop):Prop where
 ty:∀z:Shared,St 0 z.heap->z.TypeIs (.ref I) T
 nl:(Value.type T==Value.type "list")=false
 nt:(Value.type T==Value.type "tuple")=false
 walk:∀B:Around,B.handled=none->Walks P w B I fp [I] n V St
 hint:∀(B:Around) (F:Value->Shared->Prop) (z:Shared) (R:Bool->Shared->Prop),St 0 z.heap->(∀k,R false {z with toks:=k})->wpAny (model P w) B (Builtin.List.listLengthHint (.ref I)) R F z
theorem WB.list {P:Program} {T:String} {I:Addr} {fp:List Addr} {n:Nat} {V:Nat->Value->Prop} {St:Nat->Heap->Prop} (J:WB P w T I fp n V St) {B:Around} {F':Value->Shared->Prop} {z:Shared} {R:Value->Shared->Prop}
   (hB:B.handled=none) (st:St 0 z.heap) (mem:I∈fp) (old:∀b∈fp,b < z.heap.objs.size) (hn:n<=1048576)
   (k:∀g tk xs c,(∀b o,b≠I->z.heap.get? b=some o->g.get? b=some o)->g.get? z.heap.objs.size=some (⟨.type "list",none,.seq xs c,#[]⟩:Obj)->ItemsOf V xs n->R (.ref z.heap.objs.size) {z with heap:=g,toks:=tk}):
   wpAny (model P w) B (call (.type "list") [.ref I]) R F' z:=by
 have nI:∀b∈fp,z.heap.objs.size≠b:=λb hb=>Nat.ne_of_gt (old b hb)
 have sI:Builtin.List.listSameRef (.ref z.heap.objs.size) (.ref I)=false:=by unfold Builtin.List.listSameRef;simp [nI I mem]
 refine callType_codes (Q₁:=λob z1=>z1={z with heap:=z.heap.push {cls:=.type "list",data:=.seq #[]}}/\ob=.ref z.heap.objs.size) F.called_list (F.typeCall_list_1 _) F.entry_list_init (code_list_new _ ⟨rfl,rfl⟩) ?_
 rintro ob z1 ⟨rfl,rfl⟩
 have a0:=Heap.get?_push_size z.heap (o:=({cls:=.type "list",data:=.seq #[]}:Obj)) rfl
 refine⟨⟨_,a0,rfl⟩,F.args_list_init_2 _ _,?_⟩
 show wpAny _ _ (Builtin.List.listItems (.ref _) >>= λys=>Builtin.List.listUpdate (.ref _) (λ_=>#[]) >>= λ_=>letGo ys.toList.reverse >>= λ_=>Builtin.List.listExtendWith (.ref _) (.ref I) .none) _ _ _
 refine wpAny_bind (show wpAny _ _ (Builtin.List.listItems (.ref _)) _ _ _ from ?_)
 unfold Builtin.List.listItems
 refine wpAny_bind (wpAny_seqItems a0 rfl (wpAny_pure (wpAny_bind ?_)))
 refine wpAny_updateSeq a0 rfl (wpAny_bind (wpAny_letGo ?_))
 have a1:=Heap.get?_update_self (Obj.mapSeq (λ_=>(#[]:Array Value))) a0 rfl
 have keep1:∀b o,z.heap.get? b=some o->((z.heap.push {cls:=.type "list",data:=.seq #[]}).update z.heap.objs.size (Obj.mapSeq (λ_=>(#[]:Array Value)))).get? b=some o:=λb o e=>
   (Heap.get?_update_other _ _ (Nat.ne_of_gt (Heap.lt_size e))).trans (Heap.get?_push_of_some _ e)
 generalize hg1:(z.heap.push {cls:=.type "list",data:=.seq #[]}).update z.heap.objs.size (Obj.mapSeq (λ_=>(#[]:Array Value)))=g1 at a1 keep1
 have st1:St 0 g1:=(J.walk B hB).frame 0 _ _ st λb _ o e=>keep1 b o e
 unfold Builtin.List.listExtendWith
 refine wpAny_bind (wpAny_typeOf (J.ty {z with heap:=g1} st1) ?_)
 simp only[sI,J.nl,J.nt,Bool.or_false,Bool.false_eq_true,if_false]
 refine wpAny_bind ((J.walk B.in1.in1 hB).self 0 {z with heap:=g1} _ _ st1 ?_)
 refine wpAny_bind (wpAny_holding (J.hint B.in1.in1 _ {z with heap:=g1} _ st1 λtk=>?_))
 have run:∀(g:Heap) (c tk:Nat),St 0 g->(∀b o,z.heap.get? b=some o->g.get? b=some o)->g.get? z.heap.objs.size=some {cls:=.type "list",data:=.seq #[] c}->
     codeAny (model P w) B.in1 (.builtin "list.extend.loop" ⟨[.ref z.heap.objs.size,.ref I,.none],[]⟩) (wants (λr z2=>r=.none/\R (.ref z.heap.objs.size) z2) F') {z with heap:=g,toks:=tk}:=λg c tk sg kg ag=>
   codeAny_extend_loopS (J.walk B.in1.in1 hB).toS (by rw[sizeLine_eq];omega) _ (λq=>nI _ q rfl) .none n 0 _ #[] c rfl (Nat.zero_le _) sg ag (ItemsOf.nil _) λz3 xs c3 mv a3 it=>by
     rw[Moved.eq_with mv]
     refine⟨rfl,k z3.heap z3.toks xs c3 (λb o hb e=>mv.heap b o (λq=>?_) (kg b o e)) a3 it⟩
     rcases List.mem_cons.mp q with q | q
     . exact absurd q (Nat.ne_of_lt (Heap.lt_size e))
     . exact hb (List.mem_singleton.mp q)
 refine wpAny_ite_split (λ_=>?_) (λ_=>wpAny_pure ⟨plainId_quiet F.plain_extend_loop _,run g1 _ tk st1 keep1 a1⟩)
 refine wpAny_bind (wpAny_rule (wpAny_bind (show wpAny _ _ (updateSeq z.heap.objs.size (·.push .none) >>= λ_=>updateSeq z.heap.objs.size (·.pop)) _ _ _ from wpAny_bind (wpAny_updateSeq a1 rfl ?_))))
 have a2:=Heap.get?_update_self (Obj.mapSeq (·.push Value.none)) a1 rfl
 refine wpAny_updateSeq (hz:=by seq_fits) a2 rfl ?_
 have keep3:∀b o,b≠z.heap.objs.size->g1.get? b=some o->((g1.update z.heap.objs.size (Obj.mapSeq (·.push Value.none))).update z.heap.objs.size (Obj.mapSeq (·.pop))).get? b=some o:=λb o hb e=>
   (Heap.get?_update_other _ _ (Ne.symm hb)).trans ((Heap.get?_update_other _ _ (Ne.symm hb)).trans e)
 exact wpAny_pure ⟨plainId_quiet F.plain_extend_loop _,run _ _ tk ((J.walk B hB).frame 0 _ _ st1 λb hb o e=>keep3 b o (λq=>nI b hb q.symm) e) (λb o e=>keep3 b o (Nat.ne_of_lt (Heap.lt_size e)) (keep1 b o e)) (Heap.get?_update_self (Obj.mapSeq (·.pop)) a2 rfl)⟩
theorem VD {P:Program} {I:Addr} {x c:Int} {n:Nat} (hn:n<=1048576):WB P w "range_iterator" I [I] n (λi v=>∃t,v=.int (x+i*c) t) (λi h=>IsRangeIter h I (x+(i:Nat)*c) ((n:Int) - (i:Nat)) c) where
 ty:=λ_ st=>⟨_,st,rfl⟩
 nl:=by decide
 nt:=by decide
 walk:=λ_ hB=>Walks.range hB I x c n
 hint:=λB G z R st k=>by
   have st':IsRangeIter z.heap I x n c:=by
     have e1:x+((0:Nat):Int)*c=x:=by simp
     have e2:(n:Int) - ((0:Nat):Int)=n:=by simp
     rw[<-e1,<-e2]
     exact st
   have ty:z.TypeIs (.ref I) "range_iterator":=⟨_,st',rfl⟩
   have few:Builtin.List.listTooLong ((n:Int).toNat)=false:=by unfold Builtin.List.listTooLong;rw[Int.toNat_natCast];exact decide_eq_false (by rw[sizeLine_eq];omega)
   unfold Builtin.List.listLengthHint
   refine wpAny_bind (wpAny_specialOf ty F.nolen_ra ?_)
   refine(show wpAny _ B (specialOf (.ref I) (Str.ofString "__length_hint__") >>= _) _ _ _ from wpAny_bind (wpAny_specialOf ty F.hint_ra ?_))
   (generalize hq:("range_iterator.__length_hint__":String)=q0;(fail_if_success (clear hq q0));wp_delta;rw[show splitId q0=some ("range_iterator","__length_hint__") from by subst hq;decide+kernel];subst hq)
   refine wpAny_bind (wpAny_isInstance (b:=true) ty (by rw[isSubtype_type];kernel_rfl) ?_)
   refine(show wpAny _ B (call (.builtin "range_iterator.__length_hint__") [.ref I] >>= _) _ _ _ from wpAny_bind (Y9 st' (wpAny_bind (m:=asInt? (.int (n:Int) _)) (wpAny_pure ?_))))
   dsimp only
   rw[if_neg (by rw[few];decide)]
   exact wpAny_pure (k _)
end
end PySem
namespace L2
open PySem PySem.Spec PyProof.Rows
def Ze (n:Nat):List Nat:=(List.range n).reverse
theorem Vw {n:Nat} {acc:Array Value} (h:ItemsOf (λi v=>∃t,v=.int ((n:Int) - 1+i*(-1)) t) acc n):qL ((Ze n).map λi=>V.int (i:Nat)) acc.toList:=by
 obtain⟨hz,hv⟩:=h
 have key:∀(xs:List V) (us:List Value),xs.length=us.length->(∀(i:Nat) (x:V) (u:Value),xs[i]?=some x->us[i]?=some u->qN x u)->qL xs us:=by
   intro xs
   induction xs with
   | nil=>intro us hl _;cases us with | nil=>exact .nil | cons _ _=>cases hl
   | cons x xs ih=>
     intro us hl hp
     cases us with
     | nil=>cases hl
     | cons u us=>exact .cons (hp 0 x u rfl rfl) (ih us (by simpa using hl) λi y w h1 h2=>hp (i+1) y w (by simpa using h1) (by simpa using h2))
 refine key _ _ (by simp [Ze,hz]) λi x u h1 h2=>?_
 have h2':acc[i]?=some u:=by simpa using h2
 obtain⟨t,rfl⟩:=hv i u h2'
 have hi:i < n:=by
   have:=(Array.getElem?_eq_some_iff.mp h2').1
   omega
 rw[List.getElem?_map,Ze,List.getElem?_reverse (by simpa using hi),List.length_range,List.getElem?_range (by omega)]at h1
 simp at h1
 subst h1
 refine⟨t,?_⟩
 congr 1
 omega
section
variable {X:Cx} {e:Expr} {te:TE} {p1 p2 p3 pos1 pos2 pos3:Pos}
theorem Wa {M:Model} {A:Around} {E:Value->Shared->Prop} {s:Shared} {env:Env} {e:Expr} {pos:Pos} {R:List Value->Shared->Prop} (hs:starEach [e] env=[(false,eval e env)]) (h:wpAny M A (eval e env) (λv s1=>R [v] s1) E s):
   wpAny M A (spliced (backTo pos (starEach [e] env))) R E s:=by
 rw[hs]
 show wpAny _ _ (spliced ((false,eval e env)::backTo pos [])) _ _ s
 exact Calls.spliced_cons (ja h λu s1 h1=>Calls.spliced_nil h1)
def Rc (te:TE):TE:=λσ H Q=>te σ H λx H1=>∃n:Nat,x=.int n/\n<=1000/\∀l,H1 l=none->Q (.ref l) (upd H1 l (.lst ((Ze n).map λi=>V.int (i:Nat))))
theorem uM (hc:X.calm=true) (g1:Gl X "list") (m1:X.mg "list"=none) (g2:Gl X "reversed") (m2:X.mg "reversed"=none) (g3:Gl X "range") (m3:X.mg "range"=none) (ha:JE X e te) (hs:starEach [e] X.env=[(false,eval e X.env)]:=by rfl) (hs2:starEach [.Call (.Name "range" p3) [e] [] pos3] X.env=[(false,eval (.Call (.Name "range" p3) [e] [] pos3) X.env)]:=by rfl) (hs3:starEach [.Call (.Name "reversed" p2) [.Call (.Name "range" p3) [e] [] pos3] [] pos2] X.env=[(false,eval (.Call (.Name "reversed" p2) [.Call (.Name "range" p3) [e] [] pos3] [] pos2) X.env)]:=by rfl):JE X (.Call (.Name "list" p1) [.Call (.Name "reversed" p2) [.Call (.Name "range" p3) [e] [] pos3] [] pos2] [] pos1) (Rc te):=.of (by
 have ha:=ha.to
 intro pins s σ H Q I h
 refine Call_ (Qf I g1 m1 boot_list (PyProof.Rows.callWith_type1 (Wa hs3 ?_) (by rw[hs3];rfl) rfl))
 refine Call_ (Qf I g2 m2 boot_reversed (PyProof.Rows.callWith_type1 (Wa hs2 ?_) (by rw[hs2];rfl) rfl))
 refine Call_ (Qf I g3 m3 boot_range (PyProof.Rows.callWith_type1 (Wa hs (ja (ha pins s σ H _ I h) λu s1 ⟨x,H1,I1,r1,q1⟩=>?_)) (by rw[hs];rfl) rfl))
 obtain⟨n,rfl,hn,q⟩:=q1
 obtain⟨t,rfl⟩:=r1
 refine call_range_1 ?_
 refine Jv (IsRange.new ..) (by omega) ?_
 refine(VD (x:=(n:Int) - 1) (c:=-1) (n:=n) (by omega)).list (I1.ok.hd hc) (by
   have e1:(n:Int) - 1+((0:Nat):Int)*(-1)=(n:Int) - 1:=by simp
   have e2:(n:Int) - ((0:Nat):Int)=n:=by simp
   rw[e1,e2]
   exact Heap.get?_push_size _ rfl) (by simp) (λb hb=>by rw[List.mem_singleton.mp hb,Heap.size_push (_:Heap) (za _ _ _)];exact Nat.lt_succ_self _) (by omega) λh' tk acc' c' kp e hi=>?_
 have kk:∀b o,s1.heap.get? b=some o->h'.get? b=some o:=λb o eb=>by
   refine kp b o (Nat.ne_of_lt ?_) (Heap.get?_push_of_some _ (Heap.get?_push_of_some _ eb))
   rw[Heap.size_push]
   exact Nat.lt_succ_of_lt (Heap.lt_size eb)
 have s1z:s1.heap.objs.size<=((s1.heap.push ({cls:=.type "range",data:=.fields #[.int 0 s1.toks,.int n t,.int 1 (s1.toks+1)]}:Obj)).push (za ((n:Int) - 1) n (-1))).objs.size:=by
   rw[Heap.size_push,Heap.size_push]
   omega
 exact⟨.ref _,_,I1.laid (t':=tk) (o:=.lst ((Ze n).map λi=>V.int (i:Nat))) kk s1z ⟨by simp only[List.length_map,Ze,List.length_reverse,List.length_range];exact Nat.le_of_lt (qp hn),acc'.toList,c',Vw hi,by simpa using e⟩,rfl,q _ (I1.hok.fresh s1z)⟩)
end
end L2
set_option Elab.async false
set_option linter.all false
set_option maxRecDepth 100000
set_option maxHeartbeats 4000000
namespace PySem
namespace F
end F
end PySem
namespace L2
open PySem PySem.Spec PyProof.Rows
theorem VO:∀(xs:List V) (us:List Value),xs.length=us.length->(∀(i:Nat) (x:V) (u:Value),xs[i]?=some x->us[i]?=some u->qN x u)->qL xs us:=by
 intro xs
 induction xs with
 | nil=>intro us hl _;cases us with | nil=>exact .nil | cons _ _=>cases hl
 | cons x xs ih=>
   intro us hl hp
   cases us with
   | nil=>cases hl
   | cons u us=>exact .cons (hp 0 x u rfl rfl) (ih us (by simpa using hl) λi y w h1 h2=>hp (i+1) y w (by simpa using h1) (by simpa using h2))
section
variable {X:Cx} {e:Expr} {te:TE} {p1 p2 pos1 pos2:Pos}
end
end L2
set_option Elab.async false
set_option linter.all false
set_option maxRecDepth 100000
set_option maxHeartbeats 4000000
namespace L2
open PySem PySem.Spec PyProof.Rows
section
variable {X:Cx} {pins:List (Addr×Obj)} {σ:St} {H:Hp} {s:Shared} {h':Heap}
theorem qy.turnLaid {L:List Addr} {T:Addr} {o:HO} {t':Nat} (I:qy X pins σ H s) (k:∀b u,b∉L->s.heap.get? b=some u->h'.get? b=some u) (hf:∀b∈L,JR X pins H b) (hp:s.heap.objs.size<=T)
   (new:qU X.prog X.w (upd H T o) h' T o):qy X pins σ (upd H T o) {s with heap:=h',toks:=t'}:=by
 have hn:H T=none:=I.hok.fresh hp
 have up:∀b u,H b=some u->upd H T o b=some u:=λb u e=>by rw[qk (qE e hn)];exact e
 have nL:∀b u,H b=some u->b∉L:=λb u e z=>by rw[(hf b z).1]at e;cases e
 refine I.step (g':=s.gens) (d':=s.drawn) (ch:=L) (λb hb=>?_) (λb o _ _ hc e _=>k b o hc e) (λb o _ _ hc e _=>⟨o.slots,k b o hc e⟩) (λb ob hc e n=>?_)
   (λb o hc e=>⟨o,k b o hc e⟩) (λb xs e=>up b _ e) (λb o u e=>up b _ e) (λb ps e=>⟨#[],by rw[up b _ e];simp⟩) (λm hm=>?_) (λb u e=>?_) I.bare
 . obtain⟨f0,f1,f2,f3,f4,f5⟩:=hf b hb
   exact⟨f3,f1,f4,f5⟩
 . have:b≠T:=Nat.ne_of_lt (Nat.lt_of_lt_of_le (Heap.lt_size e) hp)
   rw[qk this]
   exact n
 . obtain⟨o,es,ep,ho,r⟩:=hm
   exact⟨o,es,ep,k _ o (λz=>(hf _ z).2.1 rfl) ho,r⟩
 . by_cases hb:b=T
   . subst hb
     rw[qd]at e
     cases e
     exact new
   . rw[qk hb]at e
     refine(I.hok b u e).stay (λc v hc q=>k c v ?_ q) (λc q=>up c _ q) (λc xs q=>up c _ q) (λc o q=>up c _ q)
     rcases hc with z | z
     . rw[z];exact nL b u e
     . exact nL c _ z
theorem qy.turnedL {L:List Addr} {t':Nat} (I:qy X pins σ H s) (k:∀b u,b∉L->s.heap.get? b=some u->h'.get? b=some u) (hf:∀b∈L,JR X pins H b):qy X pins σ H {s with heap:=h',toks:=t'}:=by
 have nL:∀b u,H b=some u->b∉L:=λb u e z=>by rw[(hf b z).1]at e;cases e
 refine I.step (g':=s.gens) (d':=s.drawn) (ch:=L) (λb hb=>?_) (λb o _ _ hc e _=>k b o hc e) (λb o _ _ hc e _=>⟨o.slots,k b o hc e⟩) (λ_ _ _ _ n=>n)
   (λb o hc e=>⟨o,k b o hc e⟩) (λ_ _ e=>e) (λ_ _ _ e=>e) (λb ps e=>⟨#[],by rw[e];simp⟩) (λm hm=>?_) (λb u e=>?_) I.bare
 . obtain⟨f0,f1,f2,f3,f4,f5⟩:=hf b hb
   exact⟨f3,f1,f4,f5⟩
 . obtain⟨o,es,ep,ho,r⟩:=hm
   exact⟨o,es,ep,k _ o (λz=>(hf _ z).2.1 rfl) ho,r⟩
 . refine(I.hok b u e).stay (λc v hc q=>k c v ?_ q) (λ_ q=>q) λ_ _ q=>q
   rcases hc with z | z
   . rw[z];exact nL b u e
   . exact nL c _ z
end
section
variable {X:Cx} {elts:List Expr} {x1:Nat} {tpos:Pos}
end
end L2
set_option Elab.async false
set_option linter.all false
set_option maxRecDepth 100000
set_option maxHeartbeats 4000000
namespace L2
open PySem PySem.Spec PyProof.Rows
section
variable {X:Cx}
def Ry (K:PySem.W.Frag):R2:=λx y H Q=>∃d d',DV K H x d/\DV K H y d'/\PySem.SeqAt.shaped d=true/\PySem.SeqAt.shaped d'=true/\Q (.bl (PyData.eqv d d')) H
theorem YQ (hu:X.A.units+64 < cLine):QM X (compareOp .Eq) (Ry X.K):=by
 intro pins s σ H x y v u Q I rx ry h
 obtain⟨d,d',h1,h2,hs,hs',q⟩:=h
 obtain⟨as,ra⟩:=h1.reads I rx
 obtain⟨bs,rb⟩:=h2.reads I ry
 exact eq_dataH ra rb hs hs' hu ⟨.bl _,H,I,rfl,q⟩
end
section
variable {X:Cx} {o e:Expr} {es:List Expr} {ta:TE} {t:TA} {m:Str} {C C' f f':Addr} {fd fd':FuncData} {ps ps':List Str} {k k':Nat} {sp sp':Sp} {apos pos:Pos}
end
section
variable {X:Cx} {e:Expr} {es:List Expr} {te:TE} {t:TA}
end
end L2
set_option Elab.async false
set_option linter.all false
set_option maxRecDepth 100000
set_option maxHeartbeats 4000000
namespace L2
open PySem PySem.Spec PySem.W PyProof.Rows
theorem wy:∀(f n r:Nat),r<=1->minRun' f n r<=n+r
 | 0,n,r,_=>Nat.le_refl _
 | f+1,n,r,hr=>by
   rw[minRun'_succ]
   split
   . exact Nat.le_refl _
   . have h1:max r (n % 2)<=1:=Nat.max_le.mpr ⟨hr,by omega⟩
     have:=wy f (n / 2) (max r (n % 2)) h1
     omega
section
variable {P:Program} {w:World} {B:Around} {F:Value->Shared->Prop} {κ:SortKind} {it:Array Keyed} {z:Shared}
theorem Xt {n:Nat} {R:Nat->Shared->Prop} (hc:∀i,1<=i->i < n->∀C:Bool->Shared->Prop,C false z->kas_cmp P w B κ it i (i - 1) C z) (hR:R n z):
   ∀(f a:Nat),1<=a->a+f=n->(kas_asc (List.toArray (List.range n)) f a).kasWp (kas_cmp P w B κ it) R z
 | 0,a,_,e=>by
   have e':a=n:=by omega
   subst e'
   exact hR
 | f+1,a,h1,e=>by
   have g:∀i,i < n->(List.toArray (List.range n)).getD i 0=i:=λi hi=>by simp [Array.getD,hi]
   show kas_cmp P w B κ it ((List.toArray (List.range n)).getD a 0) ((List.toArray (List.range n)).getD (a - 1) 0) _ z
   rw[g a (by omega),g (a - 1) (by omega)]
   refine hc a h1 (by omega) _ ?_
   show KasT.kasWp _ (if false=true then _ else _) R z
   rw[if_neg Bool.false_ne_true]
   exact Xt hc hR f (a+1) (by omega) (by omega)
theorem VL {n:Nat} {Q:Unit->SortSt->Shared->Prop} (h2:2<=n) (hc:∀i,1<=i->i < n->∀C:Bool->Shared->Prop,C false z->kas_cmp P w B κ it i (i - 1) C z)
   (hQ:∀st,arrOf st=(List.toArray (List.range n)).map (kas_item it)->failedOf st=none->Q () st z):kasC (model P w) B F sortRuns' Q (kas_st κ it (List.toArray (List.range n))) z:=by
 obtain⟨r,rfl⟩:∃r,n=r+2:=⟨n - 2,by omega⟩
 have sz:(List.toArray (List.range (r+2))).size=r+2:=by simp
 have sa:(arrOf (kas_st κ it (List.toArray (List.range (r+2))))).size=r+2:=(Array.size_map ..).trans sz
 have le:=wy (r+2) (r+2) 0 (by decide)
 rw[sortRuns'_eq]
 refine kasC_bind (kasC_get ?_)
 dsimp only
 rw[sa]
 generalize minRun' (r+2) (r+2) 0=M at le
 refine kasC_bind (kasC_range (show kasC _ _ _ (forIn (0::1::List.range' 2 r) _ _) _ _ _ from kasC_cons ?_))
 dsimp only
 rw[if_neg (by omega)]
 simp only[Nat.sub_zero,Nat.zero_add]
 refine kasC_bind (kas_count_ (G:=λq z'=>q=(r+2,List.toArray (List.range (r+2)))/\z'=z) (by omega) (by rw[sz];exact Nat.le_refl _) (λm p' z' _ _ _ hg=>?_) ?_)
 . obtain⟨e,rfl⟩:=hg
   cases e
   dsimp only
   rw[if_neg (by omega)]
   refine kasC_bind (kasC_get ?_)
   rw[show (pendingOf (kas_st κ it (List.toArray (List.range (r+2))))).back?=none from rfl]
   dsimp only
   refine kasC_bind (kasC_modify (kasC_pure (show kasC _ _ _ (forIn (1::List.range' 2 r) _ _) _ _ _ from kasC_cons ?_)))
   dsimp only
   rw[if_pos (Nat.le_refl _)]
   refine kasC_pure ?_
   dsimp only
   refine kasC_bind (kasC_range (show kasC _ _ _ (forIn (0::1::List.range' 2 r) _ _) _ _ _ from kasC_cons (kasC_bind (kasC_get ?_))))
   rw[if_pos (show (pendingOf (setPending (kas_st κ it (List.toArray (List.range (r+2)))) ((pendingOf (kas_st κ it (List.toArray (List.range (r+2))))).push (0,r+2,0)))).size<=1 from Nat.le_refl 1)]
   refine kasC_pure ?_
   dsimp only
   exact kasC_pure (hQ _ rfl rfl)
 . unfold kas_count
   rw[KasT.kasWp_bind]
   refine Xt hc ?_ _ 1 (Nat.le_refl 1) (by omega)
   rw[if_pos (beq_self_eq_true _)]
   exact⟨rfl,rfl⟩
end
def Q2 (h:Heap) (v:Value) (k:Int×Int):Prop:=∃p o n t u,v=.ref p/\h.get? p=some o/\o.cls=.type "tuple"/\o.data=.seq #[.int k.1 t,.int k.2 u] n
def zq (a b:Int×Int):Prop:=a.1 < b.1\/(a.1=b.1/\a.2 < b.2)
section
variable {P:Program} {w:World} {B:Around} {F:Value->Shared->Prop} {z:Shared}
theorem Xx {v u:Value} {a b:Int×Int} (hv:Q2 z.heap v b) (hu:Q2 z.heap u a) (hlt:zq a b) {C:Bool->Shared->Prop} (hC:C false z):wpAny (model P w) B (keyLt' (tuples' true) v u) C (λ_ _=>False) z:=by
 obtain⟨p,o,n,t1,t2,rfl,h1,_,d1⟩:=hv
 obtain⟨p',o',n',t1',t2',rfl,h1',_,d1'⟩:=hu
 refine kat_lt h1 d1 h1' d1' ?_
 show KatLex P w B true _ C [(.int b.1 t1,.int a.1 t1'),(.int b.2 t2,.int a.2 t2')] 0 z
 refine kat_cons (SeqAt.EqAt.int_int b.1 t1 a.1 t1' P w _ _ ?_)
 rcases hlt with h | ⟨h,h'⟩
 . have e:(b.1==a.1)=false:=by
     rw[beq_eq_false_iff_ne]
     omega
   rw[e]
   refine kat_no (show wpAny _ _ (oneLt' true _ _) _ _ _ from oneLt_int ?_)
   rw[decide_eq_false (by omega)]
   exact hC
 . have e:(b.1==a.1)=true:=by rw[h];exact beq_self_eq_true _
   rw[e]
   refine kat_yes (kat_cons (SeqAt.EqAt.int_int b.2 t2 a.2 t2' P w _ _ ?_))
   have e2:(b.2==a.2)=false:=by
     rw[beq_eq_false_iff_ne]
     omega
   rw[e2]
   refine kat_no (show wpAny _ _ (oneLt' false _ _) _ _ _ from kat_one _ _ (lt_int ?_))
   show C (decide (b.2 < a.2)) z
   rw[decide_eq_false (by omega)]
   exact hC
theorem Q2.keep {h h':Heap} {v:Value} {k:Int×Int} (x:Q2 h v k) (kp:∀b o,h.get? b=some o->o.cls=.type "tuple"->h'.get? b=some o):Q2 h' v k:=by
 obtain⟨p,o,n,t,u,e,h1,c,d⟩:=x
 exact⟨p,o,n,t,u,e,kp p o h1 c,c,d⟩
theorem Yb (vs:List Value):(pairsOf vs).map (·.2)=vs.toArray:=by
 apply Array.ext'
 rw[Array.toList_map,pairsOf_toList,List.map_snd_zip (Nat.le_refl _)]
theorem WM {h:Heap}:∀(vs:List Value) (ks:List (Int×Int)),vs.length=ks.length->(∀(i:Nat) (v:Value) (k:Int×Int),vs[i]?=some v->ks[i]?=some k->Q2 h v k)->∃fs,KatTups h vs fs/\fs.length=vs.length/\∀v∈fs,∃i t,v=Value.int i t
 | [],_,_,_=>⟨[],.nil,rfl,λv hv=>(nomatch hv)⟩
 | v::vs,[],hl,_=>by cases hl
 | v::vs,k::ks,hl,hv=>by
   obtain⟨fs,tf,lf,hf⟩:=WM vs ks (Nat.succ.inj hl) λi u q e1 e2=>hv (i+1) u q (by simpa using e1) (by simpa using e2)
   obtain⟨p,o,n,t,u,rfl,h1,c,d⟩:=hv 0 v k rfl rfl
   refine⟨.int k.1 t::fs,.cons h1 c d rfl tf,by simp [lf],λx hx=>?_⟩
   rcases List.mem_cons.mp hx with e | hx
   . exact⟨_,_,e⟩
   . exact hf x hx
theorem VC {a:Addr} {vs:List Value} {ks:List (Int×Int)} {n:Nat} {R:PySem.Fin->Shared->Prop} (ho:z.heap.get? a=some (seqObj "list" vs.toArray n)) (hl:vs.length=ks.length) (hv:∀(i:Nat) (v:Value) (k:Int×Int),vs[i]?=some v->ks[i]?=some k->Q2 z.heap v k)
   (hr:∀(i:Nat) (k k':Int×Int),ks[i]?=some k->ks[i+1]?=some k'->zq k k') (hz:vs.length<=100000)
   (k:R (.done (.ret .none)) {z with heap:=sortedHeap z.heap a vs vs.toArray}):wpAny (model P w) B (Builtin.«list.sort» ⟨[.ref a],[]⟩) R F z:=by
 have na:∀b o,z.heap.get? b=some o->o.cls=.type "tuple"->b≠a:=λb o e c q=>by
   rw[q,ho]at e
   cases e
   exact absurd c (show ¬Value.type "list"=Value.type "tuple" by decide)
 rw[list_sort_plain]
 refine wpAny_bind (listItems_at ho rfl (wpAny_bind (listUpdate_at ho rfl ?_)))
 obtain⟨c1,o1⟩:∃c,(z.heap.update a (Obj.mapSeq λ_=>#[])).get? a=some (seqObj "list" #[] c):=⟨_,get?_update_seq ho (λ_=>#[])⟩
 refine wpAny_bind (seqEpoch_at o1 rfl (wpAny_bind (wpAny_newTuple (wpAny_bind (wpAny_newList (wpAny_holding ?_))))))
 have lt:=Heap.lt_size ho
 have o2:(((z.heap.update a (Obj.mapSeq λ_=>#[])).push (seqObj "tuple" vs.toArray 0)).push (seqObj "list" #[] 0)).get? a=some (seqObj "list" #[] c1):=Heap.get?_push_of_some _ (Heap.get?_push_of_some _ o1)
 have kp:∀b o,z.heap.get? b=some o->o.cls=.type "tuple"->(((z.heap.update a (Obj.mapSeq λ_=>#[])).push (seqObj "tuple" vs.toArray 0)).push (seqObj "list" #[] 0)).get? b=some o:=λb o e c=>
   Heap.get?_push_of_some _ (Heap.get?_push_of_some _ ((Heap.get?_update_other _ _ (Ne.symm (na b o e c))).trans e))
 show wpAny (model P w) B _ R F {z with heap:=((z.heap.update a (Obj.mapSeq λ_=>#[])).push (seqObj "tuple" vs.toArray 0)).push (seqObj "list" #[] 0)}
 dsimp only
 have sv:vs.toArray.size=vs.length:=by simp
 have ends:∀st:SortSt,(arrOf st).map (·.2)=vs.toArray->failedOf st=none->wpAny (model P w) B (do
     let touched:=(<-seqEpoch a) != c1
     Builtin.List.listUpdate (.ref a) λ_=>(arrOf st).map (·.2)
     if let some e:=failedOf st then rule "list.sort.comparison-raised";throw e
     if touched then rule "list.sort.modified";raiseError "ValueError" "list modified during sort"
     ret .none) R F {z with heap:=((z.heap.update a (Obj.mapSeq λ_=>#[])).push (seqObj "tuple" vs.toArray 0)).push (seqObj "list" #[] 0)}:=λst e f=>by
   refine wpAny_bind (seqEpoch_at o2 rfl ?_)
   rw[e,f]
   refine wpAny_bind (listUpdate_at o2 rfl ?_ (hsz2:=by rw[sv,sizeLine_eq];omega))
   simp only[bne_self_eq_false,Bool.false_eq_true,if_false]
   exact wpAny_pure k
 by_cases h2:vs.toArray.size < 2
 . rw[if_pos h2,if_pos h2]
   refine wpAny_bind (wpAny_pure ?_)
   rw[StateT.run_pure]
   refine wpAny_bind (wpAny_pure ?_)
   exact ends (SortSt.mk' general' (vs.toArray.zip vs.toArray) #[] 7 none) (Yb vs) rfl
 . rw[if_neg h2,if_neg h2]
   have l2:2<=vs.length:=by omega
   have hv':∀(i:Nat) (v:Value) (q:Int×Int),vs[i]?=some v->ks[i]?=some q->Q2 (((z.heap.update a (Obj.mapSeq λ_=>#[])).push (seqObj "tuple" vs.toArray 0)).push (seqObj "list" #[] 0)) v q:=λi v q e1 e2=>(hv i v q e1 e2).keep kp
   obtain⟨fs,tf,lf,hf⟩:=WM vs ks hl hv'
   refine wpAny_bind (kat_kind (T:=.type "int") tf (by omega) (λv q=>?_) rfl ?_)
   . obtain⟨i,t,rfl⟩:=hf v q
     exact Looks.of_pure rfl
   . have e:vs.toArray.zip vs.toArray=(List.toArray (List.range vs.length)).map (kas_item (pairsOf vs)):=by
       have:=kas_range (pairsOf vs)
       rw[pairsOf_size]at this
       exact this.symm
     rw[e]
     have run:kasC (model P w) B F sortRuns' (λ_ st z'=>z'={z with heap:=((z.heap.update a (Obj.mapSeq λ_=>#[])).push (seqObj "tuple" vs.toArray 0)).push (seqObj "list" #[] 0)}/\(arrOf st).map (·.2)=vs.toArray/\failedOf st=none)
         (kas_st (tuples' true) (pairsOf vs) (List.toArray (List.range vs.length))) {z with heap:=((z.heap.update a (Obj.mapSeq λ_=>#[])).push (seqObj "tuple" vs.toArray 0)).push (seqObj "list" #[] 0)}:=by
       refine VL l2 (λi i1 i2 C hC=>?_) λst e1 e2=>⟨rfl,by rw[e1,<-e];exact Yb vs,e2⟩
       unfold kas_cmp
       rw[kas_item_eq,kas_item_eq]
       have g:∀j,j < vs.length->vs[j]?=some (vs.getD j Value.none):=λj hj=>by simp [hj]
       have gk:∀j,j < vs.length->∃q,ks[j]?=some q:=λj hj=>⟨_,List.getElem?_eq_getElem (by omega)⟩
       obtain⟨q1,eq1⟩:=gk i i2
       obtain⟨q0,eq0⟩:=gk (i - 1) (by omega)
       have eq1':ks[i - 1+1]?=some q1:=by rw[show i - 1+1=i by omega];exact eq1
       exact Xx (hv' i _ q1 (g i i2) eq1) (hv' (i - 1) _ q0 (g (i - 1) (by omega)) eq0) (hr (i - 1) q0 q1 eq0 eq1') hC
     refine wpAny_bind (wpAny_mono run (λr z' h3=>?_) λ_ _ x=>x)
     obtain⟨⟨⟩,st⟩:=r
     obtain⟨rfl,e1,e2⟩:=h3
     exact ends st e1 e2
end
end L2
set_option Elab.async false
set_option linter.all false
set_option maxRecDepth 100000
set_option maxHeartbeats 4000000
namespace PySem
def RawD (h:Heap) (d:Addr) (es:Array DictEntry) (ep:Nat):Prop:=∃o,h.get? d=some o/\o.ExactDict/\o.data=.dict es ep
theorem RawD.keep {h h':Heap} {d:Addr} {es:Array DictEntry} {ep:Nat} (x:RawD h d es ep) (k:∀o,h.get? d=some o->h'.get? d=some o):RawD h' d es ep:=let ⟨o,e,r⟩:=x;⟨o,k o e,r⟩
section
variable {P:Program} {w:World} {B:Around} {F':Value->Shared->Prop} {z:Shared} {d I:Addr} {es:Array DictEntry} {ep i:Nat}
theorem RawD.ty (x:RawD z.heap d es ep):z.TypeIs (.ref d) "dict":=let ⟨o,e,c,_⟩:=x;⟨o,e,c.1⟩
theorem U6 {R:Value->Shared->Prop} (hd:(d==sysModules)=false) (x:RawD z.heap d es ep)
   (k:R (.ref z.heap.objs.size) {z with heap:=z.heap.push {cls:=.type "dict_keyiterator",data:=.fields #[.ref d,.int 0 0,.int es.size 0,.int ep 0]}}):wpAny (model P w) B (pyIter (.ref d)) R F' z:=by
 have ty:=x.ty
 obtain⟨o,ho,_,dat⟩:=x
 refine wpAny_pyIter_slot ty F.slot_dict_iter (wpAny_call_entry F.slot_dict_iter ty F.entry_dict_iter ?_ (F.args_dict_iter_1 _))
 unfold Builtin.«dict.__iter__»
 refine wpAny_bind (show wpAny _ _ (Builtin.Dict.dictSlotNone _ _) _ _ _ from ?_)
 unfold Builtin.Dict.dictSlotNone
 refine wpAny_bind (wpAny_notOrdered_dict ty (show wpAny _ _ (pure (Value.ref d)) _ _ z from wpAny_pure ?_))
 refine(show wpAny _ _ (Builtin.Dict.showsAll d >>= _) _ _ z from ?_)
 unfold Builtin.Dict.showsAll
 rw[if_neg (by rw[hd];exact Bool.false_ne_true)]
 refine wpAny_bind (wpAny_pure (wpAny_bind (wpAny_dictEntries ho dat (wpAny_bind (wpAny_dictEpoch ho dat ?_)))))
 exact wpAny_bind (wpAny_newObj_type (wpAny_pure ⟨_,rfl,"dict_keyiterator",_,⟨_,Heap.get?_push_size _ rfl,rfl⟩,F.slot_dict_keyiterator_next.lookup,by simpa [rawInt] using k⟩))
theorem U5 {R:Option Value->Shared->Prop} (hit:z.heap.IsKeyIter I d i es.size ep) (x:RawD z.heap d es ep) (hi:i < es.size)
   (k:∀h',h'.IsKeyIter I d (i+1) es.size ep->Heap.SameBut I z.heap h'->R (some es[i].key) {z with heap:=h'}):wpAny (model P w) B (pyNext (.ref I)) R F' z:=by
 obtain⟨o,ho,hc,hd⟩:=id hit
 obtain⟨od,hod,_,dat⟩:=x
 have ty:=hit.typeIs
 unfold pyNext
 refine wpAny_bind (wpAny_attempt (wpAny_callSpecial?_slot (name:=Str.ofString "__next__") ty F.slot_dict_keyiterator_next (wpAny_call_entry F.slot_dict_keyiterator_next ty F.entry_dict_keyiterator_next ?_ (F.args_dict_keyiterator_next_1 _))))
 refine wpAny_bind (wpAny_pure (wpAny_bind (wpAny_bind (wpAny_bind ?_))))
 first | refine wpAny_typeNameOfWhole_keyiter ty (wpAny_pure (wpAny_bind (wpAny_fieldsOf ho hd ?_))) | refine wpAny_typeNameOf_keyiter ty (wpAny_pure (wpAny_bind (wpAny_fieldsOf ho hd ?_)))
 have own:Builtin.Dict_items.ownsTuple "dict_keyiterator"=false:=by decide
 simp only[own,Bool.false_eq_true,if_false]
 show wpAny _ _ (if (Value.ref d==Value.none)=true then _ else _) _ _ z
 rw[if_neg (show ¬((Value.ref d==Value.none)=true) from Bool.false_ne_true)]
 refine wpAny_bind (wpAny_pure (wpAny_bind (wpAny_dictEntries hod dat ?_)))
 rw[if_neg (by simp)]
 refine wpAny_bind (wpAny_pure (wpAny_bind (wpAny_dictEpoch hod dat ?_)))
 rw[if_neg (by simp)]
 refine wpAny_pure ?_
 simp only[show ¬((i:Int) < 0) from by omega,if_false,Int.toNat_natCast,Array.getElem?_eq_getElem hi]
 refine wpAny_bind (wpAny_bind ?_)
 first | refine wpAny_typeNameOfWhole_keyiter ty (wpAny_pure (wpAny_bind (wpAny_isOneOf_keyiter ty ?_))) | refine wpAny_typeNameOf_keyiter ty (wpAny_pure (wpAny_bind (wpAny_isOneOf_keyiter ty ?_)))
 refine(show wpAny _ _ (setField (.ref I) 1 (rawInt ((i:Int)+1)) >>= _) _ _ z from wpAny_bind (wpAny_setField ho hd (by simp) ?_))
 have hit':(z.heap.update I (Obj.mapFields (·.setIfInBounds 1 (rawInt ((i:Int)+1))))).IsKeyIter I d (i+1) es.size ep:=
   ⟨_,Heap.get?_update_self _ ho (Obj.isFreed_of_fields (Obj.data_mapFields hd _)),(Obj.cls_mapFields ..).trans hc,by rw[Obj.data_mapFields hd];simp [rawInt]⟩
 refine wpAny_bind (wpAny_holding (wpAny_bind (wpAny_isOneOf_keyiter (s:={z with heap:=z.heap.update I (Obj.mapFields (·.setIfInBounds 1 (rawInt ((i:Int)+1))))}) hit'.typeIs ?_)))
 refine(show wpAny _ _ (pure es[i].key) _ _ _ from wpAny_pure (wpAny_pure ⟨_,rfl,wpAny_pure (k _ hit' (Heap.SameBut.update ..))⟩))
theorem yF {R:Option Value->Shared->Prop} (hB:B.handled=none) (hit:z.heap.IsKeyIter I d i es.size ep) (x:RawD z.heap d es ep) (hi:es.size<=i)
   (k:∀h',Heap.ExtBut I z.heap h'->R none {z with heap:=h'}):wpAny (model P w) B (pyNext (.ref I)) R F' z:=by
 obtain⟨o,ho,hc,hd⟩:=id hit
 obtain⟨od,hod,_,dat⟩:=x
 have ty:=hit.typeIs
 unfold pyNext
 refine wpAny_bind (wpAny_attempt (wpAny_callSpecial?_slot (name:=Str.ofString "__next__") ty F.slot_dict_keyiterator_next (wpAny_call_entry F.slot_dict_keyiterator_next ty F.entry_dict_keyiterator_next ?_ (F.args_dict_keyiterator_next_1 _))))
 refine wpAny_bind (wpAny_pure (wpAny_bind (wpAny_bind (wpAny_bind ?_))))
 first | refine wpAny_typeNameOfWhole_keyiter ty (wpAny_pure (wpAny_bind (wpAny_fieldsOf ho hd ?_))) | refine wpAny_typeNameOf_keyiter ty (wpAny_pure (wpAny_bind (wpAny_fieldsOf ho hd ?_)))
 have own:Builtin.Dict_items.ownsTuple "dict_keyiterator"=false:=by decide
 simp only[own,Bool.false_eq_true,if_false]
 show wpAny _ _ (if (Value.ref d==Value.none)=true then _ else _) _ _ z
 rw[if_neg (show ¬((Value.ref d==Value.none)=true) from Bool.false_ne_true)]
 refine wpAny_bind (wpAny_pure (wpAny_bind (wpAny_dictEntries hod dat ?_)))
 rw[if_neg (by simp)]
 refine wpAny_bind (wpAny_pure (wpAny_bind (wpAny_dictEpoch hod dat ?_)))
 rw[if_neg (by simp)]
 refine wpAny_pure ?_
 simp only[show ¬((i:Int) < 0) from by omega,if_false,Int.toNat_natCast,Array.getElem?_eq_none hi]
 refine wpAny_bind (wpAny_bind ?_)
 first | refine wpAny_typeNameOfWhole_keyiter ty (wpAny_pure ?_) | refine wpAny_typeNameOf_keyiter ty (wpAny_pure ?_)
 refine(show wpAny _ _ (setField (.ref I) 0 .none >>= _) _ _ z from wpAny_bind (wpAny_setField ho hd (by simp) ?_))
 refine(show wpAny _ _ (newExc (.type "StopIteration") [] >>= _) _ _ _ from wpAny_bind ?_)
 simp only[newExc,newTuple]
 refine wpAny_bind (wpAny_newObj_type (wpAny_bind (m:=firstArgMember _ _) (wpAny_of_eq (a:=Value.none) (by first | rfl | (simp only[firstArgMember];rfl)) (wpAny_newObj_type ?_ (by size_fits)))) (by size_fits))
 simp only[raiseNew]
 refine wpAny_bind (wpAny_handled ?_)
 rw[show B.in1.handled=none from hB]
 refine wpAny_bind (wpAny_pure (wpAny_throw ?_))
 refine wpAny_bind (wpAny_isInstance (T:="StopIteration") (b:=true) ⟨_,Heap.get?_push_size _ rfl,rfl⟩ isSubtype_stop ?_)
 exact wpAny_pure (k _ ((((Heap.SameBut.update ..).extBut).push _).push _))
end
end PySem
namespace PySem
open PySem.W
section
variable {P:Program} {w:World} {d:Addr} {es:Array DictEntry} {ep:Nat}
theorem VM {B:Around} (hB:B.handled=none) (I:Addr) (hne:d≠I):Walks P w B I [I,d] [I] es.size (λi v=>∃h:i < es.size,v=es[i].key) (λi h=>h.IsKeyIter I d i es.size ep/\RawD h d es ep) where
 sub:=λb hb=>by simp at hb;simp [hb]
 frame:=λ_ _ _ st k=>⟨st.1.at λo e=>k I (by simp) o e,st.2.keep λo e=>k d (by simp) o e⟩
 item:=λi z R G hi st q=>U5 st.1 st.2 hi λh' it' sb=>q _ h' z.toks ⟨hi,rfl⟩ ⟨it',st.2.keep λo e=>sb.extBut d o hne e⟩ λb o hb e=>sb.extBut b o (λx=>hb (by simp [x])) e
 done:=λz R G st q=>yF hB st.1 st.2 (Nat.le_refl _) λh' eb=>q h' z.toks λb o hb e=>eb b o (λx=>hb (by simp [x])) e
 self:=λ_ _ _ _ st q=>wpAny_pyIter_keyiter st.1 q
theorem yD (hd:(d==sysModules)=false):KdlSrc P w "dict" d d es.size (λi v=>∃h:i < es.size,v=es[i].key) (λh=>RawD h d es ep) where
 type:=λz x=>x.ty
 there:=λh x=>let ⟨o,e,_⟩:=x;⟨Heap.lt_size e,Heap.lt_size e⟩
 keep:=λh h' x k=>x.keep λo e=>k d (.inl rfl) o e
 notList:=by decide
 notTuple:=by decide
 hint:=λ_ _ _ _ x q=>kdl_hint_dict x.ty q
 iter:=λA z hh x=>⟨_,_,λE Q q=>U6 hd x q,VM hh _ (let ⟨o,e,_⟩:=x;Nat.ne_of_lt (Heap.lt_size e)),⟨⟨_,Heap.get?_push_size _ rfl,rfl,rfl⟩,x.keep λo e=>Heap.get?_push_of_some _ e⟩⟩
end
end PySem
namespace L2
open PySem PySem.Spec PySem.W PyProof.Rows
theorem ze {α β:Type} {G:α->β->Prop}:∀{l:List α} {m:List β},Paired G l m->∀{i:Nat} {a:α},l[i]?=some a->∃b,m[i]?=some b/\G a b
 | _,_,.nil,i,a,e=>by simp at e
 | _,_,.cons r t,0,a,e=>by cases e;exact⟨_,rfl,r⟩
 | _,_,.cons r t,i+1,a,e=>by
   obtain⟨b,eb,g⟩:=ze t (by simpa using e)
   exact⟨b,by simpa using eb,g⟩
section
variable {X:Cx}
def ZB (k:Int×Int):List qw:=[Sum.inl k.1,Sum.inl k.2]
def ua:List V->Hp->VK->Prop:=λxs H Q=>∃(a:Addr) (kvs:List (List qw×V)) (ks:List (Int×Int)),xs=[.ref a]/\H a=some (.dT kvs)/\kvs.map (·.1)=ks.map ZB/\(∀(i:Nat) (k k':Int×Int),ks[i]?=some k->ks[i+1]?=some k'->zq k k')/\kvs.length<=1000/\
 ∀(l:Addr) (ps:List Addr),H l=none->ps.length=ks.length->(∀(i:Nat) (p:Addr) (k:Int×Int),ps[i]?=some p->ks[i]?=some k->H p=some (.tup [.int k.1,.int k.2]))->Q (.ref l) (upd H l (.lst (ps.map V.ref)))
theorem Xj:∀(ps:List Addr),qL (ps.map V.ref) (ps.map Value.ref)
 | []=>.nil
 | p::ps=>.cons rfl (Xj ps)
theorem Wy (hc:X.calm=true):jn X (.builtin "sorted") ua:=by
 intro pins s σ H xs us Q I r h
 obtain⟨a,kvs,ks,rfl,ea,eks,hr,hz,q⟩:=h
 obtain⟨u,rfl,ru⟩:=jW r
 cases ru
 obtain⟨_,hsys,ys,pr,o,es,ep,eo,ex,dat,ents,_⟩:=(show qU X.prog X.w H s.heap a (.dT kvs) from I.hok a _ ea)
 have ly:kvs.length=ys.length:=Paired.length pr
 have lk:kvs.length=ks.length:=by simpa using congrArg List.length eks
 have se:es.size=ys.length:=by rw[<-Array.length_toList,ents,List.length_map]
 have key:∀i (hi:i < es.size),es[i].key=.ref ((ys.map (·.2.1)).getD i 0):=λi hi=>by
   have e1:es.toList[i]?=some es[i]:=by simp [hi]
   have hy:i < ys.length:=by omega
   rw[ents,List.getElem?_map,List.getElem?_eq_getElem hy]at e1
   have e2:=(Option.some.inj e1).symm
   rw[e2]
   show Value.ref ys[i].2.1=_
   simp [hy]
 have tup:∀(i:Nat) (p:Addr) (k:Int×Int),(ys.map (·.2.1))[i]?=some p->ks[i]?=some k->H p=some (.tup [.int k.1,.int k.2]):=λi p k e1 e2=>by
   rw[List.getElem?_map]at e1
   cases ey:ys[i]? with
   | none=>rw[ey]at e1;cases e1
   | some y=>
     rw[ey]at e1
     have ep':y.2.1=p:=Option.some.inj e1
     have hi:i < kvs.length:=by
       have:=(List.getElem?_eq_some_iff.mp ey).1
       omega
     obtain⟨y',ey',g1,g2,_⟩:=ze pr (List.getElem?_eq_getElem hi)
     rw[ey]at ey'
     cases ey'
     have ek:kvs[i].1=ZB k:=by
       have h1:(kvs.map (·.1))[i]?=some kvs[i].1:=by rw[List.getElem?_map,List.getElem?_eq_getElem hi];rfl
       rw[eks,List.getElem?_map,e2]at h1
       exact(Option.some.inj h1).symm
     rw[ek,ep']at g2
     exact g2
 have hh:X.A.in1.handled=none:=I.ok.hd hc
 refine Calls.call_function_entry kind_sorted plain_sorted entry_sorted (args_sorted1 _) ?_
 unfold Builtin.«sorted»
 refine wpAny_bind (m:=checkCount "sorted" 1 1 _) (wpAny_pure ?_)
 refine wpAny_bind (kdu_collect (yD (es:=es) (ep:=ep) hsys) hh ⟨o,eo,ex,dat⟩ (by rw[se,sizeLine_eq];omega) λh1 tk acc k1 it=>?_)
 have eacc:acc.toList=(ys.map (·.2.1)).map Value.ref:=by
   refine List.ext_getElem? λi=>?_
   by_cases hi:i < es.size
   . have ha:i < acc.size:=by rw[it.1];exact hi
     have e1:acc[i]?=some acc[i]:=Array.getElem?_eq_getElem ha
     obtain⟨h',e2⟩:=it.2 i _ e1
     rw[Array.getElem?_toList,e1,e2,key i hi,List.getElem?_map]
     have hy:i < (ys.map (·.2.1)).length:=by rw[List.length_map];omega
     rw[List.getElem?_eq_getElem hy]
     simp [List.getD_eq_getElem?_getD,List.getElem?_eq_getElem hy]
   . rw[List.getElem?_eq_none (by rw[Array.length_toList,it.1];omega),List.getElem?_eq_none (by rw[List.length_map,List.length_map];omega)]
 rw[eacc]
 generalize hps:ys.map (·.2.1)=ps at eacc tup key
 have lp:ps.length=ks.length:=by rw[<-hps,List.length_map];omega
 refine wpAny_bind (wpAny_newList ?_)
 have I1:qy X pins σ H {s with heap:=h1,toks:=tk}:=I.kept (t':=tk) k1
 show wpAny _ _ _ _ _ {s with heap:=h1.push (seqObj "list" (ps.map Value.ref).toArray 0),toks:=tk}
 have oL:(h1.push (seqObj "list" (ps.map Value.ref).toArray 0)).get? h1.objs.size=some (seqObj "list" (ps.map Value.ref).toArray 0):=Heap.get?_push_size _ rfl
 have pa:∀(i:Nat) (v:Value) (k:Int×Int),(ps.map Value.ref)[i]?=some v->ks[i]?=some k->Q2 (h1.push (seqObj "list" (ps.map Value.ref).toArray 0)) v k:=λi v k e1 e2=>by
   rw[List.getElem?_map]at e1
   cases ep1:ps[i]? with
   | none=>rw[ep1]at e1;cases e1
   | some p=>
     rw[ep1]at e1
     obtain rfl:=(Option.some.inj e1).symm
     obtain⟨its,rv,⟨ob,eb,cb,nb,db⟩,_⟩:=I1.tuple (.of (tup i p k ep1 e2):SqT X.K H p _)
     cases rv with
     | cons r1 rv=>
       cases rv with
       | cons r2 rv=>
         cases rv
         obtain⟨t1,rfl⟩:=r1
         obtain⟨t2,rfl⟩:=r2
         exact⟨p,ob,nb,t1,t2,rfl,Heap.get?_push_of_some _ eb,cb,db⟩
 refine wpAny_bind (wpAny_holding (wpAny_call_entry slot_list_sort ⟨_,oL,rfl⟩ entry_list_sort (VC oL (by rw[List.length_map];exact lp) pa hr (by rw[List.length_map];omega) ⟨_,rfl,?_⟩) (args_list_sort _)))
 refine wpAny_pure ⟨_,rfl,?_⟩
 have lne:∀b o,h1.get? b=some o->b≠h1.objs.size:=λb o e=>Nat.ne_of_lt (Heap.lt_size e)
 have kf:∀b o,h1.get? b=some o->(sortedHeap (h1.push (seqObj "list" (ps.map Value.ref).toArray 0)) h1.objs.size (ps.map Value.ref) (ps.map Value.ref).toArray).get? b=some o:=λb o e=>by
   unfold sortedHeap
   rw[Heap.get?_update_other _ _ (Ne.symm (lne b o e))]
   exact Heap.get?_push_of_some _ (Heap.get?_push_of_some _ ((Heap.get?_update_other _ _ (Ne.symm (lne b o e))).trans (Heap.get?_push_of_some _ e)))
 obtain⟨c2,o2⟩:∃c,((h1.push (seqObj "list" (ps.map Value.ref).toArray 0)).update h1.objs.size (Obj.mapSeq λ_=>#[])).get? h1.objs.size=some (seqObj "list" #[] c):=⟨_,get?_update_seq oL (λ_=>#[])⟩
 obtain⟨c3,o3⟩:∃c,(sortedHeap (h1.push (seqObj "list" (ps.map Value.ref).toArray 0)) h1.objs.size (ps.map Value.ref) (ps.map Value.ref).toArray).get? h1.objs.size=some (seqObj "list" (ps.map Value.ref).toArray c):=
   ⟨_,get?_update_seq (Heap.get?_push_of_some _ (Heap.get?_push_of_some _ o2)) (λ_=>(ps.map Value.ref).toArray)⟩
 refine⟨.ref h1.objs.size,_,I1.laid (t':=tk) (o:=.lst (ps.map V.ref)) kf (Nat.le_refl _) ⟨by rw[List.length_map,lp,<-lk];exact Nat.le_of_lt (qp hz),_,c3,Xj ps,o3⟩,rfl,?_⟩
 exact q _ ps (I1.hok.fresh (Nat.le_refl _)) lp tup
end
end L2
set_option Elab.async false
set_option linter.all false
set_option maxRecDepth 100000
set_option maxHeartbeats 4000000
namespace L2
open PySem PySem.Spec PySem.W PyProof.Rows
section
variable {X:Cx}
def Rq:V->Option Int->Option Int->Hp->VK->Prop:=λx lo hi H Q=>∃(z:Str) (j:Int),x=.str z/\lo=none/\hi=some j/\z.length<=1000/\Q (.str (Txt.slice z none (some j))) H
theorem UV:RU X Rq:=by
 intro pins s σ H x v vl vu lo hi sl Q I rx hs pl pu h
 obtain⟨z,j,rfl,rfl,rfl,hz,q⟩:=h
 obtain⟨t,rfl⟩:=rx
 refine⟨"str",_,PySem.F.slot_str_getitem.lookup,typeIs_str _ _ _,?_⟩
 cases pl
 cases pu
 exact wpAny_getItem_str_slice (l:=none) (u:=some (j,_)) (st:=none) hs rfl (post_val_or_str ⟨Nat.le_trans (Txt.slice_le z none (some j)) (Nat.le_of_lt (qp hz)),λt' k=>⟨.str _,H,I.tok k,⟨t',rfl⟩,q⟩⟩)
theorem ZY (z:Str) (j:Nat):(Txt.slice z none (some (j:Int))).cps.toList=z.cps.toList.take j:=by
 have hl:z.cps.toList.length=z.length:=Array.length_toList
 have idx:Builtin.Str.strSliceIndices none (some (j:Int)) 1 z.length=(List.range (min j z.length)).map (0+·):=by
   have e:Builtin.Str.strSliceIndices none (some (j:Int)) 1 z.length=sliceRange ((0:Nat):Int) ((min j z.length:Nat):Int) 1:=by
     unfold Builtin.Str.strSliceIndices
     simp only[show (1:Int) > 0 by decide,if_true,show ¬((j:Int) < 0) by omega,if_false]
     congr 1
     omega
   rw[e,sliceRange_one]
   rfl
 unfold Txt.slice
 rw[idx]
 split
 . rename_i h
   have hm:min j z.length=z.length:=by simpa using h
   rw[List.take_of_length_le]
   omega
 . rw[pick_run]
   show (z.cps.toList.drop 0).take (min j z.length)=_
   rw[List.drop_zero]
   by_cases hj:j<=z.length
   . rw[Nat.min_eq_left hj]
   . rw[Nat.min_eq_right (by omega),List.take_of_length_le (by omega),List.take_of_length_le (by omega)]
def x6 (n:Nat):List V:=(List.range n).map λi=>V.int (i:Nat)
def tLr (te:TE):TE:=λσ H Q=>te σ H λx H1=>∃n:Nat,x=.int n/\n<=1000/\∀l,H1 l=none->Q (.ref l) (upd H1 l (.lst (x6 n)))
theorem yg {n:Nat} {acc:Array Value} (h:ItemsOf (λi v=>∃t,v=.int (0+i*1) t) acc n):qL (x6 n) acc.toList:=by
 obtain⟨hz,hv⟩:=h
 refine VO _ _ (by simp [x6,hz]) λi x u h1 h2=>?_
 have h2':acc[i]?=some u:=by simpa using h2
 obtain⟨t,rfl⟩:=hv i u h2'
 have hi:i < n:=by
   have:=(Array.getElem?_eq_some_iff.mp h2').1
   omega
 unfold x6 at h1
 rw[List.getElem?_map,List.getElem?_range hi]at h1
 obtain rfl:=(Option.some.inj h1).symm
 refine⟨t,?_⟩
 congr 1
 omega
variable {e:Expr} {te:TE} {p1 p3 pos1 pos3:Pos}
theorem K3 (hc:X.calm=true) (g1:Gl X "list") (m1:X.mg "list"=none) (g3:Gl X "range") (m3:X.mg "range"=none) (ha:JE X e te) (hs:starEach [e] X.env=[(false,eval e X.env)]:=by rfl) (hs2:starEach [.Call (.Name "range" p3) [e] [] pos3] X.env=[(false,eval (.Call (.Name "range" p3) [e] [] pos3) X.env)]:=by rfl):JE X (.Call (.Name "list" p1) [.Call (.Name "range" p3) [e] [] pos3] [] pos1) (tLr te):=.of (by
 have ha:=ha.to
 intro pins s σ H Q I h
 refine Call_ (Qf I g1 m1 boot_list (PyProof.Rows.callWith_type1 (Wa hs2 ?_) (by rw[hs2];rfl) rfl))
 refine Call_ (Qf I g3 m3 boot_range (PyProof.Rows.callWith_type1 (Wa hs (ja (ha pins s σ H _ I h) λu s1 ⟨x,H1,I1,r1,q1⟩=>?_)) (by rw[hs];rfl) rfl))
 obtain⟨n,rfl,hn,q⟩:=q1
 obtain⟨t,rfl⟩:=r1
 refine call_range_1 ?_
 refine call_list_range (n:=n) (I1.ok.hd hc) (IsRange.new ..) (small_one (by omega) (by omega) (by omega) (by omega)) (W4 n) (by omega) λh' tk acc' c' kp e hi=>?_
 have s1z:s1.heap.objs.size<=(s1.heap.push ({cls:=.type "range",data:=.fields #[.int 0 s1.toks,.int n t,.int 1 (s1.toks+1)]}:Obj)).objs.size:=by
   rw[Heap.size_push]
   omega
 exact⟨.ref _,_,I1.laid (t':=tk) (o:=.lst (x6 n)) (λb o eb=>kp b o (Heap.get?_push_of_some _ eb)) s1z ⟨by simp only[x6,List.length_map,List.length_range];exact Nat.le_of_lt (qp hn),acc'.toList,c',yg hi,by simpa using e⟩,rfl,q _ (I1.hok.fresh s1z)⟩)
theorem Us (hc:X.calm=true):jn X (.type "set") (λxs H Q=>∃(p:Addr) (ns:List Int),xs=[.ref p]/\SqL X.K H p (ns.map V.int)/\ns.length<=1000/\∀l S,H l=none->Q (.ref l) (upd H l (.set S (firstMet (λi=>ns.getD i 0) ns.length).length))):=by
 intro pins s σ H xs us Q I r h
 obtain⟨p,ns,rfl,hq,hz,q⟩:=h
 obtain⟨u,rfl,ru⟩:=jW r
 cases ru
 obtain⟨its,rv,pl,_⟩:=I.list hq
 have hl:=rv.length
 rw[List.length_map]at hl
 have hsz:its.toArray.size=ns.length:=by rw[List.size_toArray,<-hl]
 refine call_set_list (ns:=ns) (I.ok.hd hc) pl.isList (by simpa using zy rv) (by rw[hsz];show ns.length+1 < 4096;omega) λh' tk so kp=>?_
 rw[hsz]at so
 exact⟨.ref s.heap.objs.size,_,I.laid (t':=tk) (o:=.set _ _) (λb o e=>kp b o (Heap.lt_size e) e) (Nat.le_refl _) so,rfl,q _ _ (I.hok.fresh (Nat.le_refl _))⟩
theorem XX:jn X (.builtin "len") (λxs H Q=>∃a S n,xs=[V.ref a]/\H a=some (.set S n)/\Q (.int (n:Nat)) H):=by
 intro pins s σ H xs us Q I r h
 obtain⟨a,S,n,rfl,ea,q⟩:=h
 obtain⟨u,rfl,ru⟩:=jW r
 cases ru
 obtain⟨o,es,ep,t,e1,e2,e3,_,_,b,f,rfl⟩:=(show qU X.prog X.w H s.heap a (.set S n) from I.hok a _ ea)
 refine call_len_set e1 e2 e3 f (by have:es.size < 4096:=b;omega) ⟨.int _,H,I.tok _,⟨_,rfl⟩,q⟩
end
end L2
set_option Elab.async false
set_option linter.all false
set_option maxRecDepth 100000
set_option maxHeartbeats 4000000
namespace L2
open PySem PySem.Spec PyProof.Rows
def Gu (K:PySem.W.Frag) (a:Addr):It:=⟨λi H=>∃xs x,SqL K H a xs/\xs[i]?=some x,
 λi H v H'=>∃p,H p=none/\v=.ref p/\∀xs x,SqL K H a xs->xs[i]?=some x->H'=upd H p (.tup [.int (i:Nat),x]),
 λi H=>∃xs,SqL K H a xs/\xs.length<=i⟩
theorem Vz {P:Program} {w:World} {K:PySem.W.Frag} {elts:List Expr} {x1:Nat} {tpos:Pos} (a e it:Addr) (hne:e≠it):
   X1 P w K (.Tuple elts x1 tpos) (Gu K a) [e,it] e (λi h=>(∃old,IsEnum h e it i old)/\h.IsListIter it a i) where
 mem:=by simp
 obj:=λi h st c hc=>by
   obtain⟨⟨old,he⟩,⟨o1,e1,c1,d1⟩⟩:=st
   simp only[List.mem_cons,List.mem_nil_iff,or_false]at hc
   rcases hc with rfl | rfl
   . exact⟨_,he,λv z=>by cases z⟩
   . exact⟨o1,e1,λv z=>by rw[d1]at z;cases z⟩
 keep:=λi h h' st k=>by
   obtain⟨⟨old,he⟩,h1⟩:=st
   exact⟨⟨old,k e (by simp) _ he⟩,h1.at λo e=>k it (by simp) o e⟩
 item:=by
   intro X hP hw hK hc i pins s σ H E I hf st hg
   subst hP hw hK
   obtain⟨⟨old,he⟩,h1⟩:=st
   obtain⟨xs,x,qa,hx⟩:=hg
   obtain⟨its,rv,p,_⟩:=I.list qa
   obtain⟨u,hu,ru⟩:=rv.get hx
   refine wpAny_pyNext_enum_item he h1 p.isList (x:=u) (by simpa using hu) hne λh' z1 z2 z3 z4 kk=>⟨_,rfl,?_⟩
   refine wpAny_letOwnedTupleGo_enum z1 λh'' z1' sb=>?_
   have nT:∀c o,s.heap.get? c=some o->s.heap.objs.size≠c:=λc o e=>Nat.ne_of_gt (Heap.lt_size e)
   have kT:∀c o,c≠e->h'.get? c=some o->h''.get? c=some o:=λc o hc e=>(sb.2 c hc).trans e
   have I1:qy X pins σ (upd H s.heap.objs.size (.tup [.int (i:Nat),x])) {s with heap:=h'',toks:=s.toks+1}:=I.turnLaid (L:=[e,it]) (t':=s.toks+1)
     (λc o hc e=>kT c o (λz=>hc (by simp [z])) (kk c o (λz=>hc (by simp [z])) (λz=>hc (by simp [z])) e)) hf (Nat.le_refl _)
     ⟨by show 2<=sizeLine;decide,[.int i s.toks,u],.cons ⟨_,rfl⟩ (.cons ru .nil),⟨_,kT _ _ (nT _ _ he) z3,rfl,_,rfl⟩⟩
   refine⟨.ref s.heap.objs.size,_,I1,rfl,⟨s.heap.objs.size,I.hok.fresh (Nat.le_refl _),rfl,λxs' x' qa' hx'=>?_⟩,⟨⟨_,z1'⟩,z2.at λo e=>kT _ o (Ne.symm hne) e⟩,λc hc=>?_⟩
   . rw[I.list_inj qa' qa,hx]at hx'
     cases hx'
     rfl
   . have h0:=(hf c hc).1
     by_cases ec:c=s.heap.objs.size
     . subst ec
       obtain⟨o1,e1,_⟩:=h1
       simp only[List.mem_cons,List.mem_nil_iff,or_false]at hc
       rcases hc with e | e
       . exact absurd e (nT _ _ he)
       . exact absurd e (nT _ _ e1)
     . rw[qk ec];exact h0
 done:=by
   intro X hP hw hK hc i pins s σ H E I hf st hg
   subst hP hw hK
   obtain⟨⟨old,he⟩,h1⟩:=st
   obtain⟨xs,qa,hl⟩:=hg
   obtain⟨its,rv,p,_⟩:=I.list qa
   have l1:=rv.length
   exact wpAny_pyNext_enum_end (I.ok.hd hc) he h1 p.isList (by simp;omega) λh' kk=>⟨rfl,I.turnedL (L:=[e,it]) (t':=s.toks) (λc o hc e=>kk c o (λz=>hc (by simp [z])) e) hf⟩
 self:=λ_ _ _ _ _ st h=>let ⟨⟨_,he⟩,_⟩:=st;wpAny_pyIter_enum he h
section
variable {X:Cx} {elts:List Expr} {x1:Nat} {tpos:Pos}
def Ga (K:PySem.W.Frag) (ta:TA):TI:=λσ H R=>ta σ H λvs H1=>∃a,vs=[.ref a]/\(∃xs,SqL K H1 a xs)/\R (Gu K a) H1
theorem xu {a:Expr} {ta:TA} {p pos:Pos} (hg:Gl X "enumerate") (hm:X.mg "enumerate"=none) (ha:JA X [a] ta) (hs:starEach [a] X.env=[(false,eval a X.env)]:=by rfl):JI X (.Tuple elts x1 tpos) (.Call (.Name "enumerate" p) [a] [] pos) (Ga X.K ta):=.of (by
 have ha:=ha.to
 intro pins s σ H R I h
 refine Call_ (Qf I hg hm boot_enumerate (PyProof.Rows.callWith_type1 (ja (ha pos pins s σ H _ I h) λus s1 ⟨vs,H1,I1,r1,q1⟩=>?_) (by rw[hs];rfl) rfl))
 obtain⟨l,e,⟨xs,qa⟩,q⟩:=q1
 subst e
 cases r1 with
 | cons r rr=>
   cases rr
   cases r
   obtain⟨its,rv,p,_⟩:=I1.list qa
   refine call_enumerate_list p.isList λh' z1 z2 z3 kk=>?_
   refine wpAny_pyIter_enum z1 ?_
   have I2:qy X pins σ H1 {s1 with heap:=h'}:=I1.kept (t':=s1.toks) kk
   have fr:∀c,s1.heap.objs.size<=c->JR X pins H1 c:=λc hc=>I1.fpOk hc (I1.hok.fresh hc)
   refine⟨s1.heap.objs.size+1,[s1.heap.objs.size+1,s1.heap.objs.size],_,_,H1,rfl,I2,Vz l (s1.heap.objs.size+1) s1.heap.objs.size (Nat.succ_ne_self _),⟨⟨_,z1⟩,z2⟩,λc hc=>?_,q⟩
   simp only[List.mem_cons,List.mem_nil_iff,or_false]at hc
   rcases hc with e | e<;>rw[e]<;>first | exact fr _ (Nat.le_add_right _ _) | exact fr _ (Nat.le_refl _))
end
theorem kH {K:PySem.W.Frag} {a:Addr} {xs:List V} {g:TG} {tb:TS} {D:QE} {σ:St} {H:Hp} (Pv:Nat->St->Hp->Prop) (h0:Pv 0 σ H) (hl:∀i σ H,i<=xs.length->Pv i σ H->SqL K H a xs)
   (hs:∀i x σ H p,xs[i]?=some x->H p=none->Pv i σ H->g (.ref p) σ (upd H p (.tup [.int (i:Nat),x])) λσ2 H2=>tb {D with nx:=Pv (i+1),ct:=Pv (i+1),bk:=D.nx} σ2 H2) (hd:∀σ H,Pv xs.length σ H->D.nx σ H):
   ∃W:Nat->Nat->St->Hp->Prop,(∃m,W 0 m σ H)/\∀i m σ H,W i m σ H->
    ((Gu K a).stop i H/\D.nx σ H)\/((Gu K a).go i H/\∃N:St->Hp->Prop,(∀σ' H',N σ' H'->∃m',m' < m/\W (i+1) m' σ' H')/\∀x H',(Gu K a).yld i H x H'->g x σ H' λσ2 H2=>tb {D with nx:=N,ct:=N,bk:=D.nx} σ2 H2):=by
 refine⟨λi m σ H=>m=xs.length - i/\i<=xs.length/\Pv i σ H,⟨xs.length,by simp,Nat.zero_le _,h0⟩,?_⟩
 rintro i m σ H ⟨rfl,hi,p⟩
 have qa:=hl i σ H hi p
 by_cases hlt:i < xs.length
 . have ex:xs[i]?=some xs[i]:=List.getElem?_eq_getElem hlt
   refine .inr ⟨⟨xs,_,qa,ex⟩,Pv (i+1),λσ' H' p'=>⟨xs.length - (i+1),by omega,rfl,hlt,p'⟩,λx H' yl=>?_⟩
   obtain⟨pp,hp,rfl,e⟩:=yl
   rw[e xs _ qa ex]
   exact hs i _ σ H pp ex hp p
 . have e:i=xs.length:=by omega
   subst e
   exact .inl ⟨⟨xs,qa,Nat.le_refl _⟩,hd σ H p⟩
theorem Jc (ns:List Nat):∀i,i<=ns.length->preSum (λj=>((ns.getD j 0:Nat):Int)) i=(((ns.take i).sum:Nat):Int)
 | 0,_=>by simp [preSum]
 | i+1,h=>by
   have hi:i < ns.length:=h
   show preSum _ i+_=_
   rw[Jc ns i (Nat.le_of_lt hi),List.take_add_one,List.getElem?_eq_getElem hi,List.sum_append]
   simp [List.getD_eq_getElem?_getD,List.getElem?_eq_getElem hi]
theorem Zz (ns:List Nat) (i:Nat):(ns.take i).sum<=ns.sum:=by
 have h:(ns.take i++ns.drop i).sum=ns.sum:=by rw[List.take_append_drop]
 rw[List.sum_append]at h
 omega
theorem XN (ns:List Nat) (i:Nat):ns.getD i 0<=ns.sum:=by
 have h:=Zz ns (i+1)
 rw[List.take_add_one,List.sum_append]at h
 rw[List.getD_eq_getElem?_getD]
 cases e:ns[i]? with
 | none=>exact Nat.zero_le _
 | some x=>
   rw[e]at h
   simp at h ⊢
   omega
section
variable {X:Cx}
theorem Ur (hc:X.calm=true):jn X (.builtin "sum") (λxs H Q=>∃(p:Addr) (ns:List Nat),xs=[.ref p]/\SqL X.K H p (ns.map λn=>V.int ((n:Nat):Int))/\ns.sum < 2^62/\Q (.int (ns.sum:Nat)) H):=by
 intro pins s σ H xs us Q I r h
 obtain⟨p,ns,rfl,hq,hs,q⟩:=h
 obtain⟨u,rfl,rx⟩:=jW r
 cases rx
 obtain⟨its,rv,pl,hz⟩:=I.list hq
 have hlt:p < s.heap.objs.size:=by
   obtain⟨o,n,e,_⟩:=pl
   exact Heap.lt_size e
 have hn:its.toArray.size=ns.length:=by
   have:=rv.length
   rw[List.length_map]at this
   simp only[List.size_toArray]
   omega
 have hh:X.A.in1.handled=none:=I.ok.hd hc
 refine call_sum_walk (wpAny_pyIter_list pl.isList ?_)
 refine⟨s.heap.objs.size,[s.heap.objs.size,p],[s.heap.objs.size],its.toArray.size,λi v=>its.toArray[i]?=some v,_,λj=>((ns.getD j 0:Nat):Int),rfl,Walks.list hh s.heap.objs.size p (Nat.ne_of_lt hlt) its.toArray,
   ⟨⟨_,Heap.get?_push_size _ rfl,rfl,rfl⟩,pl.isList.at λo e=>Heap.get?_push_of_some _ e⟩,?_,?_,?_,λh' tk t' hk=>?_⟩
 . intro b hb
   show b < (s.heap.push _).objs.size
   rw[Heap.size_push]
   simp only[List.mem_cons,List.mem_nil_iff,or_false]at hb
   rcases hb with e | e
   . rw[e];exact Nat.lt_succ_self _
   . rw[e];exact Nat.lt_succ_of_lt hlt
 . intro i v hP
   have hi:its[i]?=some v:=by simpa using hP
   cases e:ns[i]? with
   | none=>
     exfalso
     have h1:(ns.map λn=>V.int ((n:Nat):Int))[i]?=none:=by rw[List.getElem?_map,e];rfl
     rw[qL.none_of rv h1]at hi
     cases hi
   | some b=>
     have h1:(ns.map λn=>V.int ((n:Nat):Int))[i]?=some (V.int b):=by rw[List.getElem?_map,e];rfl
     obtain⟨u,hu,ru⟩:=rv.get h1
     rw[hi]at hu
     cases hu
     obtain⟨t,rfl⟩:=ru
     refine⟨t,?_⟩
     show Value.int b t=.int ((ns.getD i 0:Nat):Int) t
     rw[List.getD_eq_getElem?_getD,e]
     rfl
 . intro j hj
   rw[hn]at hj
   have h1:=XN ns j
   have h2:=Zz ns (j+1)
   have h3:=Jc ns (j+1) hj
   refine⟨⟨?_,?_⟩,⟨?_,?_⟩⟩
   . show -(2^63)<=((ns.getD j 0:Nat):Int)
     omega
   . show ((ns.getD j 0:Nat):Int) < 2^63
     omega
   . rw[h3];omega
   . rw[h3];omega
 . rw[hn,Jc ns _ (Nat.le_refl _),List.take_of_length_le (Nat.le_refl _)]
   refine⟨.int (ns.sum:Nat),H,?_,⟨_,rfl⟩,q⟩
   exact I.kept (h':=h') (t':=tk) λb o e=>hk b o (by
     intro z
     have z':b=s.heap.objs.size:=by simpa using z
     exact absurd (Heap.lt_size e) (by rw[z'];exact Nat.lt_irrefl _)) (Heap.get?_push_of_some _ e)
end
end L2
set_option Elab.async false
set_option linter.all false
set_option maxRecDepth 100000
set_option maxHeartbeats 4000000
namespace L2
open PySem PySem.Spec PyProof.Rows
section
variable {X:Cx} {pins:List (Addr×Obj)} {σ:St} {H:Hp} {s:Shared} {a b:Addr} {kvs more:List (qw×V)} {A:Around} {E:Value->Shared->Prop}
theorem kP {Q:Value->Shared->Prop} (I:qy X pins σ H s) (e:H a=some (.dK kvs)) (e2:H b=some (.dK more)) (hab:a≠b) (hz:kvs.length+more.length<=sizeLine) (h:∀s',qy X pins σ (upd H a (.dK (Qd kvs more))) s'->Q .none s'):
   wpAny (model X.prog X.w) A (call (.builtin "dict.update") [.ref a,.ref b]) Q E s:=by
 obtain⟨z,hd,vs,rel,dd⟩:=Yq I.hok e
 obtain⟨z2,hd2,vs2,rel2,dd2⟩:=Yq I.hok e2
 refine call_meetsIn PySem.F.slot_dict_update dd.typeIs PySem.F.entry_dict_update (PySem.F.args_dict_update_2 _ _) (meets_dict_update (qF X.prog X.w) a b hab hd2) ⟨vs,vs2,dd,dd2,by rw[<-rel.length,<-rel2.length];exact hz,λh' dd' _ hs=>h _ ?_⟩
 have he:∃q,h'.get? a=some q:=let ⟨q,_,_,hq,_⟩:=dd';⟨q,hq⟩
 exact QW (t':=s.toks) I (by rw[e];exact True.intro) hs he (zI (Nat.le_trans (QC more kvs) hz) hd (rel2.merge rel) dd')
end
def Kp (td ty:TE):TE:=λσ H Q=>td σ H λx H1=>∃a,x=.ref a/\Gv H1 a/\ty σ H1 λy H2=>∃b kvs more,y=.ref b/\H2 a=some (.dK kvs)/\H2 b=some (.dK more)/\a≠b/\kvs.length+more.length<=sizeLine/\Q .non (upd H2 a (.dK (Qd kvs more)))
section
variable {X:Cx} {o e:Expr} {apos cpos:Pos} {td ty:TE}
theorem xz (ho:JE X o td) (he:JE X e ty) (m:M1 X o "update" apos e cpos):JE X (.Call (.Attribute o "update" apos) [e] [] cpos) (Kp td ty):=.of (by
 have ho:=ho.to
 have he:=he.to
 intro pins s σ H Q I h
 refine wpAny_Call_method m.base m.few m.line PySem.F.plainAttrs_dict PySem.F.slot_dict_update PySem.F.type_dict_update (ja (ho pins s σ H _ I h) λu s1 ⟨x,H1,I1,rx,a,ex,d,q1⟩=>?_)
 subst ex
 obtain rfl:u=Value.ref a:=rx
 obtain⟨t1,t2,_⟩:=Wq I1 d
 refine⟨t1,t2,?_⟩
 rw[m.trees]
 refine Calls.callWith_builtin rfl (Calls.evalArgs_plain (Calls.spliced_cons (ja (he pins s1 σ H1 _ I1 q1) λiv s2 ⟨y,H2,I2,ry,b,kvs,more,ey,ea,eb,hab,hz,q2⟩=>Calls.spliced_nil ?_)))
 subst ey
 obtain rfl:iv=Value.ref b:=ry
 exact kP I2 ea eb hab hz λs3 I3=>⟨.non,_,I3,rfl,q2⟩)
end
theorem V6 {us:List Value} (h:us.length=0):us=[]:=List.eq_nil_of_length_eq_zero h
theorem xo {us:List Value} {n:Nat} (h:us.length=n+1):∃a r,us=a::r/\r.length=n:=by
 cases us with
 | nil=>cases h
 | cons a r=>exact⟨a,r,rfl,Nat.succ.inj h⟩
theorem JL {us:List Value} (h:us.length=1):∃a,us=[a]:=by
 obtain⟨a,r,rfl,h'⟩:=xo h
 exact⟨a,by rw[V6 h']⟩
theorem J9 {us:List Value} (h:us.length=2):∃a b,us=[a,b]:=by
 obtain⟨a,r,rfl,h'⟩:=xo h
 obtain⟨b,rfl⟩:=JL h'
 exact⟨a,b,rfl⟩
theorem V5 {us:List Value} (h:us.length=3):∃a b c,us=[a,b,c]:=by
 obtain⟨a,r,rfl,h'⟩:=xo h
 obtain⟨b,c,rfl⟩:=J9 h'
 exact⟨a,b,c,rfl⟩
theorem RJ {us:List Value} (h:us.length=4):∃a b c d,us=[a,b,c,d]:=by
 obtain⟨a,r,rfl,h'⟩:=xo h
 obtain⟨b,c,d,rfl⟩:=V5 h'
 exact⟨a,b,c,d,rfl⟩
end L2
set_option Elab.async false
set_option linter.all false
set_option maxRecDepth 100000
set_option maxHeartbeats 4000000
namespace L2
open PySem PySem.Spec PyProof.Rows
structure Fly (fs:List Addr) (ex:List Addr) (h h':Heap):Prop where
 keep:∀b o,b∉fs->b∉ex->h.get? b=some o->h'.get? b=some o
 slot:∀b o,b∈fs->b∉ex->h.get? b=some o->∃sl,h'.get? b=some {o with slots:=sl}
section
variable {M:Model} {A:Around} {E:Value->Shared->Prop} {s:Shared} {base:Heap} {env:Env} {outer:List Env} {L e:Addr} {cl head:Value} {d:Option Addr} {vs:Array Value} {had:Bool} {Q:Unit->Shared->Prop}
end
structure Track (ex:List Addr) (n:Nat) (H H':Hp):Prop where
 ext:∀b∈ex,∃φ,H b=some (.ext φ)
 same:∀b o,b∉ex->H b=some o->H' b=some o
 no:∀b,b < n->H b=none->H' b=none
section
variable {P:Program} {w:World} {fs ex:List Addr} {H H':Hp} {h h':Heap}
end
end L2
namespace L2
open PySem PySem.Spec PyProof.Rows
section
variable {X:Cx} {pins:List (Addr×Obj)} {σ:St} {H H':Hp} {s:Shared} {h':Heap} {ex:List Addr}
end
section
variable {P:Program} {w:World} {K:PySem.W.Frag} {mg:Str->Option Value} {base:Heap} {N:List Str} {qual:Str} {scope:Scope} {f:Addr} {cd:Value} {A:Around} {outer:List Env} {s₀:Shared} {H₀:Hp} {E:XK}
end
end L2
set_option Elab.async false
set_option linter.all false
set_option maxRecDepth 100000
set_option maxHeartbeats 4000000
namespace L2
open PySem PySem.Spec PyProof.Rows
section
variable {M:Model} {A:Around} {E:Value->Shared->Prop} {s:Shared} {env:Env} {C:Addr}
end
section
variable {X:Cx} {E:XK} {e:Expr} {te:TE} {pos:Pos}
end
end L2
set_option Elab.async false
set_option linter.all false
set_option maxRecDepth 100000
set_option maxHeartbeats 4000000
namespace L2
open PySem PySem.Spec PyProof.Rows
section
variable {M:Model} {A:Around} {E:Value->Shared->Prop}
end
end L2
set_option Elab.async false
set_option linter.all false
set_option maxRecDepth 100000
set_option maxHeartbeats 4000000
namespace L2
open PySem PySem.Spec PyProof.Rows
section
variable {X:Cx} {CX:Xg} {k:Nat} {f C:Addr} {fd:FuncData} {ps:List Str} {sp:Sp} {dvs:List V} {ds:List Value} {E:St->XK} {x m:Str} {p pos apos:Pos} {e o:Expr} {es:List Expr} {ta:TE} {t:TA}
end
end L2
set_option Elab.async false
set_option linter.all false
set_option maxRecDepth 100000
set_option maxHeartbeats 4000000
namespace L2
open PySem PySem.Spec PyProof.Rows
section
variable {X:Cx} {pins:List (Addr×Obj)} {σ:St} {H:Hp} {s:Shared} {E:Value->Shared->Prop} {a:Value}
end
section
variable {X:Cx} {f:Str} {e:Expr} {pos:Pos} {ta:TE} {bm:List Value}
end
end L2
set_option Elab.async false
set_option linter.all false
set_option maxRecDepth 100000
set_option maxHeartbeats 4000000
namespace PySem
open PySem.Spec
namespace F
end F
section
variable {prog:Program} {w:World} {A:Around} {R:Result->Shared->Prop} {I:Addr} {fp wr:List Addr} {n:Nat} {P:Nat->Value->Prop} {St:Nat->Heap->Prop} {κ:Type} [DecidableEq κ] {knd:KeyKind prog w κ}
end
section
variable {prog:Program} {w:World} {A:Around} {E:Value->Shared->Prop} {s:Shared} {κ:Type} [DecidableEq κ] {knd:KeyKind prog w κ}
end
end PySem
namespace L2
open PySem PySem.Spec PyProof.Rows
section
variable {X:Cx} {pins:List (Addr×Obj)} {σ:St} {H:Hp} {s:Shared}
end
end L2
set_option Elab.async false
set_option linter.all false
set_option maxRecDepth 100000
set_option maxHeartbeats 4000000
namespace L2
open PySem PySem.Spec PySem.W PyProof.Rows
theorem vP {α:Type} {l:List α} (nd:l.Nodup) {i j:Nat} {hi:i < l.length} {hj:j < l.length} (e:l[i]=l[j]):i=j:=by
 have h:=List.pairwise_iff_getElem.mp nd
 rcases Nat.lt_trichotomy i j with c | c | c
 . exact absurd e (h i j hi hj c)
 . exact c
 . exact absurd e.symm (h j i hj hi c)
section
variable {α β:Type} {lt:Nat->Nat->Bool} {n:Nat}
def evT (lt:Nat->Nat->Bool):KasT α->α
 | .ret a=>a
 | .ask i j k=>evT lt (k (lt i j))
end
def ltS (zs:List Str) (i j:Nat):Bool:=decide ((zs.getD i "").cps.toList < (zs.getD j "").cps.toList)
def srt (zs:List Str):List Nat:=if zs.length < 2 then List.range zs.length else (evT (ltS zs) (kas_sort zs.length)).toList
section
variable {P:Program} {w:World} {B:Around} {F:Value->Shared->Prop} {z:Shared}
end
section
variable {X:Cx} {o:Expr} {td:TE} {p1 p2 pos1 pos2 ap cp:Pos}
end
theorem Xb {f:Nat->Int} {bt:Nat->Nat->Bool} (hb:∀i j,bt i j=decide (f j < f i)):∀k,argBest bt k<=k/\∀i,i<=k->f i<=f (argBest bt k)
 | 0=>⟨Nat.le_refl _,λi hi=>by have:i=0:=by omega
                               subst this
                               exact Int.le_refl _⟩
 | k+1=>by
   obtain⟨h1,h2⟩:=Xb hb k
   unfold argBest
   rw[hb]
   by_cases c:f (argBest bt k) < f (k+1)
   . rw[if_pos (decide_eq_true c)]
     refine⟨Nat.le_refl _,λi hi=>?_⟩
     by_cases e:i=k+1
     . rw[e];exact Int.le_refl _
     . have:=h2 i (by omega)
       omega
   . rw[if_neg (by rw[decide_eq_false c];exact Bool.false_ne_true)]
     refine⟨by omega,λi hi=>?_⟩
     by_cases e:i=k+1
     . rw[e];omega
     . exact h2 i (by omega)
section
variable {X:Cx}
theorem Qm {pins:List (Addr×Obj)} {σ:St} {H:Hp} {s:Shared} {ns:List Int} {its:List Value} (rv:qL (ns.map V.int) its) {i:Nat} {v:Value} (h:its.toArray[i]?=some v):∃t,v=.int (ns.getD i 0) t:=by
 have hi:its[i]?=some v:=by simpa using h
 cases e:ns[i]? with
 | none=>
   exfalso
   have h1:(ns.map V.int)[i]?=none:=by rw[List.getElem?_map,e];rfl
   rw[qL.none_of rv h1]at hi
   cases hi
 | some b=>
   have h1:(ns.map V.int)[i]?=some (V.int b):=by rw[List.getElem?_map,e];rfl
   obtain⟨u,hu,ru⟩:=rv.get h1
   rw[hi]at hu
   cases hu
   obtain⟨t,rfl⟩:=ru
   exact⟨t,by rw[List.getD_eq_getElem?_getD,e];rfl⟩
def KD (K:PySem.W.Frag):List V->Hp->VK->Prop:=λxs H Q=>∃(p:Addr) (ns:List Int),xs=[.ref p]/\SqL K H p (ns.map V.int)/\0 < ns.length/\∀m,m∈ns->(∀x∈ns,m<=x)->Q (.int m) H
theorem Vd {ns:List Int} {i:Nat} (h:i < ns.length):ns.getD i 0∈ns:=by
 rw[List.getD_eq_getElem?_getD,List.getElem?_eq_getElem h]
 exact List.getElem_mem h
theorem Vb {ns:List Int} {x:Int} (h:x∈ns):∃i,i < ns.length/\ns.getD i 0=x:=by
 obtain⟨i,hi,e⟩:=List.getElem_of_mem h
 exact⟨i,hi,by rw[List.getD_eq_getElem?_getD,List.getElem?_eq_getElem hi];exact e⟩
theorem Ut (hc:X.calm=true):jn X (.builtin "min") (KD X.K):=by
 intro pins s σ H xs us Q I r h
 obtain⟨p,ns,rfl,hq,hs,q⟩:=h
 obtain⟨u,rfl,rx⟩:=jW r
 cases rx
 obtain⟨its,rv,pl,hz⟩:=I.list hq
 have hlt:p < s.heap.objs.size:=by
   obtain⟨o,n,e,_⟩:=pl
   exact Heap.lt_size e
 have hn:its.toArray.size=ns.length:=by
   have:=rv.length
   rw[List.length_map]at this
   simp only[List.size_toArray]
   omega
 have hh:X.A.in1.handled=none:=I.ok.hd hc
 refine call_min_walk (wpAny_pyIter_list pl.isList ?_)
 refine⟨s.heap.objs.size,[s.heap.objs.size,p],[s.heap.objs.size],its.toArray.size,λi v=>its.toArray[i]?=some v,_,λi j=>decide (ns.getD i 0 < ns.getD j 0),rfl,Walks.list hh s.heap.objs.size p (Nat.ne_of_lt hlt) its.toArray,
   ⟨⟨_,Heap.get?_push_size _ rfl,rfl,rfl⟩,pl.isList.at λo e=>Heap.get?_push_of_some _ e⟩,?_,by omega,?_,λv h' tk hv hk=>?_⟩
 . intro b hb
   show b < (s.heap.push _).objs.size
   rw[Heap.size_push]
   simp only[List.mem_cons,List.mem_nil_iff,or_false]at hb
   rcases hb with e | e
   . rw[e];exact Nat.lt_succ_self _
   . rw[e];exact Nat.lt_succ_of_lt hlt
 . intro i j vi vj s' Q' E' hi hj hQ
   obtain⟨t,rfl⟩:=Qm (pins:=pins) (σ:=σ) (H:=H) (s:=s) rv hi
   obtain⟨t',rfl⟩:=Qm (pins:=pins) (σ:=σ) (H:=H) (s:=s) rv hj
   exact PyProof.Rows.lt_int hQ
 . obtain⟨t,rfl⟩:=Qm (pins:=pins) (σ:=σ) (H:=H) (s:=s) rv hv
   rw[hn]
   obtain⟨b1,b2⟩:=Xb (f:=λi=>-ns.getD i 0) (bt:=λi j=>decide (ns.getD i 0 < ns.getD j 0)) (λi j=>by congr 1;exact propext ⟨λh=>by omega,λh=>by omega⟩) (ns.length - 1)
   refine⟨.int _,H,?_,⟨_,rfl⟩,q _ (Vd (by omega)) λx hx=>?_⟩
   . exact I.kept (h':=h') (t':=tk) λb o e=>hk b o (by
       intro z
       have z':b=s.heap.objs.size:=by simpa using z
       exact absurd (Heap.lt_size e) (by rw[z'];exact Nat.lt_irrefl _)) (Heap.get?_push_of_some _ e)
   . obtain⟨i,hi,rfl⟩:=Vb hx
     have:=b2 i (by omega)
     omega
def KI (K:PySem.W.Frag):R2:=λx y H Q=>∃a b xs ys,x=.ref a/\y=.ref b/\SqL K H a xs/\SqL K H b ys/\xs.length+ys.length<=sizeLine/\∀l,H l=none->Q (.ref l) (upd H l (.lst (xs++ys)))
theorem Paired.app {α β:Type} {G:α->β->Prop}:∀{l m:List α} {l' m':List β},Paired G l l'->Paired G m m'->Paired G (l++m) (l'++m')
 | _,_,_,_,.nil,h=>h
 | _,_,_,_,.cons a r,h=>.cons a (Paired.app r h)
theorem Jn:QM X (binaryOp .Add) (KI X.K):=by
 intro pins s σ H x y v u Q I rx ry h
 obtain⟨a,b,xs,ys,rfl,rfl,ha,hb,hz,q⟩:=h
 cases rx
 cases ry
 obtain⟨its,rv,pl,_⟩:=I.list ha
 obtain⟨its2,rv2,pl2,_⟩:=I.list hb
 have l1:=rv.length
 have l2:=rv2.length
 obtain⟨⟨cls,dd,data,sl⟩,ho,hc,n,hd⟩:=id pl.isList
 obtain⟨⟨cls2,dd2,data2,sl2⟩,ho2,hc2,n2,hd2⟩:=id pl2.isList
 simp only at hc hd hc2 hd2
 subst hc hd hc2 hd2
 have e:its.toArray++its2.toArray=(its++its2).toArray:=by simp
 refine concat_meets ⟨_,ho,rfl⟩ ⟨_,ho2,rfl⟩ noFill_list_add seq_list_add PySem.F.slot_list_add PySem.F.entry_list_add (PySem.F.args_list_add_2 _ _) (list_addW a b its.toArray its2.toArray n n2 dd dd2 sl sl2 (by simp only[List.size_toArray];omega)) ⟨ho,ho2,?_⟩
 rw[e]
 exact⟨.ref s.heap.objs.size,_,I.laid (t':=s.toks) (o:=.lst (xs++ys)) (λb u h=>Heap.get?_push_of_some _ h) (Nat.le_refl _) ⟨by rw[List.length_append];exact hz,its++its2,_,Paired.app rv rv2,Heap.get?_push_size _ rfl⟩,rfl,q _ (I.hok.fresh (Nat.le_refl _))⟩
end
end L2
set_option Elab.async false
set_option linter.all false
set_option maxRecDepth 100000
set_option maxHeartbeats 4000000
namespace L2
open PySem PySem.Spec PySem.W PyProof.Rows
section
variable {X:Cx}
end
end L2
set_option Elab.async false
set_option linter.all false
set_option maxRecDepth 100000
set_option maxHeartbeats 4000000
namespace L2
open PySem PySem.Spec PySem.W PyProof.Rows
section
variable {P:Program} {w:World} {B:Around} {F:Value->Shared->Prop} {z:Shared}
end
section
variable {X:Cx}
end
end L2
set_option Elab.async false
set_option linter.all false
set_option maxRecDepth 100000
set_option maxHeartbeats 4000000
namespace L2
open PySem PySem.Spec PySem.W PyProof.Rows
section
variable {prog:Program} {w:World} {A:Around} {R:Result->Shared->Prop} {I:Addr} {fp wr:List Addr} {G:Array GenState->Array GenState->Prop} {n:Nat} {P:Nat->Value->Prop} {St:Nat->Shared->Prop}
end
section
variable {prog:Program} {w:World} {A:Around} {E:Value->Shared->Prop} {s:Shared}
end
section
variable {X:Cx} {e:Expr} {te:TE} {p1 p2 pos1 pos2:Pos}
end
end L2
set_option Elab.async false
set_option linter.all false
set_option maxRecDepth 100000
set_option maxHeartbeats 4000000
namespace L2
open PySem PyProof.Rows
theorem QZ {α:Type} {K:PySem.W.Frag} {a D:Addr} {xs:List α} {enc:α->V} {out:α->Option V} {rest:St} {H:Hp} {tt:TT} {te:TE} {Q:Hp->Prop} (hD:H D=none) (ha:H a=some (.lst (xs.map enc))) (len:xs.length < sizeLine)
   (ht:∀x∈xs,∀G,qu H G->∀R:Bool->Hp->Prop,(∀G',qu G G'->R (out x).isSome G')->tt (some (enc x)::rest) G R)
   (he:∀x∈xs,∀v,out x=some v->∀G,qu H G->∀R:V->Hp->Prop,(∀G',qu G G'->R v G')->te (some (enc x)::rest) G R)
   (k:∀G,qu H G->G D=some (.lst (xs.filterMap out))->Q G):ZI (xW K a) (j9 0) tt te D (none::rest) H Q:=by
 have sD:qu H (upd H D (.lst [])):=λb o h=>by
   rw[qk (λe=>by rw[e,hD]at h;cases h)]
   exact h
 refine Qb (K:=K) (a:=a) (xs:=xs.map enc) (λi σ' G=>(∃v0,σ'=v0::rest)/\qu H G/\G D=some (.lst ((xs.take i).filterMap out))) ⟨⟨none,rfl⟩,sD,qd⟩ (λi σ' G _ ⟨_,s,_⟩=>.of (s _ _ ha)) ?_ ?_
 . rintro i y σ' G hy ⟨⟨v0,rfl⟩,s,hG⟩
   rw[List.getElem?_map]at hy
   cases ex:xs[i]? with
   | none=>rw[ex]at hy;cases hy
   | some x=>
     rw[ex]at hy
     obtain rfl:=(Option.some.inj hy).symm
     have hx:x∈xs:=List.mem_of_getElem? ex
     have et:(xs.take (i+1)).filterMap out=(xs.take i).filterMap out++(out x).toList:=by
       rw[List.take_add_one,ex,List.filterMap_append]
       cases c:out x<;>simp [c]
     show tt (some (enc x)::rest) G _
     refine ht x hx G s _ λG1 s1=>?_
     cases c:out x with
     | none=>
       show if false=true then _ else _
       rw[if_neg Bool.false_ne_true]
       refine⟨⟨_,rfl⟩,λb o h=>s1 _ _ (s _ _ h),?_⟩
       rw[et,c]
       simpa using s1 _ _ hG
     | some v=>
       show if true=true then _ else _
       rw[if_pos rfl]
       refine he x hx v c G1 (λb o h=>s1 _ _ (s _ _ h)) _ λG2 s2=>?_
       refine⟨_,s2 _ _ (s1 _ _ hG),?_,⟨_,rfl⟩,?_,?_⟩
       . refine Nat.lt_of_le_of_lt (List.length_filterMap_le _ _) ?_
         rw[List.length_take]
         omega
       . intro b o h
         rw[qk (λe=>by rw[e,hD]at h;cases h)]
         exact s2 _ _ (s1 _ _ (s _ _ h))
       . rw[et,c]
         exact qd
 . rintro σ' G ⟨_,s,hG⟩
   rw[List.length_map,List.take_of_length_le (Nat.le_refl _)]at hG
   exact k G s hG
theorem xP {α:Type} {K:PySem.W.Frag} {a D:Addr} {xs:List α} {enc:α->V} {out:α->Option V} {rest:St} {H:Hp} {tt:TT} {te:TE} {Q:Hp->Prop} (hD:H D=none) (ha:H a=some (.tup (xs.map enc))) (len:xs.length < sizeLine)
   (ht:∀x∈xs,∀G,qu H G->∀R:Bool->Hp->Prop,(∀G',qu G G'->R (out x).isSome G')->tt (some (enc x)::rest) G R)
   (he:∀x∈xs,∀v,out x=some v->∀G,qu H G->∀R:V->Hp->Prop,(∀G',qu G G'->R v G')->te (some (enc x)::rest) G R)
   (k:∀G,qu H G->G D=some (.lst (xs.filterMap out))->Q G):ZI (u1 K a) (j9 0) tt te D (none::rest) H Q:=by
 have sD:qu H (upd H D (.lst [])):=λb o h=>by
   rw[qk (λe=>by rw[e,hD]at h;cases h)]
   exact h
 refine Vq (K:=K) (a:=a) (xs:=xs.map enc) (λi σ' G=>(∃v0,σ'=v0::rest)/\qu H G/\G D=some (.lst ((xs.take i).filterMap out))) ⟨⟨none,rfl⟩,sD,qd⟩ (λi σ' G _ ⟨_,s,_⟩=>.of (s _ _ ha)) ?_ ?_
 . rintro i y σ' G hy ⟨⟨v0,rfl⟩,s,hG⟩
   rw[List.getElem?_map]at hy
   cases ex:xs[i]? with
   | none=>rw[ex]at hy;cases hy
   | some x=>
     rw[ex]at hy
     obtain rfl:=(Option.some.inj hy).symm
     have hx:x∈xs:=List.mem_of_getElem? ex
     have et:(xs.take (i+1)).filterMap out=(xs.take i).filterMap out++(out x).toList:=by
       rw[List.take_add_one,ex,List.filterMap_append]
       cases c:out x<;>simp [c]
     show tt (some (enc x)::rest) G _
     refine ht x hx G s _ λG1 s1=>?_
     cases c:out x with
     | none=>
       show if false=true then _ else _
       rw[if_neg Bool.false_ne_true]
       refine⟨⟨_,rfl⟩,λb o h=>s1 _ _ (s _ _ h),?_⟩
       rw[et,c]
       simpa using s1 _ _ hG
     | some v=>
       show if true=true then _ else _
       rw[if_pos rfl]
       refine he x hx v c G1 (λb o h=>s1 _ _ (s _ _ h)) _ λG2 s2=>?_
       refine⟨_,s2 _ _ (s1 _ _ hG),?_,⟨_,rfl⟩,?_,?_⟩
       . refine Nat.lt_of_le_of_lt (List.length_filterMap_le _ _) ?_
         rw[List.length_take]
         omega
       . intro b o h
         rw[qk (λe=>by rw[e,hD]at h;cases h)]
         exact s2 _ _ (s1 _ _ (s _ _ h))
       . rw[et,c]
         exact qd
 . rintro σ' G ⟨_,s,hG⟩
   rw[List.length_map,List.take_of_length_le (Nat.le_refl _)]at hG
   exact k G s hG
end L2
set_option Elab.async false
set_option linter.all false
set_option maxRecDepth 100000
set_option maxHeartbeats 4000000
namespace L2
open PySem PyProof.Rows
section
variable {prog:Program} {w:World} {KK:Type} [DecidableEq KK] {kd:HeapKind prog w KK} {A:Around} {E:Value->Shared->Prop} {s:Shared}
end
section
variable {X:Cx} {pins:List (Addr×Obj)} {σ:St} {H:Hp} {s:Shared} {a b:Addr} {v:V} {r:Value} {A:Around} {E:Value->Shared->Prop}
end
section
variable {X:Cx} {o e f:Expr} {apos cpos:Pos} {td ty tx:TE}
end
end L2
set_option Elab.async false
set_option linter.all false
set_option maxRecDepth 100000
set_option maxHeartbeats 4000000
namespace L2
open PySem PyProof.Rows
section
variable {X:Cx}
end
end L2
set_option Elab.async false
set_option linter.all false
set_option maxRecDepth 100000
set_option maxHeartbeats 4000000
namespace L2
open PySem PySem.Spec PyProof.Rows
section
variable {X:Cx} {pins:List (Addr×Obj)} {σ:St} {H:Hp} {s:Shared} {tg:Expr}
def xM (o:Obj):Nat:=match o.data with
 | .dict _ ep=>ep
 | _=>0
theorem qy.freeze {a:Addr} {kvs:List (qw×V)} (I:qy X pins σ H s) (e:H a=some (.dK kvs)):∃o,qy X pins σ (upd H a (.frz o (.dK kvs))) s:=by
 obtain⟨z,hd,vs,rel,o,es,ep,ho,r⟩:=(show qU X.prog X.w H s.heap a (.dK kvs) from I.hok a _ e)
 have mu:Ka (H a):=by rw[e];exact True.intro
 have un:Un X.fs [] H (upd H a (.frz o (.dK kvs))) s.heap s.heap:=Un.write mu (.inl rfl) (λb u _ q=>q) ⟨o,ho⟩
 have ok:Jx X.prog X.w (upd H a (.frz o (.dK kvs))) s.heap:=I.hok.write mu (.inl rfl) (λb u _ q=>q) ⟨o,ho⟩ ⟨ho,z,hd,vs,rel,o,es,ep,ho,r⟩
 exact⟨o,I.un (t':=s.toks) un ok⟩
end
section
variable {a:Addr} {o:Obj} {kvs:List (qw×V)} {zs:List Str} {g:TG} {σ:St} {H:Hp}
end
end L2
set_option Elab.async false
set_option linter.all false
set_option maxRecDepth 100000
set_option maxHeartbeats 4000000
namespace L2
open PySem PySem.Spec PyProof.Rows
section
variable {P:Program} {w:World} {K:PySem.W.Frag} {mg:Str->Option Value} {base:Heap}
end
def UH (t:TA):TE:=λσ H Q=>t σ H λxs H1=>xs.length<=sizeLine/\∀p,H1 p=none->p≠sysModules->Q (.ref p) (upd H1 p (.lst xs))
section
variable {X:Cx} {es:List Expr} {t:TA} {pos:Pos}
theorem YX (h:JA X es t):JE X (.List es pos) (UH t):=.of (by
 have h:=h.to
 intro pins s σ H Q I hq
 refine wpAny_List_spliced (ja (h pos pins s σ H _ I hq) λus s1 ⟨xs,H1,I1,r,z,q⟩=>⟨by rw[<-r.length];exact z,?_⟩)
 have hf:H1 s1.heap.objs.size=none:=I1.hok.fresh (Nat.le_refl _)
 refine⟨.ref s1.heap.objs.size,upd H1 s1.heap.objs.size (.lst xs),I1.laid (t':=s1.toks) (λb u e=>Heap.get?_push_of_some _ e) (Nat.le_refl _) ?_,rfl,q _ hf (Ne.symm (Nat.ne_of_lt I1.big))⟩
 exact⟨z,us,0,r,Heap.get?_push_size _ rfl⟩)
end
end L2
set_option Elab.async false
set_option linter.all false
set_option maxRecDepth 100000
set_option maxHeartbeats 4000000
namespace L2
open PySem PySem.Spec PyProof.Rows
section
variable {X:Cx}
def Rw (K:PySem.W.Frag) (neg:Bool):R2:=λx y H Q=>∃d ds,DV K H x d/\DV K H y (.list ds)/\d.canLay0=true/\PyData.canLayAll0 ds=true/\d.depth<=40/\Q (.bl (if neg then !(ds.any λz=>PyData.eqv z d) else ds.any λz=>PyData.eqv z d)) H
theorem um (hu:X.A.units+64 < cLine):QM X (compareOp .In) (Rw X.K false):=by
 intro pins s σ H x y v u Q I rx ry h
 obtain⟨d,ds,h1,h2,c1,c2,dp,q⟩:=h
 obtain⟨as,ra⟩:=h1.reads I rx
 obtain⟨bs,rb⟩:=h2.reads I ry
 refine SeqAt.in_list_reads rb ra c2 c1 ?_ ⟨.bl _,H,I,rfl,q⟩
 have:=Nat.min_le_right (PyData.depthAll ds) d.depth
 omega
end
end L2
namespace L2
open PySem PySem.Spec PyProof.Rows
end L2
set_option Elab.async false
set_option linter.all false
set_option maxRecDepth 100000
set_option maxHeartbeats 4000000
namespace L2
open PySem PySem.Spec PyProof.Rows
section
variable {X:Cx} {pins pins0:List (Addr×Obj)} {σ σ0:St} {H H0:Hp} {s s0:Shared}
end
section
variable {X:Cx}
def KC (K:PySem.W.Frag):R2:=λx y H Q=>∃(a b:Addr) (kvs kws:List (qw×V)),x=.ref a/\y=.ref b/\Rd H a (.dK kvs)/\Rd H b (.dK kws)/\kvs.length=kws.length/\(∀p∈kvs,∃u d,qD kws p.1=some u/\DV K H p.2 d/\DV K H u d/\PySem.SeqAt.shaped d=true)/\Q (.bl false) H
theorem wq {P:Program} {w:World} {H:Hp} {h:Heap} {a:Addr} {kvs:List (qw×V)} (ok:Jx P w H h) (e:Rd H a (.dK kvs)):(a==sysModules)=false/\∃vs,KV kvs vs/\h.DictOf (qF P w) a vs:=by
 obtain⟨_,hd,vs,rel,d⟩:=e.ok ok
 exact⟨hd,vs,rel,d⟩
theorem yN (hu:X.A.units+70 < cLine):QM X (compareOp .NotEq) (KC X.K):=by
 intro pins s σ H x y v u Q I rx ry h
 obtain⟨a,b,kvs,kws,rfl,rfl,ea,eb,len,all,q⟩:=h
 cases rx
 cases ry
 obtain⟨hda,va,ra,da⟩:=wq I.hok ea
 obtain⟨hdb,vb,rb,db⟩:=wq I.hok eb
 have la:=Paired.length ra
 have lb:=Paired.length rb
 have hits:∀(l:List (qw×V)) (m:List (qw×Value)),KV l m->(∀p∈l,p∈kvs)->PySem.W.KeqHits X.A.in1 s vb m true:=by
   intro l m r
   induction r with
   | nil=>intro _;exact .nil
   | @cons p p' l m r1 r2 ih=>
     intro hin
     obtain⟨w1,d,e1,d1,d2,sh⟩:=all p (hin p (List.mem_cons_self ..))
     have rel:=rb.val p.1
     rw[e1]at rel
     obtain⟨k,y⟩:=p'
     obtain⟨ek,rv⟩:=r1
     cases hv:valueAt vb p.1 with
     | none=>rw[hv]at rel;exact rel.elim
     | some y'=>
       rw[hv]at rel
       obtain⟨as,r3⟩:=d1.reads I rv
       obtain⟨bs,r4⟩:=d2.reads I rel
       have e2:=PySem.W.keq_at (A:=X.A) (s:=s) r3 r4 sh sh (by show X.A.units+1+64 < cLine;omega)
       rw[Wv sh]at e2
       have:=PySem.W.KeqHits.hit (A:=X.A.in1) (s:=s) (kb:=vb) (k:=k) (v:=y) (r:=m) (e:=true) (b:=true) (by have ek':p.1=k:=ek;rw[<-ek'];exact hv) e2 (ih λp hp=>hin p (List.mem_cons_of_mem _ hp))
       exact this
 refine PySem.W.keq_ne (r:=true) hda hdb da db (by omega) (λ_=>hits kvs va ra λ_ h=>h) ⟨.bl _,H,I,?_,q⟩
 show Value.bool _=Value.bool _
 rw[<-la,<-lb,len]
 simp
end
end L2
namespace L2
open PySem PyProof.Rows
end L2
set_option Elab.async false
set_option linter.all false
set_option maxRecDepth 100000
set_option maxHeartbeats 4000000
namespace HT
open PySem PySem.Spec PyProof.Rows
section
variable {prog:Program} {w:World} {A:Around} {E:Value->Shared->Prop} {s:Shared}
end
end HT
namespace L2
open PySem PySem.Spec PyProof.Rows
section
variable {X:Cx}
end
end L2
namespace L2
open PySem PyProof.Rows
end L2
set_option Elab.async false
set_option linter.all false
set_option maxRecDepth 100000
set_option maxHeartbeats 4000000
namespace L2
open PySem PySem.Spec PyProof.Rows
section
variable {X:Cx} {CX:Xg} {C:Addr->Sp->Prop} {E:St->XK} {x:Str} {p pos:Pos} {e:Expr} {es:List Expr} {t:TA} {i:Nat}
end
end L2
set_option Elab.async false
set_option linter.all false
set_option maxRecDepth 100000
set_option maxHeartbeats 4000000
namespace L2
open PySem PySem.Spec PyProof.Rows
section
variable {M:Model} {A:Around} {F:Value->Shared->Prop} {s:Shared} {e:Addr} {cl:Value} {d:Option Addr} {vs:Array Value} {Q:Unit->Shared->Prop}
end
section
variable {X:Cx} {pins:List (Addr×Obj)} {σ:St} {H:Hp} {s:Shared} {M:Model} {F:Value->Shared->Prop} {Q:Unit->Shared->Prop} {a C dx:Addr}
end
section
variable {P:Program} {w:World} {K:PySem.W.Frag} {mg:Str->Option Value} {base:Heap} {N:List Str} {qual:Str} {scope:Scope} {f:Addr} {cd:Value} {A:Around} {outer:List Env} {s₀:Shared} {H₀:Hp} {E:XK}
end
end L2
set_option Elab.async false
set_option linter.all false
set_option maxRecDepth 100000
set_option maxHeartbeats 4000000
namespace L2
open PySem PySem.Spec PyProof.Rows
section
variable {X:Cx}
end
end L2
set_option Elab.async false
set_option linter.all false
set_option maxRecDepth 100000
set_option maxHeartbeats 4000000
namespace L2
open PySem PySem.Spec PyProof.Rows
def Gn:Obj:={cls:=.type "cell",data:=.cell none}
structure OwnC (n:Nat) (l:List (Str×NameKind)) (cs cs':List (Str×Addr)) (h h':Heap):Prop where
 kp:∀b o,h.get? b=some o->h'.get? b=some o
 same:∀x,(x,NameKind.cell)∉l->cs'.lookup x=cs.lookup x
 own:∀x,(x,NameKind.cell)∈l->∃c,cs'.lookup x=some c/\n<=c/\h'.get? c=some Gn
 inj:∀x y c,(x,NameKind.cell)∈l->(y,NameKind.cell)∈l->cs'.lookup x=some c->cs'.lookup y=some c->x=y
structure R1 (X:Cx) (N':List Str) (ix:List (Option Nat)) (scope:Scope):Prop where
 kind:scope.kind=.function
 nd:(scope.names.map (·.1)).Nodup
 frees:(scope.names.all λx=>x.2 != .free || (X.env.scope.names.lookup x.1==some .cell || X.env.scope.names.lookup x.1==some .free))=true
 ixs:xB N' X.N scope X.env.scope ix=true
section
variable {X:Cx} {N':List Str} {ix:List (Option Nat)} {scope:Scope} {pins:List (Addr×Obj)} {σ:St} {H:Hp} {s:Shared}
end
section
variable {X:Cx} {N':List Str} {ix:List (Option Nat)} {scope:Scope}
end
end L2
set_option Elab.async false
set_option linter.all false
set_option maxRecDepth 100000
set_option maxHeartbeats 4000000
namespace L2
open PySem PySem.Spec PyProof.Rows
section
variable {X:Cx} {CX:Xg} {k:Nat} {f C:Addr} {fd:FuncData} {ps:List Str} {sp:Sp} {dvs:List V} {ds:List Value} {E:St->XK} {m:Str} {pos apos:Pos} {e o:Expr} {es:List Expr} {ta:TE} {t:TA}
end
end L2
set_option Elab.async false
set_option linter.all false
set_option maxRecDepth 100000
set_option maxHeartbeats 4000000
namespace L2
open PySem PySem.Spec PyProof.Rows
section
variable {X:Cx}
end
end L2
set_option Elab.async false
set_option linter.all false
set_option maxRecDepth 100000
set_option maxHeartbeats 4000000
namespace L2
open PySem PySem.Spec PyProof.Rows PySem.W
section
variable {X:Cx}
end
end L2
set_option Elab.async false
set_option linter.all false
set_option maxRecDepth 100000
set_option maxHeartbeats 4000000
namespace L2
open PySem PySem.Spec PyProof.Rows
section
variable {P:Program} {w:World} {K:PySem.W.Frag} {mg:Str->Option Value} {base:Heap} {CX:Xg} {k:Nat} {f:Addr} {fd:FuncData} {ps:List Str} {sp sp':Sp}
end
end L2
set_option Elab.async false
set_option linter.all false
set_option maxRecDepth 100000
set_option maxHeartbeats 4000000
namespace L2
open PySem PySem.Spec PyProof.Rows PySem.W
section
variable {X:Cx}
def ue:List V->Hp->VK->Prop:=λxs H Q=>∃(a:Addr) (kvs:List (qw×V)),xs=[.ref a]/\Rd H a (.dK kvs)/\∀p,H p=none->Q (.ref p) (upd H p (.dK kvs))
theorem Wz:jn X (.type "dict") ue:=by
 intro pins s σ H xs us Q I r h
 obtain⟨a,kvs,rfl,ea,q⟩:=h
 obtain⟨u,rfl,ru⟩:=jW r
 cases ru
 exact kQ I ea λp s' hp I'=>⟨.ref p,_,I',rfl,q p hp⟩
end
end L2
set_option Elab.async false
set_option linter.all false
set_option maxRecDepth 100000
set_option maxHeartbeats 4000000
namespace L2
open PySem PySem.Spec PyProof.Rows
def RawD (h:Heap) (d:Addr) (es:Array DictEntry) (ep:Nat):Prop:=∃o,h.get? d=some o/\o.ExactDict/\o.data=.dict es ep
section
variable {prog:Program} {w:World} {A:Around} {E:Value->Shared->Prop} {s:Shared} {it d:Addr} {es:Array DictEntry} {i ep:Nat}
end
end L2
set_option Elab.async false
set_option linter.all false
set_option maxRecDepth 100000
set_option maxHeartbeats 4000000
namespace L2
open PySem PySem.Spec PyProof.Rows
section
variable {X:Cx} {pins:List (Addr×Obj)} {σ:St} {H:Hp} {s:Shared} {tg:Expr}
end
section
variable {a:Addr} {o:Obj} {u:HO} {g:TG} {σ:St} {H:Hp}
end
end L2
set_option Elab.async false
set_option linter.all false
set_option maxRecDepth 100000
set_option maxHeartbeats 4000000
namespace L2
open PySem PySem.Spec PyProof.Rows PySem.W
section
variable {X:Cx}
end
end L2
set_option Elab.async false
set_option linter.all false
set_option maxRecDepth 100000
set_option maxHeartbeats 4000000
namespace L2
open PySem PySem.Spec PyProof.Rows
section
variable {prog:Program} {w:World} {KK:Type} [DecidableEq KK] {kd:HeapKind prog w KK} {A:Around} {E:Value->Shared->Prop} {s:Shared}
end
section
variable {X:Cx}
end
end L2
set_option Elab.async false
set_option linter.all false
set_option maxRecDepth 100000
set_option maxHeartbeats 4000000
namespace L2
open PySem PySem.Spec PyProof.Rows
structure FnLd (P:Program) (w:World) (K:PySem.W.Frag) (mg:Str->Option Value) (base:Heap) (k:Nat) (f:Addr) (fd:FuncData) (ps:List Str) (sp:Sp):Prop where
 len:∀vs H Q E,sp vs H Q E->vs.length=ps.length
 run:∀(A:Around) (a:Value) (outer:List Env) (s:Shared) (H:Hp) (args:Args) (us:List Value) (vs:List V) (Q:VK) (E:XK),jq k A->X3 P w K mg base (A.mark (some a)) outer s H->BindsTo s fd args (ps.zip us)->qL vs us->sp vs H Q E->
   codeAny (model P w) (A.mark (some a)) (.call (.ref f) args) (CR ji outer P w H s Q E) s
section
variable {P:Program} {w:World} {K:PySem.W.Frag} {mg:Str->Option Value} {base:Heap}
end
section
variable {X:Cx} {k:Nat} {f:Addr} {fd:FuncData} {ps:List Str} {sp:Sp} {x:Str} {p pos:Pos} {e:Expr} {es:List Expr} {t:TA} {a:Value} {E:Value->Shared->Prop}
end
end L2
set_option Elab.async false
set_option linter.all false
set_option maxRecDepth 100000
set_option maxHeartbeats 4000000
namespace L2
open PySem PySem.Spec PyProof.Rows
section
variable {X:Cx}
end
end L2
set_option Elab.async false
set_option linter.all false
set_option maxRecDepth 100000
set_option maxHeartbeats 4000000
namespace L2
open PySem PySem.Spec PyProof.Rows
section
variable {X:Cx} {CX:Xg} {k:Nat} {f C:Addr} {fd:FuncData} {ps:List Str} {sp:Sp} {dvs:List V} {ds:List Value} {E:St->XK} {x m:Str} {p pos apos:Pos} {e o:Expr} {es:List Expr} {ta:TE} {t:TA}
end
section
variable {X:Cx}
end
section
variable {X:Cx} {pins:List (Addr×Obj)} {σ:St} {H:Hp} {s:Shared}
end
end L2
set_option Elab.async false
set_option linter.all false
set_option maxRecDepth 100000
set_option maxHeartbeats 4000000
namespace L2
open PySem PySem.Spec PyProof.Rows
section
variable {prog:Program} {w:World} {A:Around} {E:Value->Shared->Prop} {s:Shared}
end
section
variable {X:Cx} {pos:Pos}
end
end L2
set_option Elab.async false
set_option linter.all false
set_option maxRecDepth 100000
set_option maxHeartbeats 4000000
namespace L2
open PySem PySem.Spec PyProof.Rows
section
variable {X:Cx}
end
end L2
set_option Elab.async false
set_option linter.all false
set_option maxRecDepth 100000
set_option maxHeartbeats 4000000
namespace L2
open PySem PySem.Spec PyProof.Rows
section
variable {X:Cx} {N':List Str} {ix:List (Option Nat)} {scope:Scope}
end
end L2
set_option Elab.async false
set_option linter.all false
set_option maxRecDepth 100000
set_option maxHeartbeats 4000000
namespace L2
open PySem PySem.Spec PyProof.Rows
abbrev u7 (o:Obj):HO:=.frz o (.frz o (.own 0))
def u3 (q:Str) (oc:Obj):Prop:=∃(vs:Array Value) (t:Tok),oc.data=.fields vs/\vs[1]?=some (.str q t)
structure TabM (mg:Str->Option Value) (base:Heap) (c P:Addr):Prop where
 code:PySem.W.CodeHd base c P
 blt:base.BuiltinsAt mg P
section
variable {X:Cx} {pins:List (Addr×Obj)} {σ:St} {H:Hp} {s:Shared}
structure Made (X:Cx) (σ:St) (H H':Hp) (P:Addr) (name qual:Str) (params:Arguments) (body:List Stmt) (scope:Scope) (f c':Addr) (doc pm ctv:Value) (oc:Obj):Prop where
 same:qu H H'
 new:H f=none
 fn:H' f=some (u7 (PySem.W.fnMade name qual params body scope (js X.env scope.names []) doc pm c' ctv))
 cd:H' c'=some (.frz oc (.own P))
 cq:u3 qual oc
 cells:∀x,(x,NameKind.free)∈scope.names->∃ca co v,(js X.env scope.names []).lookup x=some ca/\H' ca=some (u7 co)/\co.data=.cell v/\∀(i:Nat) (y:V),X.N[i]?=some x->σ[i]?=some (some y)->∃u,v=some u/\qN y u
 inj:∀x y c,(js X.env scope.names []).lookup x=some c->(js X.env scope.names []).lookup y=some c->x=y
open Classical in
end
end L2
set_option Elab.async false
set_option linter.all false
set_option maxRecDepth 100000
set_option maxHeartbeats 4000000
namespace L2
open PySem PySem.Spec PyProof.Rows
section
variable {P:Program} {w:World} {K:PySem.W.Frag} {mg:Str->Option Value} {base:Heap} {N:List Str} {qual:Str} {scope:Scope} {f:Addr} {cd:Value} {A:Around} {outer:List Env} {s₀:Shared} {H₀:Hp} {E:XK}
end
section
variable {P:Program} {w:World} {K:PySem.W.Frag} {mg:Str->Option Value} {base:Heap}
end
structure Gx (N ps fr:List Str) (sc:Scope):Prop where
 kind:sc.kind=.function
 co:sc.isCoroutine=false
 gen:sc.isGenerator=false
 nd:N.Nodup
 pre:N.take (ps++fr).length=ps++fr
 par:∀x∈ps,sc.names.lookup x=some .local
 free:∀x∈fr,sc.names.lookup x=some .free
 frees:∀y∈sc.names,y.2=.free->y.1∈fr
 nocell:∀y∈sc.names,y.2≠.cell
structure Clo (H:Hp) (P f:Addr) (name qual:Str) (st:Stmt) (fd:FuncData) (ws:List (Str×V)):Prop where
 ex:∃(doc pm ctv:Value) (c':Addr) (cl:List (Str×Addr)) (oc:Obj),fd=PySem.W.fnX name qual (Qk st) (j3 st) (qt st) cl .none .none doc pm none (.ref c') ctv/\H f=some (u7 {cls:=.type "function",data:=.func fd})/\H c'=some (.frz oc (.own P))/\u3 qual oc/\
   (∀x y c,cl.lookup x=some c->cl.lookup y=some c->x=y)/\(∀x c,cl.lookup x=some c->x∈ws.map (·.1))/\
   ∀x v,(x,v)∈ws->∃c o u,cl.lookup x=some c/\H c=some (u7 o)/\o.data=.cell (some u)/\qN v u
section
variable {P:Program} {w:World} {K:PySem.W.Frag} {mg:Str->Option Value} {base:Heap}
end
section
variable {X:Cx} {CX:Xg} {C:Addr->FuncData->Sp->Prop} {E:St->XK} {x:Str} {p pos:Pos} {e:Expr} {es:List Expr} {t:TA} {i:Nat}
end
end L2
set_option Elab.async false
set_option linter.all false
set_option maxRecDepth 100000
set_option maxHeartbeats 4000000
namespace L2
open PySem PySem.Spec PyProof.Rows
structure Tab where
 x:Str
 c:Addr
 P:Addr
 q:Str
def wM (tabs:List Tab) (H:Hp):Hp:=λb=>match tabs.find? λq=>q.P==b with
 | some q=>some (.tbl #[.str q.q 0])
 | none=>H b
end L2
set_option Elab.async false
set_option linter.all false
set_option maxRecDepth 100000
set_option maxHeartbeats 4000000
namespace L2
open PySem PySem.Spec PyProof.Rows
mutual
inductive DG (H:Hp):V->PyData->Prop
 | non:DG H .non .none
 | bl (b:Bool):DG H (.bl b) (.bool b)
 | int (i:Int):DG H (.int i) (.int i)
 | str (x:Str):DG H (.str x) (.str x)
 | lst {a:Addr} {xs:List V} {ds:List PyData}:H a=some (.lst xs)->a≠sysModules->DGs H xs ds->DG H (.ref a) (.list ds)
 | tup {a:Addr} {xs:List V} {ds:List PyData}:H a=some (.tup xs)->DGs H xs ds->DG H (.ref a) (.tuple ds)
 | dct0 {a:Addr}:H a=some (.dK [])->DG H (.ref a) (.dict [])
 | dct1 {a:Addr} {z:Str} {i:Int}:H a=some (.dK [(Sum.inr z,.int i)])->DG H (.ref a) (.dict [(.str z,.int i)])
inductive DGs (H:Hp):List V->List PyData->Prop
 | nil:DGs H [] []
 | cons {x:V} {xs:List V} {d:PyData} {ds:List PyData}:DG H x d->DGs H xs ds->DGs H (x::xs) (d::ds)
end
section
variable {X:Cx} {pins:List (Addr×Obj)} {σ:St} {H:Hp} {s:Shared}
end
section
variable {X:Cx}
end
end L2
set_option Elab.async false
set_option linter.all false
set_option maxRecDepth 100000
set_option maxHeartbeats 4000000
namespace L2
open PySem PySem.Spec PyProof.Rows
structure CloE (H:Hp) (P f:Addr) (qual:Str) (ag:Arguments) (be:Expr) (sc:Scope) (fd:FuncData) (ws:List (Str×V)):Prop where
 ex:∃(pm ctv:Value) (c':Addr) (cl:List (Str×Addr)) (oc:Obj),fd=PySem.W.kla_fn "<lambda>" qual ag be sc cl pm (.ref c') ctv/\H f=some (u7 {cls:=.type "function",data:=.func fd})/\H c'=some (.frz oc (.own P))/\u3 qual oc/\
   (∀x y c,cl.lookup x=some c->cl.lookup y=some c->x=y)/\(∀x c,cl.lookup x=some c->x∈ws.map (·.1))/\
   ∀x v,(x,v)∈ws->∃c o u,cl.lookup x=some c/\H c=some (u7 o)/\o.data=.cell (some u)/\qN v u
section
variable {P:Program} {w:World} {K:PySem.W.Frag} {mg:Str->Option Value} {base:Heap}
end
section
variable {X:Cx} {c P:Addr} {qual:Str} {ag:Arguments} {be:Expr} {sc:Scope} {pos:Pos}
end
section
variable {P:Program} {w:World} {K:PySem.W.Frag} {mg:Str->Option Value} {base:Heap} {N:List Str} {qual:Str} {scope:Scope} {f:Addr} {cd:Value} {cl:List (Str×Addr)} {A:Around} {outer:List Env} {s₀:Shared} {H₀:Hp} {E:XK}
end
section
variable {P:Program} {w:World} {K:PySem.W.Frag} {mg:Str->Option Value} {base:Heap}
end
end L2
set_option Elab.async false
set_option linter.all false
set_option maxRecDepth 100000
set_option maxHeartbeats 4000000
namespace L2
open PySem PySem.Spec PySem.Builtin PySem.Builtin.Str PyProof.Rows
section
variable {X:Cx}
end
end L2
set_option Elab.async false
set_option linter.all false
set_option maxRecDepth 100000
set_option maxHeartbeats 4000000
namespace L2
open PySem PySem.Spec PyProof.Rows
section
variable {X:Cx} {k:Nat} {f:Addr} {fd:FuncData} {ps:List Str} {sp:Sp}
end
section
variable {X:Cx} {pins:List (Addr×Obj)} {σ:St} {xs:List V} {l q a S:Addr} {R:Hp->Prop} {Z:Result->Shared->Prop}
abbrev V3 (vs:Array Value) (c:Nat):Obj:=seqObj "list" vs c
end
end L2
set_option Elab.async false
set_option linter.all false
set_option maxRecDepth 100000
set_option maxHeartbeats 4000000
namespace L2
open PySem PySem.Spec PyProof.Rows
section
variable {X:Cx} {st:List Stmt} {u:TS}
open Classical in
end
section
variable {X:Cx} {c P:Addr} {qual:Str} {ag:Arguments} {be:Expr} {sc:Scope} {pos:Pos} {fr:List Str}
end
section
variable {X:Cx} {C:Addr->FuncData->Sp->Prop} {p pos kp:Pos} {e g:Expr} {te tl:TE}
end
end L2
set_option Elab.async false
set_option linter.all false
set_option maxRecDepth 100000
set_option maxHeartbeats 4000000
namespace L2
open PySem PySem.Spec PySem.Builtin PySem.W PyProof.Rows
section
variable {prog:Program} {w:World} {A:Around} {R:Result->Shared->Prop} {It:Addr} {fp wr:List Addr} {n:Nat} {Pv:Nat->Value->Prop} {St:Nat->Heap->Prop}
theorem YS:(toString "max"++toString ".loop":String)="max.loop":=by decide
theorem vR (W:Walks prog w A.in1 It fp wr n Pv St) (bt:Nat->Nat->Bool) (cmp:CmpOf prog w A.in1 .Gt Pv bt) {B:Addr} (nB:B∉fp) (kw:List (Str×Value)):
   ∀(left j:Nat) (z:Shared) (v0:Value) (e0:Nat),n - (j+1)=left->j+1<=n->St (j+1) z.heap->Pv (argBest bt j) v0->z.heap.get? B=some (seqObj "list" #[v0,v0] e0)->
   (∀v h1 t1,Pv (argBest bt (n - 1)) v->(∀b o,b∉wr->b≠B->z.heap.get? b=some o->h1.get? b=some o)->R (.ok (.ret v)) {z with heap:=h1,toks:=t1})->
   codeAny (model prog w) A (.builtin "max.loop" ⟨[.ref It,.none,.ref B],kw⟩) R z:=by
 have nW:B∉wr:=λq=>nB (W.sub _ q)
 intro left
 induction left with
 | zero=>
   intro j z v0 e0 el hj st pb gB fin
   obtain rfl:j+1=n:=by omega
   refine codeAny_builtin PySem.F.entry_max_loop ?_
   rw[Around.under_plainId PySem.F.plain_max_loop _]
   refine wpAny_bind (wpAny_seqItems gB rfl (wpAny_bind (wpAny_tryCatch (W.done z _ _ st λh1 t1 k1=>?_))))
   have gB1:=k1 B _ nW gB
   refine wpAny_bind (wpAny_updateSeq gB1 rfl (wpAny_bind (wpAny_letGo (wpAny_pure (fin v0 _ t1 pb λb o nb nB' q=>?_)))))
   exact(Heap.get?_update_other _ _ (Ne.symm nB')).trans (k1 b o nb q)
 | succ left ih=>
   intro j z v0 e0 el hj st pb gB fin
   have lt:j+1 < n:=by omega
   refine codeAny_builtin PySem.F.entry_max_loop ?_
   rw[Around.under_plainId PySem.F.plain_max_loop _]
   refine wpAny_bind (wpAny_seqItems gB rfl (wpAny_bind (wpAny_tryCatch (W.item (j+1) z _ _ lt st λv h1 t1 pv st1 k1=>?_))))
   have gB1:=k1 B _ nW gB
   show wpAny _ A.in1 (tryCatch (holding [v,v] (richCompare .Gt v v0 >>= _)) _ >>= _) _ _ _
   refine wpAny_bind (wpAny_tryCatch (wpAny_holding (wpAny_bind (cmp (j+1) (argBest bt j) v v0 _ _ _ pv pb ?_))))
   refine wpAny_bind (wpAny_holding (wpAny_truthy_bool (wpAny_bind (wpAny_letGo (wpAny_pure ?_)))))
   cases hb:bt (j+1) (argBest bt j) with
   | true=>
     simp only[if_true]
     refine wpAny_bind (wpAny_updateSeq gB1 rfl (wpAny_bind (wpAny_letGo ?_)))
     rw[YS]
     have kp:∀b o,b≠B->h1.get? b=some o->(h1.update B (Obj.mapSeq λ_=>#[v,v])).get? b=some o:=λb o nb q=>(Heap.get?_update_other _ _ (Ne.symm nb)).trans q
     refine wpAny_pure ⟨plainId_quiet PySem.F.plain_max_loop _,ih (j+1) _ v _ (by omega) lt (W.frame _ _ _ st1 λb hb1 o q=>kp b o (λy=>nB (y▸hb1)) q) (by rw[argBest,hb];exact pv) (Heap.get?_update_self _ gB1 rfl) λv' h2 t2 pv' k2=>?_⟩
     exact fin v' h2 t2 pv' λb o nb nB' q=>k2 b o nb nB' (kp b o nB' (k1 b o nb q))
   | false=>
     simp only[Bool.false_eq_true,if_false]
     refine wpAny_bind (wpAny_letGo ?_)
     rw[YS]
     refine wpAny_pure ⟨plainId_quiet PySem.F.plain_max_loop _,ih (j+1) _ v0 e0 (by omega) lt st1 (by rw[argBest,hb];exact pb) gB1 λv' h2 t2 pv' k2=>?_⟩
     exact fin v' h2 t2 pv' λb o nb nB' q=>k2 b o nb nB' (k1 b o nb q)
theorem V2 (a d:Value):argsOk "max" ⟨[a],[(Str.ofString "default",d)]⟩:=by unfold argsOk;kernel_rfl
end
section
variable {X:Cx} {p pos kp:Pos} {e g:Expr} {te td:TE}
def Kh (K:PySem.W.Frag) (te td:TE):TE:=λσ H Q=>te σ H λx H1=>td σ H1 λy H2=>∃(q:Addr) (ns:List Int) (d:Int),x=.ref q/\y=.int d/\SqL K H2 q (ns.map V.int)/\(ns=[]->Q (.int d) H2)/\∀m,m∈ns->(∀x∈ns,x<=m)->Q (.int m) H2
theorem xw (hc:X.calm=true) (hg:Gl X "max") (hm:X.mg "max"=none) (ha:JE X e te) (hd:JE X g td) (hs:starEach [e] X.env=[(false,eval e X.env)]:=by rfl) (he:backTo pos (starEach [e] X.env)=(false,eval e X.env)::backTo pos (starEach [] X.env):=by rfl) (hplain:(backTo pos (starEach [e] X.env)).any (·.1)=false:=by rfl):JE X (.Call (.Name "max" p) [e] [⟨some "default",g,kp⟩] pos) (Kh X.K te td):=.of (by
 have ha:=ha.to
 have hd:=hd.to
 intro pins s σ H Q I h
 refine wpAny_Call_Name_kw (Qf I hg hm boot_max (PyProof.Rows.callWith_kw (Wa hs (ja (ha pins s σ H _ I h) λu s1 ⟨x,H1,I1,r1,q1⟩=>?_)) he hplain))
 show wpAny _ _ (evalAll [do let v <-eval g X.env;standAt pos;pure v]) _ _ _
 refine PyProof.Rows.evalAll_cons (wpAny_bind (ja (hd pins s1 σ H1 _ I1 q1) λv s2 ⟨y,H2,I2,r2,q2⟩=>wpAny_bind (wpAny_standAt (wpAny_pure (PyProof.Rows.evalAll_nil ?_)))))
 obtain⟨l,ns,d,rfl,rfl,hq,q0,qm⟩:=q2
 cases r1
 obtain⟨td',rfl⟩:=r2
 obtain⟨its,rv,pl,hz⟩:=I2.list hq
 have hlt:l < s2.heap.objs.size:=by
   obtain⟨o,n,e,_⟩:=pl
   exact Heap.lt_size e
 have hn:its.toArray.size=ns.length:=by
   have:=rv.length
   rw[List.length_map]at this
   simp only[List.size_toArray]
   omega
 have hh:X.A.in1.handled=none:=I2.ok.hd hc
 have W:=Walks.list (prog:=X.prog) (w:=X.w) (A:=X.A.in1) hh s2.heap.objs.size l (Nat.ne_of_lt hlt) its.toArray
 show wpAny _ _ (call (.builtin "max") [.ref l] [(Str.ofString "default",.int d td')]) _ _ _
 refine kmk_tree PySem.F.kind_max PySem.F.plain_max PySem.F.entry_max (V2 _ _) ?_
 refine wpAny_bind (wpAny_of_eq (show Builtin.Builtins.bindParams "max" ["key","default"] 0 ⟨[],[(Str.ofString "default",.int d td')]⟩=pure [none,some (.int d td')] from rfl) ?_)
 refine wpAny_bind (wpAny_pure (wpAny_bind (wpAny_pyIter_list pl.isList (wpAny_bind (wpAny_newList ?_ (Nat.zero_le _))))))
 rw[YS]
 have kI:∀b o,s2.heap.get? b=some o->((s2.heap.push {cls:=.type "list_iterator",data:=.fields #[.ref l,.int 0 0]}).push (V3 #[] 0)).get? b=some o:=λb o q=>Heap.get?_push_of_some _ (Heap.get?_push_of_some _ q)
 have nS:(s2.heap.push {cls:=.type "list_iterator",data:=.fields #[.ref l,.int 0 0]}).objs.size∉[s2.heap.objs.size,l]:=λz=>by
   rw[Heap.size_push]at z
   simp only[List.mem_cons,List.mem_nil_iff,or_false]at z
   rcases z with z | z
   . exact absurd z (Nat.succ_ne_self _)
   . rw[<-z]at hlt
     exact absurd hlt (Nat.not_lt.mpr (Nat.le_succ _))
 have st0:((s2.heap.push {cls:=.type "list_iterator",data:=.fields #[.ref l,.int 0 0]}).push (V3 #[] 0)).IsListIter s2.heap.objs.size l 0:=⟨_,Heap.get?_push_of_some _ (Heap.get?_push_size _ rfl),rfl,rfl⟩
 have stl:((s2.heap.push {cls:=.type "list_iterator",data:=.fields #[.ref l,.int 0 0]}).push (V3 #[] 0)).IsList l its.toArray:=pl.isList.at (kI l)
 have gS:((s2.heap.push {cls:=.type "list_iterator",data:=.fields #[.ref l,.int 0 0]}).push (V3 #[] 0)).get? (s2.heap.push {cls:=.type "list_iterator",data:=.fields #[.ref l,.int 0 0]}).objs.size=some (V3 #[] 0):=Heap.get?_push_size _ rfl
 have lS:s2.heap.objs.size < (s2.heap.push {cls:=.type "list_iterator",data:=.fields #[.ref l,.int 0 0]}).objs.size:=by rw[Heap.size_push];exact Nat.lt_succ_self _
 generalize (s2.heap.push {cls:=.type "list_iterator",data:=.fields #[.ref l,.int 0 0]}).objs.size=S at nS gS lS ⊢
 generalize (s2.heap.push {cls:=.type "list_iterator",data:=.fields #[.ref l,.int 0 0]}).push (V3 #[] 0)=h0 at kI st0 stl gS ⊢
 refine wpAny_pure ⟨plainId_quiet PySem.F.plain_max_loop _,?_⟩
 refine codeAny_builtin PySem.F.entry_max_loop ?_
 rw[Around.under_plainId PySem.F.plain_max_loop _]
 have iter:∀b o,s2.heap.get? b=some o->b∉[s2.heap.objs.size]:=λb o q z=>absurd (Heap.lt_size q) (by rw[List.mem_singleton.mp z];exact Nat.lt_irrefl _)
 have kept:∀{h1:Heap} (t1:Nat),(∀b o,s2.heap.get? b=some o->h1.get? b=some o)->qy X pins σ H2 {s2 with heap:=h1,toks:=t1}:=λt1 k=>I2.kept (t':=t1) k
 show wpAny _ X.A.in1 (seqItems? (.ref S) >>= _) _ _ _
 refine wpAny_bind (wpAny_seqItems gS rfl ?_)
 show wpAny _ X.A.in1 (tryCatch (pyNext (.ref s2.heap.objs.size)) _ >>= _) _ _ _
 rcases Nat.eq_zero_or_pos ns.length with n0 | n0
 . have e0:ns=[]:=List.eq_nil_of_length_eq_zero n0
   refine wpAny_bind (wpAny_tryCatch (W.done _ _ _ ⟨by rw[hn,n0];exact st0,stl⟩ λh1 t1 k1=>?_))
   exact wpAny_bind (wpAny_rule (wpAny_pure ⟨.int d,H2,kept t1 λb o q=>k1 b o (iter b o q) (kI b o q),⟨_,rfl⟩,q0 e0⟩))
 . have cmp:CmpOf X.prog X.w X.A.in1 .Gt (λi v=>its.toArray[i]?=some v) (λi j=>decide (ns.getD j 0 < ns.getD i 0)):=by
     intro i j vi vj s' Q' E' hi hj hQ
     obtain⟨t,rfl⟩:=Qm (pins:=pins) (σ:=σ) (H:=H2) (s:=s2) rv hi
     obtain⟨t',rfl⟩:=Qm (pins:=pins) (σ:=σ) (H:=H2) (s:=s2) rv hj
     exact PyProof.Rows.gt_int hQ
   refine wpAny_bind (wpAny_tryCatch (W.item 0 _ _ _ (by omega) ⟨st0,stl⟩ λv h1 t1 pv st1 k1=>?_))
   have nW:S∉[s2.heap.objs.size]:=λz=>nS (by rw[List.mem_singleton.mp z];exact .head _)
   have gS1:=k1 S _ nW gS
   show wpAny _ X.A.in1 (updateSeq S (λ_=>#[v,v]) >>= _) _ _ _
   refine wpAny_bind (wpAny_updateSeq gS1 rfl ?_)
   rw[YS]
   have kp:∀b o,b≠S->h1.get? b=some o->(h1.update S (Obj.mapSeq λ_=>#[v,v])).get? b=some o:=λb o nb q=>(Heap.get?_update_other _ _ (Ne.symm nb)).trans q
   refine wpAny_pure ⟨plainId_quiet PySem.F.plain_max_loop _,vR W _ cmp nS _ _ 0 _ v _ rfl (by omega) (W.frame _ _ _ st1 λb hb1 o q=>kp b o (λy=>nS (y▸hb1)) q) pv (Heap.get?_update_self _ gS1 rfl) λv' h2 t2 pv' k2=>?_⟩
   obtain⟨t,rfl⟩:=Qm (pins:=pins) (σ:=σ) (H:=H2) (s:=s2) rv pv'
   rw[hn]
   obtain⟨b1,b2⟩:=Xb (f:=λi=>ns.getD i 0) (bt:=λi j=>decide (ns.getD j 0 < ns.getD i 0)) (λ_ _=>rfl) (ns.length - 1)
   refine⟨.int _,H2,kept t2 λb o q=>?_,⟨_,rfl⟩,qm _ (Vd (by omega)) λx hx=>?_⟩
   . have nb:b≠S:=λz=>by rw[z]at q;exact Nat.lt_asymm lS (Heap.lt_size q)
     exact k2 b o (iter b o q) nb (kp b o nb (k1 b o (iter b o q) (kI b o q)))
   . obtain⟨i,hi,rfl⟩:=Vb hx
     exact b2 i (by omega))
end
end L2
set_option Elab.async false
set_option linter.all false
set_option maxRecDepth 100000
set_option maxHeartbeats 4000000
namespace L2
open PySem PySem.Spec PyProof.Rows
def yh:PyData->String
 | .none=>"NoneType"
 | .bool _=>"bool"
 | .int _=>"int"
 | .str _=>"str"
 | .list _=>"list"
 | .tuple _=>"tuple"
 | .dict _=>"dict"
def XJ (t c:String):Bool:=t==c || (t=="bool"&&c=="int")
def X4:List String:=["NoneType","bool","int","str","list","tuple","dict"]
theorem wK (d:PyData):yh d∈X4:=by cases d<;>simp [yh,X4]
section
variable {X:Cx}
def vc (K:PySem.W.Frag):List V->Hp->VK->Prop:=λxs H Q=>∃x c d b,xs=[x,.ty c]/\DV K H x d/\PySem.W.kitOne K (.type (yh d)) (.type c)=some b/\Q (.bl b) H
theorem jB:jn X (.builtin "isinstance") (vc X.K):=by
 intro pins s σ H xs us Q I r h
 obtain⟨x,c,d,b,rfl,dv,e,q⟩:=h
 obtain⟨u,w',rfl,ru,rw'⟩:=zZ r
 cases rw'
 have fin:∀tk,EP X pins σ Q (.bool b) {s with toks:=tk}:=λtk=>⟨.bl b,H,I.tok tk,rfl,q⟩
 cases dv with
 | non=>exact QJ I ru .non e fin
 | bl y=>exact QJ I ru (.bl y) e fin
 | int i=>exact QJ I ru (.int i) e fin
 | str y=>exact QJ I ru (.str y) e fin
 | lst hq hs=>
   cases ru
   obtain⟨its,rv,⟨o,n,e1,hc,_⟩,hz⟩:=I.list hq
   exact PySem.W.kia_one PySem.W.kitx_list I.kIn ⟨_,e1,hc⟩ e (λz=>nomatch z) fin
 | tup hq hs=>
   cases ru
   obtain⟨its,rv,⟨o,e1,hc,_⟩,hz⟩:=I.tuple hq
   exact PySem.W.kia_one PySem.W.kitx_tuple I.kIn ⟨_,e1,hc⟩ e (λz=>nomatch z) fin
def wt (K:PySem.W.Frag) (neg:Bool):R2:=λx y H Q=>∃d ds,DV K H x d/\DV K H y (.tuple ds)/\d.canLay0=true/\PyData.canLayAll0 ds=true/\d.depth<=40/\Q (.bl (if neg then !(ds.any λz=>PyData.eqv z d) else ds.any λz=>PyData.eqv z d)) H
theorem yO (hu:X.A.units+64 < cLine):QM X (compareOp .In) (wt X.K false):=by
 intro pins s σ H x y v u Q I rx ry h
 obtain⟨d,ds,h1,h2,c1,c2,dp,q⟩:=h
 obtain⟨as,ra⟩:=h1.reads I rx
 obtain⟨bs,rb⟩:=h2.reads I ry
 refine SeqAt.in_tuple_reads rb ra c2 c1 ?_ ⟨.bl _,H,I,rfl,q⟩
 have:=Nat.min_le_right (PyData.depthAll ds) d.depth
 omega
theorem Wl (hu:X.A.units+64 < cLine):QM X (compareOp .NotIn) (wt X.K true):=by
 intro pins s σ H x y v u Q I rx ry h
 obtain⟨d,ds,h1,h2,c1,c2,dp,q⟩:=h
 obtain⟨as,ra⟩:=h1.reads I rx
 obtain⟨bs,rb⟩:=h2.reads I ry
 refine SeqAt.notIn_tuple_reads rb ra c2 c1 ?_ ⟨.bl _,H,I,rfl,q⟩
 have:=Nat.min_le_right (PyData.depthAll ds) d.depth
 omega
end
end L2
set_option Elab.async false
set_option linter.all false
set_option maxRecDepth 100000
set_option maxHeartbeats 4000000
namespace L2
open PySem PySem.Spec PyProof.Rows
inductive OK where
 | s (x:Str) | n | t | u (x:Str)
 deriving DecidableEq
def OK.dat:OK->PyData
 | .s x=>.str x
 | .n=>.none
 | .t=>.bool true
 | .u x=>.tuple [.str x]
def jJ (h:Heap):OK->Value->Prop
 | .s x,v=>PyData.strOk x=true/\∃t,v=.str x t
 | .n,v=>v=.none
 | .t,v=>v=.bool true
 | .u x,v=>PyData.strOk x=true/\∃p o c t,v=.ref p/\h.get? p=some o/\o.cls=.type "tuple"/\o.data=.seq #[.str x t] c
theorem jJ.reads {h:Heap} {k:OK} {v:Value} (x:jJ h k v):∃as,Reads h v k.dat as/\(∀b∈as,∃o,h.get? b=some o/\o.cls=.type "tuple"):=by
 cases k with
 | s x'=>obtain⟨_,t,rfl⟩:=x;exact⟨_,.str x' t,λb hb=>(nomatch hb)⟩
 | n=>cases x;exact⟨_,.none,λb hb=>(nomatch hb)⟩
 | t=>cases x;exact⟨_,.bool true,λb hb=>(nomatch hb)⟩
 | u x'=>
   obtain⟨_,p,o,c,t,rfl,g,cl,d⟩:=x
   exact⟨_,.tuple g cl d (.cons (.str x' t) .nil),λb hb=>by simp at hb⟩
theorem jJ.lay {h:Heap} {k:OK} {v:Value} (x:jJ h k v):k.dat.canLay0=true:=by
 cases k with
 | s x'=>exact x.1
 | n=>rfl
 | t=>rfl
 | u x'=>show (PyData.strOk x'&&true)=true;rw[x.1];rfl
theorem xN (a b:OK):PyData.eqv a.dat b.dat=decide (a=b):=by
 have st:∀x y:Str,(x==y)=decide (x=y):=λx y=>by rw[Bool.eq_iff_iff];simp
 cases a<;>cases b<;>first | exact(decide_eq_false (λz=>nomatch z)).symm | skip
 . rename_i x y
   show (x==y)=_
   rw[st]
   exact decide_eq_decide.mpr ⟨λz=>by rw[z],λz=>by cases z;rfl⟩
 . exact(decide_eq_true rfl).symm
 . exact(decide_eq_true rfl).symm
 . rename_i x y
   show ((x==y)&&true)=_
   rw[st,Bool.and_true]
   exact decide_eq_decide.mpr ⟨λz=>by rw[z],λz=>by cases z;rfl⟩
section
variable {P:Program} {w:World} {A:Around} {E:Value->Shared->Prop} {s:Shared}
theorem ww {a b:OK} {u v:Value} {Q:Bool->Shared->Prop} (hu:A.units+4 < cLine) (x:jJ s.heap a u) (y:jJ s.heap b v) (h:Q (decide (a=b)) s):wpAny (model P w) A (eqBool u v) Q E s:=by
 obtain⟨as,ra,_⟩:=x.reads
 obtain⟨bs,rb,_⟩:=y.reads
 refine SeqAt.eqAt_reads a.dat b.dat A s u v as bs ra rb x.lay y.lay ?_ P w E Q (by rw[xN];exact h)
 have:a.dat.depth<=1:=by cases a<;>simp [OK.dat,PyData.depth,PyData.depthAll]
 have:=Nat.min_le_left a.dat.depth b.dat.depth
 omega
theorem XB {a:OK} {u:Value} {Q:Bool->Shared->Prop} (x:jJ s.heap a u) (h:Q true s):wpAny (model P w) A (eqIsQuiet 8 u) Q E s:=by
 cases a with
 | s x'=>obtain⟨_,t,rfl⟩:=x;exact wpAny_pure h
 | n=>cases x;exact wpAny_pure h
 | t=>cases x;exact wpAny_pure h
 | u x'=>
   obtain⟨_,p,o,c,t,rfl,g,cl,d⟩:=x
   exact wpAny_eqIsQuiet_tuple (knd:=qF P w) (ks:=[Sum.inr x']) ⟨o,_,c,g,cl,d,.cons (Qy P w x' t) .nil⟩ h
theorem vy {a:OK} {u:Value} {stored:List Value} {Q:Bool->Shared->Prop} (x:jJ s.heap a u) (hs:∀v∈stored,∃b,jJ s.heap b v) (h:Q false s):wpAny (model P w) A (tableMayTell u stored) Q E s:=by
 unfold tableMayTell
 split
 . exact wpAny_pure h
 . refine wpAny_bind (XB x ?_)
   rw[if_neg (by decide)]
   refine wpAny_bind (wpAny_forIn_list _ (λl r z=>z=s/\r=(none,PUnit.unit)/\∀v∈l,∃b,jJ s.heap b v) _ (λv l r z hz=>?_) (λr z hz=>?_) _ _ ⟨rfl,rfl,hs⟩)
   . obtain⟨e1,e2,hz⟩:=hz
     subst e1
     obtain⟨b,hb⟩:=hz v List.mem_cons_self
     refine wpAny_bind (XB hb ?_)
     rw[if_neg (by decide)]
     exact wpAny_pure ⟨rfl,rfl,λy hy=>hz y (List.mem_cons_of_mem _ hy)⟩
   . obtain⟨e1,e2,_⟩:=hz
     subst e1 e2
     exact wpAny_pure h
abbrev OE:=OK×Value×Value
def QK (hs:OK->Int) (x:OE):DictEntry:=⟨hs x.1,x.2.1,x.2.2⟩
def zU (xs:List OE) (k:OK):Option Nat:=xs.findIdx? λx=>decide (x.1=k)
theorem Jh {xs:List OE} {k:OK} {j:Nat} (h:zU xs k=some j):∃x,xs[j]?=some x/\x.1=k:=by
 obtain⟨lt,e,_⟩:=List.findIdx?_eq_some_iff_getElem.mp h
 exact⟨xs[j],List.getElem?_eq_getElem lt,of_decide_eq_true e⟩
theorem kU {xs:List OE} {k:OK} {j:Nat} {x:OE} (hn:(xs.map (·.1)).Nodup) (h:xs[j]?=some x) (e:x.1=k):zU xs k=some j:=by
 cases q:zU xs k with
 | none=>
   have:=List.findIdx?_eq_none_iff.mp q x (List.mem_of_getElem? h)
   rw[decide_eq_true e]at this
   cases this
 | some i=>
   obtain⟨y,hy,ey⟩:=Jh q
   have e1:(xs.map (·.1))[i]?=some k:=by rw[List.getElem?_map,hy,<-ey];rfl
   have e2:(xs.map (·.1))[j]?=some k:=by rw[List.getElem?_map,h,<-e];rfl
   obtain⟨l1,f1⟩:=List.getElem?_eq_some_iff.mp e1
   obtain⟨l2,f2⟩:=List.getElem?_eq_some_iff.mp e2
   have:=vP hn (f1.trans f2.symm)
   rw[this]
theorem uu {h:Heap} {a b:OK} {v:Value} (x:jJ h a v) (y:jJ h b v):a=b:=by
 cases a with
 | s z=>
   obtain⟨_,t,rfl⟩:=x
   cases b with
   | s z'=>obtain⟨_,t',e⟩:=y;cases e;rfl
   | n=>cases y
   | t=>cases y
   | u z'=>obtain⟨_,p,o,c,t',e,_⟩:=y;cases e
 | n=>
   cases x
   cases b with
   | s z'=>obtain⟨_,t',e⟩:=y;cases e
   | n=>rfl
   | t=>cases y
   | u z'=>obtain⟨_,p,o,c,t',e,_⟩:=y;cases e
 | t=>
   cases x
   cases b with
   | s z'=>obtain⟨_,t',e⟩:=y;cases e
   | n=>cases y
   | t=>rfl
   | u z'=>obtain⟨_,p,o,c,t',e,_⟩:=y;cases e
 | u z=>
   obtain⟨_,p,o,c,t,rfl,g,_,d⟩:=x
   cases b with
   | s z'=>obtain⟨_,t',e⟩:=y;cases e
   | n=>cases y
   | t=>cases y
   | u z'=>
     obtain⟨_,p',o',c',t',e,g',_,d'⟩:=y
     cases e
     rw[g]at g'
     cases g'
     rw[d]at d'
     simp at d'
     rw[d'.1.1]
theorem vL {h:Heap} {a:OK} {v:Value} {z:Str} (x:jJ h a v):v.isStr z=decide (a=.s z):=by
 cases a with
 | s y=>
   obtain⟨_,t,rfl⟩:=x
   show (y==z)=_
   rw[Bool.eq_iff_iff]
   simp
 | n=>cases x;rfl
 | t=>cases x;rfl
 | u y=>obtain⟨_,p,o,c,t,rfl,_⟩:=x;rfl
theorem JF {α:Type} {p q:α->Bool}:∀{l:List α},(∀x∈l,p x=q x)->l.findIdx? p=l.findIdx? q
 | [],_=>rfl
 | a::l,h=>by
   rw[List.findIdx?_cons,List.findIdx?_cons,h a List.mem_cons_self,JF λx hx=>h x (List.mem_cons_of_mem _ hx)]
theorem V0 {p:Nat->Bool} {n:Nat}:((List.range n).filter p).Nodup:=List.Nodup.sublist List.filter_sublist List.nodup_range
theorem zF {hs:OK->Int} {d:Addr} {o:Obj} {es:Array DictEntry} {ep:Nat} {xs:List OE} {k:OK} {key:Value} {Q:Option Nat->Shared->Prop} (hu:A.units+4 < cLine) (hk:jJ s.heap k key) (ho:s.heap.get? d=some o) (hd:o.data=.dict es ep)
   (he:es.toList=xs.map (QK hs)) (hx:∀x∈xs,jJ s.heap x.1 x.2.1) (hn:(xs.map (·.1)).Nodup) (h:Q (zU xs k) s):wpAny (model P w) A (dictFind d key (hs k)) Q E s:=by
 have get:∀i,es[i]?=xs[i]?.map (QK hs):=λi=>by rw[<-Array.getElem?_toList,he,List.getElem?_map]
 have size:es.size=xs.length:=by rw[<-Array.length_toList,he,List.length_map]
 have inP:∀j,zU xs k=some j->j∈placesWithHash es.size (λi=>es[i]?.map (·.hash)) (hs k):=λj hj=>by
   obtain⟨x,h1,h2⟩:=Jh hj
   refine List.mem_filter.mpr ⟨List.mem_range.mpr ?_,?_⟩
   . rw[size]
     exact(List.getElem?_eq_some_iff.mp h1).1
   . show ((es[j]?.map (·.hash))==some (hs k))=true
     rw[get,h1,<-h2]
     simp [QK]
 have ndP:(placesWithHash es.size (λi=>es[i]?.map (·.hash)) (hs k)).Nodup:=V0
 have ltP:∀i∈placesWithHash es.size (λi=>es[i]?.map (·.hash)) (hs k),i < xs.length:=λi hi=>by
   have:=List.mem_range.mp (List.mem_filter.mp hi).1
   omega
 have stP:∀v∈(placesWithHash es.size (λi=>es[i]?.map (·.hash)) (hs k)).filterMap (λi=>es[i]?.map (·.key)),∃b,jJ s.heap b v:=λv hv=>by
   obtain⟨i,_,hi⟩:=List.mem_filterMap.mp hv
   rw[get]at hi
   cases e:xs[i]? with
   | none=>rw[e]at hi;cases hi
   | some x=>
     rw[e]at hi
     cases hi
     exact⟨x.1,hx x (List.mem_of_getElem? e)⟩
 by_cases all:∃x t,key=.str x t/\(es.all λe=>isExactStrKey e.key)=true
 . obtain⟨x,t,rfl,al⟩:=all
   have ek:k=.s x:=by
     cases k with
     | s y=>obtain⟨_,t',e⟩:=hk;cases e;rfl
     | n=>cases hk
     | t=>cases hk
     | u y=>obtain⟨_,p,o',c,t',e,_⟩:=hk;cases e
   subst ek
   refine KTD.kt_dictFind_strs ho hd al ?_
   rw[show (es.findIdx? λe=>e.key.isStr x)=zU xs (.s x) from ?_]
   . exact h
   . rw[show (es.findIdx? λe=>e.key.isStr x)=es.toList.findIdx? λe=>e.key.isStr x from by obtain⟨l⟩:=es;simp,he,List.findIdx?_map]
     refine JF λy hy=>?_
     exact vL (hx y hy)
 unfold dictFind
 try with_reducible refine wpAny_holding ?_
 refine wpAny_bind (wpAny_dictEntries ho hd ?_)
 generalize hP:placesWithHash es.size (λi=>es[i]?.map (·.hash)) (hs k)=places at inP ndP ltP stP
 have plain:wpAny (model P w) A (dictWalkPlain d key (hs k) es places) Q E s:=by
   unfold dictWalkPlain
   refine wpAny_bind (wpAny_forIn_list _ (λl r z=>z=s/\r=(none,PUnit.unit)/\(∀i∈l,i < xs.length)/\∀j,zU xs k=some j->j∈l) _ (λi l r z hz=>?_) (λr z hz=>?_) _ _ ⟨rfl,rfl,ltP,inP⟩)
   . obtain⟨e1,e2,lt,al⟩:=hz
     subst e1 e2
     have li:=lt i List.mem_cons_self
     have gi:xs[i]?=some xs[i]:=List.getElem?_eq_getElem li
     have ei:es[i]?=some (QK hs xs[i]):=by rw[get,gi];rfl
     have oi:=hx xs[i] (List.getElem_mem li)
     have next:¬(xs[i]).1=k->(∀i'∈l,i' < xs.length)/\∀j,zU xs k=some j->j∈l:=λne=>⟨λi' h'=>lt i' (List.mem_cons_of_mem _ h'),λj hj=>by
       rcases List.mem_cons.mp (al j hj) with e | h'
       . subst e
         obtain⟨x,g1,g2⟩:=Jh hj
         rw[gi]at g1
         cases g1
         exact absurd g2 ne
       . exact h'⟩
     simp only[ei]
     by_cases hh:((QK hs xs[i]).hash==hs k)=true
     . rw[if_pos hh]
       refine wpAny_bind (wpAny_dictEpoch ho hd (wpAny_bind (ww hu oi hk (wpAny_bind (wpAny_dictEpoch ho hd ?_)))))
       rw[if_neg (by simp)]
       by_cases c:(xs[i]).1=k
       . rw[decide_eq_true c,if_pos rfl]
         have e:=kU hn gi c
         rw[e]at h
         exact wpAny_bind (wpAny_rule (wpAny_pure (wpAny_pure h)))
       . rw[decide_eq_false c]
         exact wpAny_bind (wpAny_rule (wpAny_pure ⟨rfl,rfl,next c⟩))
     . rw[if_neg hh]
       exact wpAny_pure ⟨rfl,rfl,next λc=>hh (by rw[<-c];simp [QK])⟩
   . obtain⟨e1,e2,_,al⟩:=hz
     subst e1 e2
     have e:zU xs k=none:=by
       cases q:zU xs k with
       | none=>rfl
       | some j=>exact absurd (al j q) (by simp)
     rw[e]at h
     exact wpAny_pure h
 have strN:∀x t,key=.str x t->¬(es.all λe=>isExactStrKey e.key)=true:=λx t e z=>all ⟨x,t,e,z⟩
 have refs:∀p,key=.ref p->¬(es.any λe=>e.key==key&&e.hash != hs k)=true:=λp e z=>by
   rw[<-Array.any_toList,he,List.any_eq_true]at z
   obtain⟨y,hy,q⟩:=z
   obtain⟨x,hx',rfl⟩:=List.mem_map.mp hy
   have o:=hx x hx'
   rw[Bool.and_eq_true]at q
   have e1:x.2.1=key:=by simpa [QK] using q.1
   have e2:x.1=k:=by
     rw[e1]at o
     exact uu o hk
   have q2:=q.2
   rw[show (QK hs x).hash=hs k from by rw[<-e2];rfl]at q2
   simp at q2
 obtain⟨fnd,hF⟩:∃f,zU xs k=f:=⟨_,rfl⟩
 rw[hF]at h
 have inP':∀j,fnd=some j->j∈places:=λj hj=>inP j (hF.trans hj)
 have dec:∀(i:Nat) (li:i < xs.length),decide ((xs[i]).1=k)=decide (fnd=some i):=λi li=>decide_eq_decide.mpr ⟨λc=>hF▸kU hn (List.getElem?_eq_getElem li) c,λc=>by
   obtain⟨x,g1,g2⟩:=Jh (hF.trans c)
   rw[List.getElem?_eq_getElem li]at g1
   cases g1
   exact g2⟩
 have hne:∀(i:Nat) (li:i < xs.length),¬((QK hs xs[i]).hash==hs k)=true->¬fnd=some i:=λi li hh c=>by
   have:=dec i li
   rw[decide_eq_true c]at this
   exact hh (by rw[<-of_decide_eq_true this];simp [QK])
 generalize hs k=hv at plain refs hne hP ⊢
 have hk':=hk
 cases k
 case' s x=>
   obtain⟨sx,t,rfl⟩:=hk'
   dsimp only
   rw[if_neg (strN x t rfl)]
   generalize hS:List.filterMap (λi=>Option.map (λx=>x.key) es[i]?) places=st at stP ⊢
   by_cases hp:((Value.str x t::st).all carriedByValue)=true
   . rw[if_pos hp];exact plain
   rw[if_neg hp]
   by_cases h1:(st==[Value.str x t])=true
   case' pos=>rw[if_pos h1]
   case' neg=>rw[if_neg h1]
 case' n=>
   cases hk'
   dsimp only
   generalize hS:List.filterMap (λi=>Option.map (λx=>x.key) es[i]?) places=st at stP ⊢
   by_cases hp:((Value.none::st).all carriedByValue)=true
   . rw[if_pos hp];exact plain
   rw[if_neg hp]
   by_cases h1:(st==[Value.none])=true
   case' pos=>rw[if_pos h1]
   case' neg=>rw[if_neg h1]
 case' t=>
   cases hk'
   dsimp only
   generalize hS:List.filterMap (λi=>Option.map (λx=>x.key) es[i]?) places=st at stP ⊢
   by_cases hp:((Value.bool true::st).all carriedByValue)=true
   . rw[if_pos hp];exact plain
   rw[if_neg hp]
   by_cases h1:(st==[Value.bool true])=true
   case' pos=>rw[if_pos h1]
   case' neg=>rw[if_neg h1]
 case' u x=>
   obtain⟨sx,p,o',c,t,rfl,_⟩:=hk'
   dsimp only
   rw[if_neg (by simp [carriedByValue]),if_neg (refs p rfl)]
   generalize hS:List.filterMap (λi=>Option.map (λx=>x.key) es[i]?) places=st at stP ⊢
   by_cases h1:(st==[Value.ref p])=true
   case' pos=>rw[if_pos h1]
   case' neg=>rw[if_neg h1]
 all_goals first | refine wpAny_bind (wpAny_pure ?_) | refine wpAny_bind (vy hk stP ?_)
 all_goals
   rw[if_neg (by simp)]
   refine wpAny_bind (wpAny_forIn_list _ (λl r z=>z=s/\∃hit,r=(none,hit)/\l.Nodup/\(∀i∈l,i < xs.length)/\((hit=none/\∀j,fnd=some j->j∈l)\/∃j,hit=some j/\fnd=some j/\j∉l)) _ (λi l r z hz=>?_) (λr z hz=>?_) _ _ ⟨rfl,none,rfl,ndP,ltP,.inl ⟨rfl,inP'⟩⟩)
   . obtain⟨e1,hit,e2,nd,lt,al⟩:=hz
     subst e1 e2
     have li:=lt i List.mem_cons_self
     have ei:es[i]?=some (QK hs xs[i]):=by rw[get,List.getElem?_eq_getElem li];rfl
     have oi:=hx xs[i] (List.getElem_mem li)
     obtain⟨n1,n2⟩:=List.nodup_cons.mp nd
     have lt':∀i'∈l,i' < xs.length:=λi' h'=>lt i' (List.mem_cons_of_mem _ h')
     have next:¬fnd=some i->((hit=none/\∀j,fnd=some j->j∈l)\/∃j,hit=some j/\fnd=some j/\j∉l):=λne=>by
       rcases al with ⟨e,al⟩ | ⟨j,e,f,nj⟩
       . refine .inl ⟨e,λj hj=>?_⟩
         rcases List.mem_cons.mp (al j hj) with q | q
         . exact absurd (q▸hj) ne
         . exact q
       . exact .inr ⟨j,e,f,λq=>nj (List.mem_cons_of_mem _ q)⟩
     simp only[ei]
     by_cases hh:((QK hs xs[i]).hash==hv)=true
     case' neg=>rw[if_neg hh];exact wpAny_pure ⟨rfl,hit,rfl,n2,lt',next (hne i li hh)⟩
     rw[if_pos hh]
     refine wpAny_bind (wpAny_dictEpoch ho hd (wpAny_bind (ww hu oi hk (wpAny_bind (wpAny_dictEpoch ho hd ?_)))))
     rw[if_neg (by simp),dec i li]
     by_cases c:fnd=some i
     . rw[decide_eq_true c,if_pos rfl]
       rcases al with ⟨rfl,al⟩ | ⟨j,e,f,nj⟩
       . rw[if_neg (by simp)]
         refine wpAny_bind (wpAny_rule ?_)
         by_cases l2:st.length < 2
         . rw[if_pos l2]
           rw[c]at h
           exact wpAny_pure (wpAny_pure h)
         . rw[if_neg l2]
           exact wpAny_pure ⟨rfl,some i,rfl,n2,lt',.inr ⟨i,rfl,c,n1⟩⟩
       . rw[c]at f
         cases f
         exact absurd List.mem_cons_self nj
     . rw[decide_eq_false c,if_neg (by decide)]
       refine wpAny_bind (wpAny_rule ?_)
       rw[if_neg (by simp)]
       exact wpAny_pure ⟨rfl,hit,rfl,n2,lt',next c⟩
   . obtain⟨e1,hit,e2,_,_,al⟩:=hz
     subst e1 e2
     rcases al with ⟨rfl,al⟩ | ⟨j,rfl,e,_⟩
     . have e:fnd=none:=by
         cases q:fnd with
         | none=>rfl
         | some j=>exact absurd (al j q) (by simp)
       rw[e]at h
       exact wpAny_pure h
     . rw[e]at h
       exact wpAny_pure h
end
end L2
set_option Elab.async false
set_option linter.all false
set_option maxRecDepth 100000
set_option maxHeartbeats 4000000
namespace L2
open PySem PySem.Spec PyProof.Rows
section
variable {P:Program} {w:World} {A:Around} {E:Value->Shared->Prop} {s:Shared}
def XL (P:Program) (w:World):OK->Int
 | .s x=>(qF P w).hash (Sum.inr x)
 | .n=>0xFCA86420
 | .t=>1
 | .u x=>tupleKeyHash (qF P w) [Sum.inr x]
theorem Uh {Q:Int->Shared->Prop} (h:∀k,Q 0xFCA86420 {s with toks:=k}):wpAny (model P w) A (pyHash .none) Q E s:=by
 unfold pyHash pyHashByItsType
 refine wpAny_bind (m:=cRoomFor "hash" [Value.none]) ?_
 unfold cRoomFor
 rw[if_neg (by decide)]
 refine wpAny_pure (wpAny_bind (wpAny_specialOf (typeIs_none s) PySem.F.slot_NoneType_hash.lookup ?_))
 rw[if_neg (by decide)]
 refine wpAny_bind (wpAny_specialOf (typeIs_none s) PySem.F.slot_NoneType_hash.lookup ?_)
 rw[if_neg (by decide)]
 refine wpAny_bind (wpAny_callSpecialIfBoundUnlessNone?_slot (typeIs_none s) PySem.F.slot_NoneType_hash (wpAny_call_entry PySem.F.slot_NoneType_hash (typeIs_none s) PySem.F.entry_NoneType_hash (show wpAny _ _ (do ret (<-mkInt 0xFCA86420)) _ _ s from wpAny_ret_mkInt ?_) (PySem.F.args_NoneType_hash_1 _)))
 dsimp only
 unfold pyHashByItsType.reduced
 rw[if_pos (by decide)]
 exact wpAny_pure (h _)
theorem Ug {Q:Int->Shared->Prop} (h:∀k,Q 1 {s with toks:=k}):wpAny (model P w) A (pyHash (.bool true)) Q E s:=by
 unfold pyHash pyHashByItsType
 refine wpAny_bind (m:=cRoomFor "hash" [Value.bool true]) ?_
 unfold cRoomFor
 rw[if_neg (by decide)]
 refine wpAny_pure (wpAny_bind (wpAny_specialOf (T:="bool") rfl PySem.F.slot_bool_hash.lookup ?_))
 rw[if_neg (by decide)]
 refine wpAny_bind (wpAny_specialOf (T:="bool") rfl PySem.F.slot_bool_hash.lookup ?_)
 rw[if_neg (by decide)]
 refine wpAny_bind (wpAny_callSpecialIfBoundUnlessNone?_slot (T:="bool") rfl PySem.F.slot_bool_hash (wpAny_call_entry (T:="bool") PySem.F.slot_bool_hash rfl entry_int_hash (show wpAny _ _ (do ret (<-mkInt 1)) _ _ s from wpAny_ret_mkInt ?_) (args_int_hash _)))
 dsimp only
 unfold pyHashByItsType.reduced
 rw[if_pos (by decide)]
 exact wpAny_pure (h _)
theorem zz {k:OK} {v:Value} {Q:Int->Shared->Prop} (hu:A.units+4 < cLine) (x:jJ s.heap k v) (h:∀t,Q (XL P w k) {s with toks:=t}):wpAny (model P w) A (pyHash v) Q E s:=by
 cases k with
 | s x'=>obtain⟨_,t,rfl⟩:=x;exact(qF P w).pyHash (Qy P w x' t) (h _)
 | n=>cases x;exact Uh h
 | t=>cases x;exact Ug h
 | u x'=>
   obtain⟨_,p,o,c,t,rfl,g,cl,d⟩:=x
   exact wpAny_pyHash_tuple (knd:=qF P w) (ks:=[Sum.inr x']) (by omega) ⟨o,_,c,g,cl,d,.cons (Qy P w x' t) .nil⟩ (h _)
def Q3 (P:Program) (w:World) (h:Heap) (a:Addr) (xs:List OE):Prop:=∃o es ep,h.get? a=some o/\o.ExactDict/\o.data=.dict es ep/\es.toList=xs.map (QK (XL P w))/\(xs.map (·.1)).Nodup
theorem Q3.typeIs {a:Addr} {xs:List OE} (h:Q3 P w s.heap a xs):s.TypeIs (.ref a) "dict":=let ⟨o,_,_,g,c,_⟩:=h;⟨o,g,c.1⟩
theorem Q3.keep {h h':Heap} {a:Addr} {xs:List OE} (x:Q3 P w h a xs) (k:∀o,h.get? a=some o->h'.get? a=some o):Q3 P w h' a xs:=let ⟨o,es,ep,g,r⟩:=x;⟨o,es,ep,k o g,r⟩
theorem zG {hs:OK->Int} {es:Array DictEntry} {xs:List OE} (he:es.toList=xs.map (QK hs)):es.size=xs.length:=by rw[<-Array.length_toList,he,List.length_map]
theorem Vg {hs:OK->Int} {es:Array DictEntry} {xs:List OE} (he:es.toList=xs.map (QK hs)) (i:Nat):es[i]?=xs[i]?.map (QK hs):=by rw[<-Array.getElem?_toList,he,List.getElem?_map]
variable {a:Addr} {xs:List OE} {k:OK} {key:Value}
theorem Wu {α β:Type} (f:α->β):∀(l:List α) (j:Nat),(l.map f).eraseIdx j=(l.eraseIdx j).map f
 | [],_=>rfl
 | _::_,0=>rfl
 | a::l,j+1=>by
   show f a::(l.map f).eraseIdx j=f a::(l.eraseIdx j).map f
   rw[Wu f l j]
theorem y9 {Q:Option Value->Shared->Prop} (hu:A.units+4 < cLine) (hk:jJ s.heap k key) (hx:∀x∈xs,jJ s.heap x.1 x.2.1) (hd:Q3 P w s.heap a xs) (h:∀t ov,ov.isSome=(zU xs k).isSome->Q ov {s with toks:=t}):wpAny (model P w) A (dictGet a key) Q E s:=by
 obtain⟨o,es,ep,g,c,d,he,hn⟩:=hd
 unfold dictGet
 try with_reducible refine wpAny_holding ?_
 refine wpAny_bind (zz hu hk λt=>wpAny_bind (zF (s:={s with toks:=t}) hu hk g d he hx hn ?_))
 cases e:zU xs k with
 | none=>exact wpAny_pure (h _ _ (by rw[e];rfl))
 | some j=>
   obtain⟨x,gx,_⟩:=Jh e
   refine wpAny_bind (wpAny_dictEntries (s:={s with toks:=t}) g d ?_)
   rw[Vg he,gx]
   exact wpAny_pure (h _ _ (by rw[e];rfl))
theorem W8 {Q:Bool->Shared->Prop} (hu:A.units+5 < cLine) (hk:jJ s.heap k key) (hx:∀x∈xs,jJ s.heap x.1 x.2.1) (lo:(a==sysModules)=false) (hd:Q3 P w s.heap a xs) (h:∀t,Q (zU xs k).isSome {s with toks:=t}):wpAny (model P w) A (contains (.ref a) key) Q E s:=by
 unfold contains
 try with_reducible refine wpAny_holding ?_
 refine wpAny_bind (wpAny_specialOf hd.typeIs slot_dict_contains.lookup ?_)
 rw[if_neg (show ¬(some (Value.builtin "dict.__contains__")==some Value.none)=true by rw[beq_builtin_none];decide)]
 refine wpAny_bind (wpAny_callSpecialUnlessNone?_slot (name:=Str.ofString "__contains__") hd.typeIs slot_dict_contains (wpAny_call_entry slot_dict_contains hd.typeIs entry_dict_contains ?_ (args_dict_contains _ _)))
 refine(show wpAny _ _ (dictGet a key >>= _) _ _ s from wpAny_bind (y9 (show A.units+1+4 < cLine by omega) hk hx hd λt ov e=>?_))
 cases ov with
 | some v=>
   refine(show wpAny _ _ (ret (.bool true)) _ _ _ from wpAny_pure ⟨_,rfl,wpAny_truthy_bool ?_⟩)
   have:=h t
   rw[<-e]at this
   exact this
 | none=>
   refine(show wpAny _ _ (Builtin.Dict.pendingKey? a key >>= _) _ _ _ from wpAny_bind (wpAny_pendingKey_other lo (wpAny_pure ⟨_,rfl,wpAny_truthy_bool ?_⟩)))
   have:=h t
   rw[<-e]at this
   exact this
theorem uw {Q:Value->Shared->Prop} (hu:A.units+5 < cLine) (hk:jJ s.heap k key) (hx:∀x∈xs,jJ s.heap x.1 x.2.1) (lo:(a==sysModules)=false) (hd:Q3 P w s.heap a xs) (h:∀t,Q (.bool (zU xs k).isSome) {s with toks:=t}):wpAny (model P w) A (compareOp .In key (.ref a)) Q E s:=by
 show wpAny _ _ (do return .bool (<-contains (.ref a) key)) Q E s
 refine wpAny_bind (W8 hu hk hx lo hd λt=>wpAny_pure (h t))
theorem VZ {Q:Value->Shared->Prop} (hu:A.units+5 < cLine) (hk:jJ s.heap k key) (hx:∀x∈xs,jJ s.heap x.1 x.2.1) (lo:(a==sysModules)=false) (hd:Q3 P w s.heap a xs) (h:∀t,Q (.bool (!(zU xs k).isSome)) {s with toks:=t}):wpAny (model P w) A (compareOp .NotIn key (.ref a)) Q E s:=by
 show wpAny _ _ (do return .bool (!(<-contains (.ref a) key))) Q E s
 refine wpAny_bind (W8 hu hk hx lo hd λt=>wpAny_pure (h t))
theorem y7 {Q:Value->Shared->Prop} (lo:(a==sysModules)=false) (z:xs.length<=sizeLine) (hd:Q3 P w s.heap a xs) (h:∀t t',Q (.int xs.length t') {s with toks:=t}):wpAny (model P w) A (call (.builtin "len") [.ref a]) Q E s:=by
 obtain⟨o,es,ep,h1,h2,h3,h4,_⟩:=id hd
 have hes:=zG h4
 have mt:MeetsIn P w (Builtin.«dict.__len__» ⟨[.ref a],[]⟩) (λ_ R s'=>s'=s/\R (.ok (.ret (.int xs.length s'.toks))) {s' with toks:=s'.toks+1}):=.of_wp λA R s' ⟨e',k⟩=>by
   subst e'
   refine(show wpAny _ _ (dictSize a >>= _) _ _ s' from wpAny_bind ?_)
   unfold dictSize
   refine wpAny_bind (wpAny_dictEntries h1 h3 (wpAny_pure ?_))
   refine(show wpAny _ _ (Builtin.Dict.pendingCount a >>= _) _ _ s' from wpAny_bind (wpAny_pendingCount_other lo (wpAny_ret_mkInt ?_)))
   rw[<-hes]at k
   simpa using k
 have sm:(xs.length:Int) < 2^63:=by rw[sizeLine_eq]at z;omega
 refine Calls.call_function_entry kind_len plain_len entry_len (args_len1 _) ?_
 unfold Builtin.«len»
 refine wpAny_bind (m:=oneArg "len" _) (wpAny_pure ?_)
 refine wpAny_bind (m:=callSpecial? (.ref a) (Str.ofString "__len__")) (wpAny_callSpecial?_slot (name:=Str.ofString "__len__") hd.typeIs F.slot_dict_len (call_meetsIn F.slot_dict_len hd.typeIs F.entry_dict_len (F.args_dict_len_1 _) mt ⟨rfl,?_⟩))
 refine(show wpAny _ _ _ _ _ {s with toks:=s.toks+1} from wpAny_bind (wpAny_holding (wpAny_pure (wpAny_bind (wpAny_letGo ?_)))))
 refine(show wpAny _ _ (if ((xs.length:Nat):Int) < 0 then _ else _) _ _ _ from ?_)
 rw[if_neg (by omega)]
 refine(show wpAny _ _ (if ((xs.length:Nat):Int) ≥ 2^63 then _ else _) _ _ _ from ?_)
 rw[if_neg (by omega)]
 exact wpAny_bind (wpAny_mkInt (wpAny_pure ⟨_,rfl,h _ _⟩))
theorem yZ {v:Value} {Q:Unit->Shared->Prop} (hu:A.units+5 < cLine) (hk:jJ s.heap k key) (hx:∀x∈xs,jJ s.heap x.1 x.2.1) (z:xs.length<=sizeLine) (hd:Q3 P w s.heap a xs) (no:zU xs k=none)
   (h:∀h' t,Q3 P w h' a (xs++[(k,key,v)])->Heap.SameBut a s.heap h'->Q () {s with heap:=h',toks:=t}):wpAny (model P w) A (setItem (.ref a) key v) Q E s:=by
 have ty:=hd.typeIs
 obtain⟨o,es,ep,g,c,d,he,hn⟩:=hd
 unfold setItem
 try with_reducible refine wpAny_holding ?_
 refine wpAny_bind (wpAny_sequenceKey ty (by decide) ?_)
 refine wpAny_bind (wpAny_callSpecial?_slot (name:=Str.ofString "__setitem__") ty slot_dict_setitem (wpAny_call_entry slot_dict_setitem ty entry_dict_setitem ?_ (args_dict_setitem _ _ _)))
 refine(show wpAny _ _ (Builtin.Dict.notOrdered "__setitem__" ⟨[.ref a,key,v],[]⟩ >>= _) _ _ s from wpAny_bind (wpAny_notOrdered_dict ty ?_))
 refine(show wpAny _ _ (dictSet a key v >>= _) _ _ s from wpAny_bind ?_)
 unfold dictSet
 try with_reducible refine wpAny_holding ?_
 refine wpAny_bind (zz (show A.units+1+4 < cLine by omega) hk λt=>?_)
 unfold dictSetHashed
 try with_reducible refine wpAny_holding ?_
 refine wpAny_bind (zF (s:={s with toks:=t}) (show A.units+1+4 < cLine by omega) hk g d he hx hn ?_)
 rw[no]
 refine wpAny_bind (wpAny_rule (wpAny_updateDictKeys (hz:=by rw[zG he];exact z) (s:={s with toks:=t}) g d (wpAny_pure ⟨.none,rfl,wpAny_pure (h _ t ⟨_,_,ep+1,Heap.get?_update_self _ g (Obj.isFreed_of_dict (Obj.data_mapDictKeys d _)),c.mapDictKeys _,Obj.data_mapDictKeys d _,?_,?_⟩ (Heap.SameBut.update ..))⟩)))
 . simp [he,QK]
 . rw[List.map_append,List.nodup_append]
   refine⟨hn,by simp,λy hy y' hy' e=>?_⟩
   have e2:y'=k:=by simpa using hy'
   rw[e2]at e
   obtain⟨x,hx1,hx2⟩:=List.mem_map.mp hy
   have:=List.findIdx?_eq_none_iff.mp no x hx1
   rw[decide_eq_true (hx2.trans e)]at this
   cases this
theorem y6 {x:Str} {tx:Tok} {j:Nat} {y:OE} {Q:Value->Shared->Prop} (hu:A.units+5 < cLine) (hk:jJ s.heap (.s x) (.str x tx)) (hx:∀x∈xs,jJ s.heap x.1 x.2.1) (z:xs.length<=sizeLine) (hd:Q3 P w s.heap a xs) (at_:zU xs (.s x)=some j) (gy:xs[j]?=some y)
   (h:∀h' t,Q3 P w h' a (xs.eraseIdx j)->Heap.SameBut a s.heap h'->Q y.2.2 {s with heap:=h',toks:=t}):wpAny (model P w) A (call (.builtin "dict.pop") [.ref a,.str x tx]) Q E s:=by
 have ty:=hd.typeIs
 obtain⟨o,es,ep,g,c,d,he,hn⟩:=hd
 have mt:MeetsIn P w (Builtin.«dict.pop» ⟨[.ref a,.str x tx],[]⟩) (λA' R s'=>A'=A/\s'=s/\∀h' t,Q3 P w h' a (xs.eraseIdx j)->Heap.SameBut a s.heap h'->R (.ok (.ret y.2.2)) {s with heap:=h',toks:=t}):=.of_wp λA' R s' ⟨e',e'',hR⟩=>by
   subst e' e''
   unfold Builtin.«dict.pop»
   refine wpAny_bind ?_
   unfold Builtin.Dict.keyAndDefault
   refine wpAny_bind (wpAny_notOrdered_dict ty ?_)
   refine(show wpAny _ _ (pure (a,Value.str x tx,none)) _ _ _ from wpAny_pure ?_)
   refine(show wpAny _ _ (pure false >>= _) _ _ _ from wpAny_bind (wpAny_pure ?_))
   dsimp only
   rw[if_neg (by decide)]
   refine wpAny_bind ?_
   unfold Builtin.Dict.takeOut
   try with_reducible refine wpAny_holding ?_
   refine wpAny_bind (zz (show A'.units+1+4 < cLine by omega) hk λt=>wpAny_bind (zF (s:={s' with toks:=t}) (show A'.units+1+4 < cLine by omega) hk g d he hx hn ?_))
   rw[at_]
   refine wpAny_bind (wpAny_dictEntries (s:={s' with toks:=t}) g d ?_)
   rw[Vg he,gy]
   refine wpAny_bind (wpAny_updateDictKeys (hz:=by rw[zG he];exact z) (s:={s' with toks:=t}) g d (wpAny_pure ?_))
   dsimp only
   rw[if_neg (by simp)]
   refine wpAny_bind (wpAny_letGo (wpAny_pure ⟨y.2.2,rfl,hR _ _ ⟨_,_,ep+1,Heap.get?_update_self _ g (Obj.isFreed_of_dict (Obj.data_mapDictKeys d _)),c.mapDictKeys _,Obj.data_mapDictKeys d _,?_,?_⟩ (Heap.SameBut.update ..)⟩))
   . have e1:(es.eraseIdxIfInBounds j).toList=es.toList.eraseIdx j:=by simp
     rw[e1,he,Wu]
   . rw[<-Wu]
     exact hn.sublist (List.eraseIdx_sublist ..)
 exact call_meetsIn PySem.F.slot_dict_pop ty PySem.F.entry_dict_pop (PySem.F.args_dict_pop_2 _ _) mt ⟨rfl,rfl,h⟩
end
end L2
set_option Elab.async false
set_option linter.all false
set_option maxRecDepth 100000
set_option maxHeartbeats 4000000
namespace L2
open PySem PySem.Spec PyProof.Rows
abbrev OV:=OK×V×V
def Vv (K:PySem.W.Frag) (H:Hp):OK->V->Prop
 | .s x,v=>PyData.strOk x=true/\v=.str x
 | .n,v=>v=.non
 | .t,v=>v=.bl true
 | .u x,v=>PyData.strOk x=true/\∃p,v=.ref p/\SqT K H p [.str x]
def Zj (p:OV) (q:OE):Prop:=q.1=p.1/\qN p.2.1 q.2.1/\qN p.2.2 q.2.2
def JP (P:Program) (w:World) (a:Addr) (ks:List OV):HO:=.ext λh=>ks.length<=sizeLine/\(a==sysModules)=false/\∃xs:List OE,Paired Zj ks xs/\Q3 P w h a xs
def OddAt (P:Program) (w:World) (K:PySem.W.Frag) (H:Hp) (a:Addr) (ks:List OV):Prop:=H a=some (JP P w a ks)/\∀x∈ks,Vv K H x.1 x.2.1
def QV (ks:List OV) (k:OK):Bool:=ks.any λx=>decide (x.1=k)
theorem Jm:∀{ks:List OV} {xs:List OE},Paired Zj ks xs->xs.map (·.1)=ks.map (·.1)
 | _,_,.nil=>rfl
 | _,_,.cons r t=>by rw[List.map_cons,List.map_cons,r.1,Jm t]
theorem XZ (l:List OK) (k:OK):∀{α:Type} {f:α->OK} {xs:List α},xs.map f=l->(xs.any λx=>decide (f x=k))=decide (k∈l):=λ{α f xs} e=>by
 subst e
 rw[Bool.eq_iff_iff,List.any_eq_true,decide_eq_true_iff,List.mem_map]
 exact⟨λ⟨x,h1,h2⟩=>⟨x,h1,of_decide_eq_true h2⟩,λ⟨x,h1,h2⟩=>⟨x,h1,decide_eq_true h2⟩⟩
theorem Vr {ks:List OV} {xs:List OE} (r:Paired Zj ks xs) (k:OK):(zU xs k).isSome=QV ks k:=by
 unfold zU QV
 rw[List.findIdx?_isSome,XZ _ k (Jm r),XZ _ k rfl]
section
variable {X:Cx} {pins:List (Addr×Obj)} {σ:St} {H:Hp} {s:Shared}
theorem Vv.at {k:OK} {v:V} {u:Value} (I:qy X pins σ H s) (h:Vv X.K H k v) (r:qN v u):jJ s.heap k u:=by
 cases k with
 | s x=>obtain⟨a,rfl⟩:=h;exact⟨a,r⟩
 | n=>cases h;exact r
 | t=>cases h;exact r
 | u x=>
   obtain⟨a,p,rfl,hq⟩:=h
   cases r
   obtain⟨its,rv,⟨o,e,c,n,d⟩,_⟩:=I.tuple hq
   cases rv with
   | cons ra rt=>
     cases rt
     obtain⟨t,rfl⟩:=ra
     exact⟨a,p,o,n,t,rfl,e,c,d⟩
theorem JK {a:Addr} {ks:List OV} (I:qy X pins σ H s) (h:OddAt X.prog X.w X.K H a ks):ks.length<=sizeLine/\(a==sysModules)=false/\∃xs,Paired Zj ks xs/\Q3 X.prog X.w s.heap a xs/\∀x∈xs,jJ s.heap x.1 x.2.1:=by
 obtain⟨⟨z,lo,xs,r,d⟩,st⟩:=(show qU X.prog X.w H s.heap a (JP X.prog X.w a ks) from I.hok a _ h.1)
 refine⟨z,lo,xs,r,d,?_⟩
 have hk:=h.2
 clear h z lo d st
 induction r with
 | nil=>exact λx hx=>(nomatch hx)
 | cons ra t ih=>
   intro x hx
   rcases List.mem_cons.mp hx with rfl | hx
   . have:=Vv.at I (hk _ List.mem_cons_self) ra.2.1
     rw[<-ra.1]at this
     exact this
   . exact ih (λy hy=>hk y (List.mem_cons_of_mem _ hy)) x hx
theorem Vv.mono {K:PySem.W.Frag} {H H':Hp} (s:∀b o,H b=some o->(∀φ,o≠.ext φ)->H' b=some o) {k:OK} {v:V} (h:Vv K H k v):Vv K H' k v:=by
 cases k with
 | u x=>
   obtain⟨a,p,e,hq⟩:=h
   refine⟨a,p,e,?_⟩
   rcases hq with (h | ⟨o,h⟩) | h
   . exact .inl (.inl (s _ _ h (λ_ z=>nomatch z)))
   . exact .inl (.inr ⟨o,s _ _ h (λ_ z=>nomatch z)⟩)
   . exact .inr h
 | _=>exact h
def ub (P:Program) (w:World) (K:PySem.W.Frag) (neg:Bool):R2:=λx y H Q=>∃(a:Addr) (z:Str) (ks:List OV),x=.str z/\y=.ref a/\PyData.strOk z=true/\OddAt P w K H a ks/\Q (.bl (if neg then !QV ks (.s z) else QV ks (.s z))) H
theorem uk (hu:X.A.units+64 < cLine):QM X (compareOp .In) (ub X.prog X.w X.K false):=by
 intro pins s σ H x y v u Q I rx ry h
 obtain⟨a,z,ks,rfl,rfl,sz,od,q⟩:=h
 obtain⟨t,rfl⟩:=rx
 cases ry
 obtain⟨le,lo,xs,r,d,hx⟩:=JK I od
 refine uw (k:=.s z) (by omega) ⟨sz,t,rfl⟩ hx lo d λt'=>⟨.bl _,H,I.tok _,rfl,?_⟩
 rw[Vr r]
 exact q
theorem VR (hu:X.A.units+64 < cLine):QM X (compareOp .NotIn) (ub X.prog X.w X.K true):=by
 intro pins s σ H x y v u Q I rx ry h
 obtain⟨a,z,ks,rfl,rfl,sz,od,q⟩:=h
 obtain⟨t,rfl⟩:=rx
 cases ry
 obtain⟨le,lo,xs,r,d,hx⟩:=JK I od
 refine VZ (k:=.s z) (by omega) ⟨sz,t,rfl⟩ hx lo d λt'=>⟨.bl _,H,I.tok _,rfl,?_⟩
 rw[Vr r]
 exact q
def uc (neg:Bool):R2:=λx y H Q=>∃(a:Addr) (o:Option V),y=.ref a/\jC H a x o/\Q (.bl (if neg then !o.isSome else o.isSome)) H
theorem ul (hu:X.A.units+1 < cLine):QM X (compareOp .In) (uc false):=by
 intro pins s σ H x y v u Q I rx ry h
 obtain⟨a,o,rfl,g,q⟩:=h
 cases ry
 exact Gh hu I g rx λs3 I3=>⟨.bl _,H,I3,rfl,q⟩
theorem VS (hu:X.A.units+1 < cLine):QM X (compareOp .NotIn) (uc true):=by
 intro pins s σ H x y v u Q I rx ry h
 obtain⟨a,o,rfl,g,q⟩:=h
 cases ry
 exact Vo hu I g rx λs3 I3=>⟨.bl _,H,I3,rfl,q⟩
theorem Yu:jn X (.builtin "len") (λxs H Q=>∃(a:Addr) (ks:List OV),xs=[V.ref a]/\OddAt X.prog X.w X.K H a ks/\Q (.int ks.length) H):=by
 intro pins s σ H xs us Q I r h
 obtain⟨a,ks,rfl,od,q⟩:=h
 obtain⟨u,rfl,ru⟩:=jW r
 cases ru
 obtain⟨le,lo,ys,r,d,hx⟩:=JK I od
 have e:=Paired.length r
 refine y7 lo (by omega) d λt t'=>⟨.int ks.length,H,I.tok _,⟨t',by rw[e]⟩,q⟩
theorem zO:jn X (.builtin "isinstance") (λxs H Q=>∃(a:Addr) (ks:List OV) (c:String) (b:Bool),xs=[.ref a,.ty c]/\OddAt X.prog X.w X.K H a ks/\PySem.W.kitOne X.K (.type "dict") (.type c)=some b/\Q (.bl b) H):=by
 intro pins s σ H xs us Q I r h
 obtain⟨a,ks,c,b,rfl,od,e,q⟩:=h
 obtain⟨u,w',rfl,ru,rw'⟩:=zZ r
 cases ru
 cases rw'
 obtain⟨le,lo,ys,r,⟨o,es,ep,g,cl,_⟩,hx⟩:=JK I od
 exact PySem.W.kia_one PySem.W.kitx_dict I.kIn ⟨o,g,cl.1⟩ e (λz=>nomatch z) λtk=>⟨.bl b,H,I.tok tk,rfl,q⟩
end
end L2
set_option Elab.async false
set_option linter.all false
set_option maxRecDepth 100000
set_option maxHeartbeats 4000000
namespace L2
open PySem PySem.Spec PyProof.Rows
def QD:qw->Str
 | .inr x=>x
 | .inl _=>""
def QI (kvs:List (qw×V)):List OV:=kvs.map λp=>(.s (QD p.1),kV p.1,p.2)
def Yn:OK->Bool
 | .s _=>true
 | _=>false
section
variable {P:Program} {w:World}
theorem Yc:∀{es:List DictEntry} {vs:List (qw×Value)} {kvs:List (qw×V)},Pairs (qF P w) es vs->KV kvs vs->(∀p∈kvs,∃z,p.1=Sum.inr z)->(∀e∈es,∃k,(qF P w).is k e.key=true/\e.hash=(qF P w).hash k)->
   ∃xs:List OE,Paired Zj (QI kvs) xs/\es=xs.map (QK (XL P w))
 | _,_,_,.nil,.nil,_,_=>⟨[],.nil,rfl⟩
 | _,_,_,.cons (e:=e) h1 h2 t,.cons (a:=p) r r',hz,hk=>by
   obtain⟨xs,a,b⟩:=Yc t r' (λp hp=>hz p (List.mem_cons_of_mem _ hp)) λe he=>hk e (List.mem_cons_of_mem _ he)
   obtain⟨z,ez⟩:=hz p List.mem_cons_self
   obtain⟨k,k1,k2⟩:=hk e List.mem_cons_self
   rw[<-r.1,ez]at h1
   have ek:k=Sum.inr z:=(qF P w).inj _ _ _ k1 h1
   subst ek
   obtain⟨eh,ekey,ev⟩:=e
   rcases qV (show Za (Sum.inr z) ekey=true from h1) with ⟨i,t',q,_⟩ | ⟨y,t',q,q'⟩
   . cases q
   . cases q
     have k2:eh=(qF P w).hash (Sum.inr z):=k2
     have h2:ev=_:=h2
     refine⟨(.s z,ekey,ev)::xs,.cons ⟨?_,?_,?_⟩ a,?_⟩
     . show OK.s z=OK.s (QD p.1)
       rw[ez]
       rfl
     . show qN (kV p.1) ekey
       rw[ez]
       exact⟨t',q'⟩
     . show qN p.2 ev
       rw[h2]
       exact r.2
     . rw[List.map_cons,b,k2]
       rfl
theorem XG {kvs:List (qw×V)} (hn:(kvs.map (·.1)).Nodup) (hz:∀p∈kvs,∃z,p.1=Sum.inr z):((QI kvs).map (·.1)).Nodup:=by
 unfold QI
 rw[List.map_map]
 induction kvs with
 | nil=>exact List.nodup_nil
 | cons p kvs ih=>
   rw[List.map_cons,List.nodup_cons]at hn ⊢
   refine⟨λm=>?_,ih hn.2 λq hq=>hz q (List.mem_cons_of_mem _ hq)⟩
   obtain⟨q,hq,e⟩:=List.mem_map.mp m
   obtain⟨z,ez⟩:=hz p List.mem_cons_self
   obtain⟨z',ez'⟩:=hz q (List.mem_cons_of_mem _ hq)
   have e:OK.s (QD q.1)=OK.s (QD p.1):=e
   rw[ez,ez']at e
   cases e
   exact hn.1 (List.mem_map.mpr ⟨q,hq,ez'.trans ez.symm⟩)
theorem uU {h:Heap} {a:Addr} {vs:List (qw×Value)} {kvs:List (qw×V)} (rel:KV kvs vs) (hz:∀p∈kvs,∃z,p.1=Sum.inr z) (dd:h.DictOf (qF P w) a vs):∃xs,Paired Zj (QI kvs) xs/\Q3 P w h a xs:=by
 obtain⟨o,es,ep,g,c,d,hk,hp,hn⟩:=dd
 obtain⟨xs,r,e⟩:=Yc hp rel hz λe he=>hk e (Array.mem_toList_iff.mp he)
 refine⟨xs,r,o,es,ep,g,c,d,e,?_⟩
 rw[Jm r]
 refine XG ?_ hz
 have:∀{kvs:List (qw×V)} {vs:List (qw×Value)},KV kvs vs->kvs.map (·.1)=vs.map (·.1):=λ{kvs vs} r=>by
   induction r with
   | nil=>rfl
   | cons ra _ ih=>rw[List.map_cons,List.map_cons,ra.1,ih]
 rw[this rel]
 exact hn
theorem Paired.er {α β:Type} {R:α->β->Prop}:∀{as:List α} {bs:List β} (j:Nat),Paired R as bs->Paired R (as.eraseIdx j) (bs.eraseIdx j)
 | _,_,_,.nil=>.nil
 | _,_,0,.cons r u=>u
 | _,_,j+1,.cons r u=>.cons r (Paired.er j u)
theorem Paired.at_ {α β:Type} {R:α->β->Prop}:∀{as:List α} {bs:List β} {j:Nat} {a:α},Paired R as bs->as[j]?=some a->∃b,bs[j]?=some b/\R a b
 | _,_,_,_,.nil,e=>by simp at e
 | _,_,0,_,.cons r u,e=>by cases e;exact⟨_,rfl,r⟩
 | _,_,j+1,_,.cons r u,e=>Paired.at_ (j:=j) u (by simpa using e)
theorem W7 {H':Hp} {h':Heap} {a:Addr} {ks:List OV} {xs:List OE} (z:ks.length<=sizeLine) (lo:(a==sysModules)=false) (r:Paired Zj ks xs) (d:Q3 P w h' a xs):qU P w H' h' a (JP P w a ks):=
 ⟨⟨z,lo,xs,r,d⟩,let ⟨o,_,_,g,_⟩:=d;⟨o,g⟩,λh1 h2 ⟨z,lo,xs,r,d⟩ k=>⟨z,lo,xs,r,d.keep k⟩⟩
end
def w6 (P:Program) (w:World) (K:PySem.W.Frag) (td ty tv:TE):TS:=λD σ H=>tv σ H λv H1=>td σ H1 λx H2=>ty σ H2 λy H3=>∃a,x=.ref a/\((∃H4,Qu H3 a y v H4/\D.nx σ H4)\/
 ∃kvs k,H3 a=some (.dK kvs)/\(∀p∈kvs,∃z,p.1=Sum.inr z/\PyData.strOk z=true)/\Yn k=false/\Vv K H3 k y/\kvs.length < sizeLine/\D.nx σ (upd H3 a (JP P w a (QI kvs++[(k,y,v)]))))
section
variable {X:Cx} {o i e value:Expr} {pos pos' apos cpos:Pos} {td ty tv:TE}
theorem ki (hu:X.A.units+64 < cLine) (ho:JE X o td) (hi:JE X i ty) (hv:JE X value tv) (hs:swapsWith value (some (.Subscript o i pos')) pos.line X.env=pure false):JS X (.Assign [.Subscript o i pos'] value pos) (w6 X.prog X.w X.K td ty tv):=.of (by
 have ho:=ho.to
 have hi:=hi.to
 have hv:=hv.to
 intro pins s σ H D I h
 refine wpAny_Assign_Subscript (ja (hv pins s σ H _ I h) λr s1 ⟨v,H1,I1,rv,q1⟩=>ja (ho pins s1 σ H1 _ I1 q1) λu s2 ⟨x,H2,I2,rx,q2⟩=>ja (hi pins s2 σ H2 _ I2 q2) λiv s3 ⟨y,H3,I3,ry,a,ex,q3⟩=>?_) hs
 subst ex
 obtain rfl:u=Value.ref a:=rx
 rcases q3 with ⟨H4,g,q3⟩ | ⟨kvs,k,ea,hz,nt,ko,lt,q3⟩
 . exact Yr (by omega) I3 g ry rv λs4 I4=>⟨σ,H4,I4,q3⟩
 . obtain⟨z,hd,vs,rel,dd⟩:=Yq I3.hok ea
   obtain⟨xs,r,d⟩:=uU rel (λp hp=>let ⟨z,e,_⟩:=hz p hp;⟨z,e⟩) dd
   have hx:∀x∈xs,jJ s3.heap x.1 x.2.1/\Yn x.1=true:=λx hx'=>by
     obtain⟨j,hj⟩:=List.getElem?_of_mem hx'
     have hj':j < (QI kvs).length:=by rw[Paired.length r];exact(List.getElem?_eq_some_iff.mp hj).1
     obtain⟨b,e1,e2⟩:=Paired.at_ r (List.getElem?_eq_getElem hj')
     rw[hj]at e1
     cases e1
     have m:(QI kvs)[j]∈QI kvs:=List.getElem_mem hj'
     generalize (QI kvs)[j]=t at m e2
     obtain⟨p,hp,rfl⟩:=List.mem_map.mp m
     obtain⟨z',ez,sz⟩:=hz p hp
     obtain⟨c1,c2,_⟩:=e2
     simp only[ez]at c1 c2
     rw[c1]
     exact⟨⟨sz,c2⟩,rfl⟩
   refine yZ (k:=k) (by omega) (ko.at I3 ry) (λx hx'=>(hx x hx').1) (by rw[<-Paired.length r];unfold QI;rw[List.length_map];omega) d ?_ λh' t dd' hs'=>?_
   . refine List.findIdx?_eq_none_iff.mpr λx hx'=>decide_eq_false λe=>?_
     have:=(hx x hx').2
     rw[e,nt]at this
     cases this
   . refine⟨σ,_,QW I3 (by rw[ea];exact True.intro) hs' (let ⟨o,_,_,g,_⟩:=dd';⟨o,g⟩) (W7 ?_ hd (Paired.app r (.cons ⟨rfl,ry,rv⟩ .nil)) dd'),q3⟩
     rw[List.length_append]
     unfold QI
     rw[List.length_map]
     exact lt)
def wQ (P:Program) (w:World) (K:PySem.W.Frag) (td ty:TE):TE:=λσ H Q=>td σ H λx H1=>∃a,x=.ref a/\(Gv H1 a\/∃ks,OddAt P w K H1 a ks)/\ty σ H1 λy H2=>
 (∃kvs k v,H2 a=some (.dK kvs)/\y=kV k/\qD kvs k=some v/\Q v (upd H2 a (.dK (Qt kvs k))))\/
 ∃(ks:List OV) (z:Str) (j:Nat) (t:OV),OddAt P w K H2 a ks/\y=.str z/\PyData.strOk z=true/\(ks.findIdx? λx=>decide (x.1=.s z))=some j/\ks[j]?=some t/\Q t.2.2 (upd H2 a (JP P w a (ks.eraseIdx j)))
theorem Ue {ks:List OV} {xs:List OE} {k:OK} (r:Paired Zj ks xs):zU xs k=ks.findIdx? λx=>decide (x.1=k):=by
 have a:∀{α:Type} (f:α->OK) (l:List α),(l.findIdx? λx=>decide (f x=k))=(l.map f).findIdx? λc=>decide (c=k):=λf l=>by rw[List.findIdx?_map];rfl
 unfold zU
 rw[a (λx:OE=>x.1) xs,a (λx:OV=>x.1) ks,Jm r]
theorem y8 {pins:List (Addr×Obj)} {σ:St} {H:Hp} {s:Shared} {a:Addr} {ks:List OV} (I:qy X pins σ H s) (od:OddAt X.prog X.w X.K H a ks):s.TypeIs (.ref a) "dict"/\∀b,Value.ref a=.ref b->∃ob,s.heap.get? b=some ob/\ob.dict=none:=by
 obtain⟨_,_,xs,_,⟨o,es,ep,g,c,_⟩,_⟩:=JK I od
 exact⟨⟨o,g,c.1⟩,λb e=>by cases e;exact⟨o,g,c.2.1⟩⟩
theorem kq (hu:X.A.units+64 < cLine) (ho:JE X o td) (he:JE X e ty) (m:M1 X o "pop" apos e cpos):JE X (.Call (.Attribute o "pop" apos) [e] [] cpos) (wQ X.prog X.w X.K td ty):=.of (by
 have ho:=ho.to
 have he:=he.to
 intro pins s σ H Q I h
 refine wpAny_Call_method m.base m.few m.line PySem.F.plainAttrs_dict PySem.F.slot_dict_pop PySem.F.type_dict_pop (ja (ho pins s σ H _ I h) λu s1 ⟨x,H1,I1,rx,a,ex,d,q1⟩=>?_)
 subst ex
 obtain rfl:u=Value.ref a:=rx
 have t12:s1.TypeIs (.ref a) "dict"/\∀b,Value.ref a=.ref b->∃ob,s1.heap.get? b=some ob/\ob.dict=none:=by
   rcases d with d | ⟨ks,od⟩
   . obtain⟨t1,t2,_⟩:=Wq I1 d
     exact⟨t1,t2⟩
   . exact y8 I1 od
 refine⟨t12.1,t12.2,?_⟩
 rw[m.trees]
 refine Calls.callWith_builtin rfl (Calls.evalArgs_plain (Calls.spliced_cons (ja (he pins s1 σ H1 _ I1 q1) λiv s2 ⟨y,H2,I2,ry,q2⟩=>Calls.spliced_nil ?_)))
 rcases q2 with ⟨kvs,k,v,ea,ey,l,q2⟩ | ⟨ks,z,j,t,od,ey,sz,ej,gj,q2⟩
 . subst ey
   exact Gg I2 ea ry l (.inl rfl) λw' s3 I3 rw'=>⟨v,_,I3,rw',q2⟩
 . subst ey
   obtain⟨tk,rfl⟩:=ry
   obtain⟨le,lo,xs,r,dd,hx⟩:=JK I2 od
   obtain⟨b,gb,rb⟩:=Paired.at_ r gj
   refine y6 (by omega) ⟨sz,tk,rfl⟩ hx (by rw[<-Paired.length r];exact le) dd ((Ue r).trans ej) gb λh' t' d' hs'=>⟨_,_,QW I2 (by rw[od.1];exact True.intro) hs' (let ⟨o,_,_,g,_⟩:=d';⟨o,g⟩) (W7 ?_ lo (Paired.er j r) d'),rb.2.2,q2⟩
   exact Nat.le_trans (List.length_eraseIdx_le ..) le)
end
end L2
set_option Elab.async false
set_option linter.all false
set_option maxRecDepth 100000
set_option maxHeartbeats 4000000
namespace L2
open PySem PySem.Spec PyProof.Rows
theorem Rd.mono {H H':Hp} {a:Addr} {u:HO} (r:Rd H a u) (s:∀b o,H b=some o->H' b=some o):Rd H' a u:=r.elim (λe=>.inl (s _ _ e)) λ⟨o,e⟩=>.inr ⟨o,s _ _ e⟩
theorem jC.r {H:Hp} {a:Addr} {kvs:List (qw×V)} {k:qw} (e:Rd H a (.dK kvs)):jC H a (kV k) (qD kvs k):=.inl ⟨kvs,k,e,rfl,rfl⟩
section
variable {X:Cx}
theorem Yt:jn X (.builtin "len") (λxs H Q=>∃a kvs,xs=[V.ref a]/\Rd H a (.dK kvs)/\Q (.int kvs.length) H):=by
 intro pins s σ H xs us Q I r h
 obtain⟨a,kvs,rfl,ha,q⟩:=h
 obtain⟨u,rfl,ru⟩:=jW r
 cases ru
 exact wF I ha λt s' I'=>⟨.int kvs.length,H,I',⟨t,rfl⟩,q⟩
theorem zN:jn X (.builtin "isinstance") (λxs H Q=>∃(a:Addr) (kvs:List (qw×V)) (c:String) (b:Bool),xs=[.ref a,.ty c]/\Rd H a (.dK kvs)/\PySem.W.kitOne X.K (.type "dict") (.type c)=some b/\Q (.bl b) H):=by
 intro pins s σ H xs us Q I r h
 obtain⟨a,ks,c,b,rfl,rd,e,q⟩:=h
 obtain⟨u,w',rfl,ru,rw'⟩:=zZ r
 cases ru
 cases rw'
 obtain⟨_,_,vs,_,o,es,ep,g,cl,_⟩:=(show qU X.prog X.w H s.heap a (.dK ks) from rd.ok I.hok)
 exact PySem.W.kia_one PySem.W.kitx_dict I.kIn ⟨o,g,cl.1⟩ e (λz=>nomatch z) λtk=>⟨.bl b,H,I.tok tk,rfl,q⟩
theorem zK:jn X (.builtin "sorted") (λxs H Q=>∃(p:Addr) (ns:List Int),xs=[.ref p]/\SqL X.K H p (ns.map V.int)/\ns.length < 64/\∀(l:Addr) (ms:List Int),H l=none->ms.Perm ns->ms.Pairwise (·<=·)->Q (.ref l) (upd H l (.lst (ms.map V.int)))):=by
 intro pins s σ H xs us Q I r h
 obtain⟨p,ns,rfl,hq,l64,q⟩:=h
 obtain⟨u,rfl,ru⟩:=jW r
 cases ru
 obtain⟨its,rv,pl,_⟩:=I.list hq
 have le:its.length=ns.length:=by rw[<-rv.length,List.length_map]
 refine PyProof.Rows.sorted_ints pl.isList (zy rv) (by omega) λout ms hI pm pw=>?_
 have big:∀b o,s.heap.get? b=some o->b≠s.heap.objs.size/\b≠s.heap.objs.size+1:=λb o e=>⟨Nat.ne_of_lt (Heap.lt_size e),Nat.ne_of_lt (Nat.lt_succ_of_lt (Heap.lt_size e))⟩
 have sz:((s.heap.push (seqObj "list" #[] 0)).update s.heap.objs.size (Obj.mapSeq (·++its.toArray))).objs.size=s.heap.objs.size+1:=by rw[Heap.size_update];exact Heap.size_push ..
 have kf:∀b o,s.heap.get? b=some o->(sortedAll s.heap its out).get? b=some o:=λb o e=>by
   unfold sortedAll sortedHeap
   rw[Heap.get?_update_other _ _ (Ne.symm (big b o e).2)]
   refine Heap.get?_push_of_some _ (Heap.get?_push_of_some _ ?_)
   rw[Heap.get?_update_other _ _ (Ne.symm (big b o e).2)]
   refine Heap.get?_push_of_some _ ?_
   rw[Heap.get?_update_other _ _ (Ne.symm (big b o e).1)]
   exact Heap.get?_push_of_some _ e
 have o1:(((s.heap.push (seqObj "list" #[] 0)).update s.heap.objs.size (Obj.mapSeq (·++its.toArray))).push (seqObj "list" its.toArray 0)).get? (s.heap.objs.size+1)=some (seqObj "list" its.toArray 0):=by
   rw[<-sz]
   exact Heap.get?_push_size _ rfl
 obtain⟨c2,o2⟩:∃c,((((s.heap.push (seqObj "list" #[] 0)).update s.heap.objs.size (Obj.mapSeq (·++its.toArray))).push (seqObj "list" its.toArray 0)).update (s.heap.objs.size+1) (Obj.mapSeq λ_=>#[])).get? (s.heap.objs.size+1)=some (seqObj "list" #[] c):=⟨_,get?_update_seq o1 (λ_=>#[])⟩
 obtain⟨c3,o3⟩:∃c,(sortedAll s.heap its out).get? (s.heap.objs.size+1)=some (seqObj "list" out c):=⟨_,get?_update_seq (Heap.get?_push_of_some _ (Heap.get?_push_of_some _ o2)) (λ_=>out)⟩
 have lm:=pm.length_eq
 have vm:∀(ms:List Int) (us:List Value),IntsAre us ms->qL (ms.map V.int) us:=λms us h=>by
   induction h with
   | nil=>exact .nil
   | cons i t _ ih=>exact .cons ⟨t,rfl⟩ ih
 refine⟨.ref (s.heap.objs.size+1),_,I.laid (t':=s.toks) (o:=.lst (ms.map V.int)) kf (Nat.le_succ _) ⟨by rw[List.length_map,lm,sizeLine_eq];omega,out.toList,c3,vm _ _ hI,by rw[Array.toArray_toList];exact o3⟩,rfl,q _ ms (I.hok.fresh (Nat.le_succ _)) pm pw⟩
theorem zE {P:Program} {w:World} {H:Hp} {h:Heap} {a:Addr} {o:Obj} {kvs:List (qw×V)} (ok:Jx P w H h) (e:H a=some (.frz o (.dK kvs))):(a==sysModules)=false/\∃vs,KV kvs vs/\h.DictAt (qF P w) a vs (xM o):=by
 obtain⟨ho,z,hd,vs,rel,o',es,ep,ho',ex,dat,r⟩:=(show qU P w H h a (.frz o (.dK kvs)) from ok a _ e)
 rw[ho]at ho'
 cases ho'
 refine⟨hd,vs,rel,o,es,ho,ex,?_,r⟩
 unfold xM
 rw[dat]
theorem K2 {kvs:List (qw×V)} {vs:List (qw×Value)} (r:KV kvs vs) {i:Nat} {p:qw×Value} (e:vs[i]?=some p):∃kv,kvs[i]?=some kv/\qN kv.2 p.2:=by
 induction r generalizing i with
 | nil=>simp at e
 | cons ra _ ih=>
   cases i with
   | zero=>cases e;exact⟨_,rfl,ra.2⟩
   | succ i=>exact ih (by simpa using e)
def RZ (a:Addr) (o:Obj) (kvs:List (qw×V)):It:=⟨λi H=>H a=some (.frz o (.dK kvs))/\i < kvs.length,λi H v H'=>H'=H/\∃kv,kvs[i]?=some kv/\v=kv.2,λi H=>H a=some (.frz o (.dK kvs))/\i=kvs.length⟩
theorem Vx {P:Program} {w:World} {K:PySem.W.Frag} {tg:Expr} (a it:Addr) (o:Obj) (kvs:List (qw×V)):X1 P w K tg (RZ a o kvs) [it] it (λi h=>h.IsValIter it a i kvs.length (xM o)) where
 mem:=by simp
 obj:=λi h st b hb=>by
   have e:b=it:=by simpa using hb
   subst e
   obtain⟨o,e,c,d⟩:=st
   exact⟨o,e,λv z=>by rw[d]at z;cases z⟩
 keep:=λi h h' st k=>let ⟨o,e,r⟩:=st;⟨o,k it (by simp) o e,r⟩
 item:=by
   intro X hP hw hK hc i pins s σ H E I hf st hg
   subst hP hw hK
   obtain⟨f0,f1,f2,f3,f4,f5⟩:=hf it (by simp)
   obtain⟨ea,hi⟩:=hg
   obtain⟨_,vs,rel,da⟩:=zE I.hok ea
   have le:=Paired.length rel
   obtain⟨⟨kk,v⟩,hx⟩:∃p,vs[i]?=some p:=⟨_,List.getElem?_eq_getElem (by omega)⟩
   obtain⟨kv,e1,r1⟩:=K2 rel hx
   rw[le]at st
   refine wpAny_pyNext_values_item st da hx λh' st' sb=>?_
   have I1:qy X pins σ H {s with heap:=h',toks:=s.toks}:=I.turned (λb o hb e=>(sb.2 b hb).trans e) f0 f1 f3 f4 f5
   obtain⟨o2,e2,c2,d2⟩:=id st'
   exact⟨_,rfl,XM (s:={s with heap:=h'}) e2 c2 d2 (by decide) ⟨kv.2,H,I1,r1,⟨rfl,kv,e1,rfl⟩,by rw[le];exact st',λb hb=>(hf b hb).1⟩⟩
 done:=by
   intro X hP hw hK hc i pins s σ H E I hf st hg
   subst hP hw hK
   obtain⟨f0,f1,f2,f3,f4,f5⟩:=hf it (by simp)
   obtain⟨ea,hi⟩:=hg
   obtain⟨_,vs,rel,da⟩:=zE I.hok ea
   have le:=Paired.length rel
   rw[le]at st hi
   exact wpAny_pyNext_values_end (I.ok.hd hc) st da (List.getElem?_eq_none (by omega)) λh' kk=>⟨rfl,I.turned (t':=s.toks) (λb o hb e=>kk b o hb e) f0 f1 f3 f4 f5⟩
 self:=λ_ _ _ _ _ st h=>wpAny_pyIter_valiter st h
def K7 (tl:TE):TI:=λσ H R=>tl σ H λx H1=>∃a o kvs,x=.ref a/\H1 a=some (.frz o (.dK kvs))/\R (RZ a o kvs) H1
theorem xt {l tg:Expr} {tl:TE} {ap cp:Pos} (hl:JE X l tl) (hbase:attributeBase l "values" X.env (eval l X.env)=eval l X.env:=by rfl) (hline:(ap.endLine==cp.line)=true:=by rfl):JI X tg (.Call (.Attribute l "values" ap) [] [] cp) (K7 tl):=.of (by
 have hl:=hl.to
 intro pins s σ H R I h
 refine wpAny_Call_method0_late hbase hline (ja (hl pins s σ H _ I h) λv s1 ⟨x,H1,I1,r1,q1⟩=>?_)
 obtain⟨a,o,kvs,e,ea,q⟩:=q1
 subst e
 cases r1
 obtain⟨hd,vs,rel,da⟩:=zE I1.hok ea
 refine⟨"dict","dict.values",PySem.F.plainAttrs_dict,PySem.F.slot_dict_values,PySem.F.type_dict_values,da.dictOf.typeIs,?_,Calls.callWith_builtin rfl (PySem.evalArgs_none ?_)⟩
 . exact da.dictOf.mapOf.noDict
 refine call_meetsIn PySem.F.slot_dict_values da.dictOf.typeIs PySem.F.entry_dict_values (PySem.F.args_dict_values_1 _) (meets_dict_values (qF X.prog X.w) a hd) ?_
 refine⟨⟨_,da.dictOf⟩,?_⟩
 refine(show wpAny (model X.prog X.w) X.A (pyIter (.ref s1.heap.objs.size)) _ X.xe {s1 with heap:=s1.heap.push {cls:=.type "dict_values",data:=.fields #[.ref a]}} from wpAny_pyIter_values (knd:=qF X.prog X.w) (s:={s1 with heap:=s1.heap.push {cls:=.type "dict_values",data:=.fields #[.ref a]}}) ⟨_,Heap.get?_push_size _ rfl,rfl,rfl⟩ (da.push _) ?_)
 have le:=Paired.length rel
 have kp:∀b ob,s1.heap.get? b=some ob->((s1.heap.push {cls:=.type "dict_values",data:=.fields #[.ref a]}).push {cls:=.type "dict_valueiterator",data:=.fields #[.ref a,.int 0 0,.int vs.length 0,.int (xM o) 0]}).get? b=some ob:=λb ob e=>Heap.get?_push_of_some _ (Heap.get?_push_of_some _ e)
 have sz1:(s1.heap.push {cls:=.type "dict_values",data:=.fields #[.ref a]}).objs.size=s1.heap.objs.size+1:=Heap.size_push ..
 refine⟨(s1.heap.push {cls:=.type "dict_values",data:=.fields #[.ref a]}).objs.size,[(s1.heap.push {cls:=.type "dict_values",data:=.fields #[.ref a]}).objs.size],_,_,H1,rfl,I1.kept (t':=s1.toks) kp,Vx a _ o kvs,?_,λb hb=>?_,q⟩
 . rw[le]
   exact⟨_,Heap.get?_push_size _ rfl,rfl,rfl⟩
 . have e:b=(s1.heap.push {cls:=.type "dict_values",data:=.fields #[.ref a]}).objs.size:=by simpa using hb
   subst e
   have le:s1.heap.objs.size<=(s1.heap.push {cls:=.type "dict_values",data:=.fields #[.ref a]}).objs.size:=by omega
   exact I1.fpOk le (I1.hok.fresh le))
def Kk (te:TE):TE:=λσ H Q=>te σ H λx H1=>∃a kvs,x=.ref a/\Rd H1 a (.dK kvs)/\∀o H2,(∀b,b≠a->H2 b=H1 b)->H2 a=some (.frz o (.dK kvs))->Q x H2
theorem xy {e:Expr} {te:TE} (h:JE X e te):JE X e (Kk te):=.of (by
 have h:=h.to
 intro pins s σ H Q I hw
 refine ja (h pins s σ H _ I hw) λv s1 ⟨x,H1,I1,r1,a,kvs,ex,rd,q⟩=>?_
 rcases rd with ea | ⟨o,ea⟩
 . obtain⟨o,I2⟩:=I1.freeze ea
   exact⟨x,_,I2,r1,q o _ (λb hb=>qk hb) qd⟩
 . exact⟨x,_,I1,r1,q o _ (λ_ _=>rfl) ea⟩)
end
end L2
set_option Elab.async false
set_option linter.all false
set_option maxRecDepth 100000
set_option maxHeartbeats 4000000
namespace L2
open PySem PySem.Spec PyProof.Rows
section
variable {X:Cx}
def Rt (K:PySem.W.Frag):R2:=λx y H Q=>∃d d',DV K H x d/\DV K H y d'/\PySem.SeqAt.shaped d=true/\PySem.SeqAt.shaped d'=true/\Q (.bl (!PyData.eqv d d')) H
theorem vq (hu:X.A.units+64 < cLine):QM X (compareOp .NotEq) (Rt X.K):=by
 intro pins s σ H x y v u Q I rx ry h
 obtain⟨d,d',h1,h2,hs,hs',q⟩:=h
 obtain⟨as,ra⟩:=h1.reads I rx
 obtain⟨bs,rb⟩:=h2.reads I ry
 exact SeqAt.compareNe_shaped ra rb hs hs' hu ⟨.bl _,H,I,rfl,q⟩
end
theorem xQ {α:Type} {K:PySem.W.Frag} {a D:Addr} {xs:List α} {enc:α->Addr} {fa fb:α->V} {out:α->Option V} {rest:St} {H:Hp} {tt:TT} {te:TE} {Q:Hp->Prop} (hD:H D=none) (ha:H a=some (.lst (xs.map λx=>V.ref (enc x)))) (len:xs.length < sizeLine)
   (hx:∀x∈xs,SqT K H (enc x) [fa x,fb x])
   (ht:∀x∈xs,∀G,(∀b o,H b=some o->G b=some o)->∀R:Bool->Hp->Prop,(∀G',(∀b o,G b=some o->G' b=some o)->R (out x).isSome G')->tt (some (fa x)::some (fb x)::rest) G R)
   (he:∀x∈xs,∀v,out x=some v->∀G,(∀b o,H b=some o->G b=some o)->∀R:V->Hp->Prop,(∀G',(∀b o,G b=some o->G' b=some o)->R v G')->te (some (fa x)::some (fb x)::rest) G R)
   (k:∀G,(∀b o,H b=some o->G b=some o)->G D=some (.lst (xs.filterMap out))->Q G):ZI (xW K a) (xH K 2 (zD (j9 0) (zD (j9 1) xI))) tt te D (none::none::rest) H Q:=by
 have sD:∀b o,H b=some o->upd H D (.lst []) b=some o:=λb o h=>by
   rw[qk (λe=>by rw[e,hD]at h;cases h)]
   exact h
 refine Qb (K:=K) (a:=a) (xs:=xs.map λx=>V.ref (enc x)) (λi σ' G=>(∃v0 v1,σ'=v0::v1::rest)/\(∀b o,H b=some o->G b=some o)/\G D=some (.lst ((xs.take i).filterMap out))) ⟨⟨none,none,rfl⟩,sD,qd⟩ (λi σ' G _ ⟨_,s,_⟩=>.of (s _ _ ha)) ?_ ?_
 . rintro i y σ' G hy ⟨⟨v0,v1,rfl⟩,s,hG⟩
   rw[List.getElem?_map]at hy
   cases ex:xs[i]? with
   | none=>rw[ex]at hy;cases hy
   | some x=>
     rw[ex]at hy
     obtain rfl:=(Option.some.inj hy).symm
     have hm:x∈xs:=List.mem_of_getElem? ex
     have et:(xs.take (i+1)).filterMap out=(xs.take i).filterMap out++(out x).toList:=by
       rw[List.take_add_one,ex,List.filterMap_append]
       cases c:out x<;>simp [c]
     have sq:SqT K G (enc x) [fa x,fb x]:=by
       rcases hx x hm with (h | ⟨o,h⟩) | h
       . exact .inl (.inl (s _ _ h))
       . exact .inl (.inr ⟨o,s _ _ h⟩)
       . exact .inr h
     refine⟨enc x,_,rfl,sq,rfl,_,_,rfl,_,_,rfl,rfl,?_⟩
     show tt (some (fa x)::some (fb x)::rest) G _
     refine ht x hm G s _ λG1 s1=>?_
     cases c:out x with
     | none=>
       refine(show if false=true then _ else _ from ?_)
       rw[if_neg Bool.false_ne_true]
       refine⟨⟨_,_,rfl⟩,λb o h=>s1 _ _ (s _ _ h),?_⟩
       rw[et,c]
       simpa using s1 _ _ hG
     | some v=>
       refine(show if true=true then _ else _ from ?_)
       rw[if_pos rfl]
       refine he x hm v c G1 (λb o h=>s1 _ _ (s _ _ h)) _ λG2 s2=>?_
       refine⟨_,s2 _ _ (s1 _ _ hG),?_,⟨_,_,rfl⟩,?_,?_⟩
       . refine Nat.lt_of_le_of_lt (List.length_filterMap_le _ _) ?_
         rw[List.length_take]
         omega
       . intro b o h
         rw[qk (λe=>by rw[e,hD]at h;cases h)]
         exact s2 _ _ (s1 _ _ (s _ _ h))
       . rw[et,c]
         exact qd
 . rintro σ' G ⟨_,s,hG⟩
   rw[List.length_map,List.take_of_length_le (Nat.le_refl _)]at hG
   exact k G s hG
theorem kR {a D:Addr} {o:Obj} {kvs:List (qw×V)} {out:qw×V->Option V} {rest:St} {H:Hp} {tt:TT} {te:TE} {Q:Hp->Prop} (hD:H D=none) (ha:H a=some (.frz o (.dK kvs))) (len:kvs.length < sizeLine)
   (ht:∀x∈kvs,∀G,(∀b o,H b=some o->G b=some o)->∀R:Bool->Hp->Prop,(∀G',(∀b o,G b=some o->G' b=some o)->R (out x).isSome G')->tt (some x.2::rest) G R)
   (he:∀x∈kvs,∀v,out x=some v->∀G,(∀b o,H b=some o->G b=some o)->∀R:V->Hp->Prop,(∀G',(∀b o,G b=some o->G' b=some o)->R v G')->te (some x.2::rest) G R)
   (k:∀G,(∀b o,H b=some o->G b=some o)->G D=some (.lst (kvs.filterMap out))->Q G):ZI (RZ a o kvs) (j9 0) tt te D (none::rest) H Q:=by
 have sD:∀b o,H b=some o->upd H D (.lst []) b=some o:=λb o h=>by
   rw[qk (λe=>by rw[e,hD]at h;cases h)]
   exact h
 refine⟨λi m σ' G=>i+m=kvs.length/\(∃v0,σ'=v0::rest)/\(∀b o,H b=some o->G b=some o)/\G D=some (.lst ((kvs.take i).filterMap out)),⟨kvs.length,by omega,⟨none,rfl⟩,sD,qd⟩,?_⟩
 rintro i m σ' G ⟨em,⟨v0,rfl⟩,s,hG⟩
 by_cases hi:i < kvs.length
 . refine .inr ⟨⟨s _ _ ha,hi⟩,λσ2 G2=>i+1+(m - 1)=kvs.length/\(∃v0,σ2=v0::rest)/\(∀b o,H b=some o->G2 b=some o)/\G2 D=some (.lst ((kvs.take (i+1)).filterMap out)),λσ2 G2 h=>⟨m - 1,by omega,h⟩,?_⟩
   rintro y G' ⟨rfl,kv,ek,rfl⟩
   have hm:kv∈kvs:=List.mem_of_getElem? ek
   have et:(kvs.take (i+1)).filterMap out=(kvs.take i).filterMap out++(out kv).toList:=by
     rw[List.take_add_one,ek,List.filterMap_append]
     cases c:out kv<;>simp [c]
   show tt (some kv.2::rest) G' _
   refine ht kv hm G' s _ λG1 s1=>?_
   cases c:out kv with
   | none=>
     refine(show if false=true then _ else _ from ?_)
     rw[if_neg Bool.false_ne_true]
     refine⟨by omega,⟨_,rfl⟩,λb o h=>s1 _ _ (s _ _ h),?_⟩
     rw[et,c]
     simpa using s1 _ _ hG
   | some v=>
     refine(show if true=true then _ else _ from ?_)
     rw[if_pos rfl]
     refine he kv hm v c G1 (λb o h=>s1 _ _ (s _ _ h)) _ λG2 s2=>?_
     refine⟨_,s2 _ _ (s1 _ _ hG),?_,by omega,⟨_,rfl⟩,?_,?_⟩
     . refine Nat.lt_of_le_of_lt (List.length_filterMap_le _ _) ?_
       rw[List.length_take]
       omega
     . intro b o h
       rw[qk (λe=>by rw[e,hD]at h;cases h)]
       exact s2 _ _ (s1 _ _ (s _ _ h))
     . rw[et,c]
       exact qd
 . have ei:i=kvs.length:=by omega
   refine .inl ⟨⟨s _ _ ha,ei⟩,k G s ?_⟩
   rw[hG,ei,List.take_of_length_le (Nat.le_refl _)]
end L2
set_option Elab.async false
set_option linter.all false
set_option maxRecDepth 100000
set_option maxHeartbeats 4000000
namespace L2
open PySem PySem.Spec PyProof.Rows
mutual
inductive DW (K:PySem.W.Frag) (H:Hp):V->PyData->Prop
 | non:DW K H .non .none
 | bl (b:Bool):DW K H (.bl b) (.bool b)
 | int (i:Int):DW K H (.int i) (.int i)
 | str (x:Str):DW K H (.str x) (.str x)
 | lst {a:Addr} {xs:List V} {ds:List PyData}:SqL K H a xs->a≠sysModules->DWs K H xs ds->DW K H (.ref a) (.list ds)
 | tup {a:Addr} {xs:List V} {ds:List PyData}:SqT K H a xs->DWs K H xs ds->DW K H (.ref a) (.tuple ds)
inductive DWs (K:PySem.W.Frag) (H:Hp):List V->List PyData->Prop
 | nil:DWs K H [] []
 | cons {x:V} {xs:List V} {d:PyData} {ds:List PyData}:DW K H x d->DWs K H xs ds->DWs K H (x::xs) (d::ds)
end
mutual
theorem DW.dv {K:PySem.W.Frag} {H:Hp}:∀{x:V} {d:PyData},DW K H x d->DV K H x d
 | _,_,.non=>.non
 | _,_,.bl b=>.bl b
 | _,_,.int i=>.int i
 | _,_,.str x=>.str x
 | _,_,.lst q n hs=>.lst q (DWs.dv hs)
 | _,_,.tup q hs=>.tup q (DWs.dv hs)
theorem DWs.dv {K:PySem.W.Frag} {H:Hp}:∀{xs:List V} {ds:List PyData},DWs K H xs ds->DVs K H xs ds
 | _,_,.nil=>.nil
 | _,_,.cons h hs=>.cons (DW.dv h) (DWs.dv hs)
end
mutual
theorem DW.keep {K:PySem.W.Frag} {H H':Hp} (k:∀b u,((∃xs,u=.lst xs)\/∃xs,u=.tup xs)->Rd H b u->Rd H' b u):∀{x:V} {d:PyData},DW K H x d->DW K H' x d
 | _,_,.non=>.non
 | _,_,.bl b=>.bl b
 | _,_,.int i=>.int i
 | _,_,.str x=>.str x
 | _,_,.lst q n hs=>.lst (q.elim (λe=>.inl (k _ _ (.inl ⟨_,rfl⟩) e)) .inr) n (DWs.keep k hs)
 | _,_,.tup q hs=>.tup (q.elim (λe=>.inl (k _ _ (.inr ⟨_,rfl⟩) e)) .inr) (DWs.keep k hs)
theorem DWs.keep {K:PySem.W.Frag} {H H':Hp} (k:∀b u,((∃xs,u=.lst xs)\/∃xs,u=.tup xs)->Rd H b u->Rd H' b u):∀{xs:List V} {ds:List PyData},DWs K H xs ds->DWs K H' xs ds
 | _,_,.nil=>.nil
 | _,_,.cons h hs=>.cons (DW.keep k h) (DWs.keep k hs)
end
section
variable {X:Cx} {pins:List (Addr×Obj)} {σ:St} {H:Hp} {s:Shared}
mutual
theorem DW.reads (I:qy X pins σ H s):∀{x:V} {d:PyData},DW X.K H x d->∀{u:Value},qN x u->∃as,Reads s.heap u d as/\sysModules∉as
 | _,_,.non,u,r=>by cases (show u=Value.none from r);exact⟨_,.none,by simp⟩
 | _,_,.bl b,u,r=>by cases (show u=Value.bool b from r);exact⟨_,.bool b,by simp⟩
 | _,_,.int i,u,r=>by obtain⟨t,q⟩:=(show ∃t,u=Value.int i t from r);subst q;exact⟨_,.int i t,by simp⟩
 | _,_,.str x,u,r=>by obtain⟨t,q⟩:=(show ∃t,u=Value.str x t from r);subst q;exact⟨_,.str x t,by simp⟩
 | _,_,.lst (a:=a) hq n hs,u,r=>by
   cases (show u=Value.ref a from r)
   obtain⟨its,rv,⟨o,k,e,hc,hd,hda⟩,hz⟩:=I.list hq
   obtain⟨as,ra,na⟩:=DWs.reads I hs rv
   exact⟨_,.list e hc hda (by simpa using ra),by simp [Ne.symm n,na]⟩
 | _,_,.tup (a:=a) hq hs,u,r=>by
   cases (show u=Value.ref a from r)
   obtain⟨its,rv,⟨o,e,hc,k,hda⟩,hz⟩:=I.tuple hq
   obtain⟨as,ra,na⟩:=DWs.reads I hs rv
   exact⟨_,.tuple e hc hda (by simpa using ra),na⟩
theorem DWs.reads (I:qy X pins σ H s):∀{xs:List V} {ds:List PyData},DWs X.K H xs ds->∀{us:List Value},qL xs us->∃as,ReadsAll s.heap us ds as/\sysModules∉as
 | _,_,.nil,_,.nil=>⟨_,.nil,by simp⟩
 | _,_,.cons h hs,_,.cons r rs=>by
   obtain⟨as,a,na⟩:=DW.reads I h r
   obtain⟨bs,b,nb⟩:=DWs.reads I hs rs
   exact⟨_,.cons a b,by simp [na,nb]⟩
end
def kD:qw->PyData
 | .inl i=>.int i
 | .inr x=>.str x
def DWd (K:PySem.W.Frag) (H:Hp):List (qw×V)->List (qw×PyData)->Prop:=Paired λ(p:qw×V) (q:qw×PyData)=>p.1=q.1/\DW K H p.2 q.2
def DWo (K:PySem.W.Frag) (H:Hp):List OV->List (OK×PyData)->Prop:=Paired λ(p:OV) (q:OK×PyData)=>p.1=q.1/\DW K H p.2.2 q.2
inductive RW (P:Program) (w:World) (K:PySem.W.Frag) (H:Hp):V->PyData->Prop
 | dat {v:V} {d:PyData}:DW K H v d->RW P w K H v d
 | dk {a:Addr} {kvs:List (qw×V)} {ds:List (qw×PyData)}:Rd H a (.dK kvs)->DWd K H kvs ds->RW P w K H (.ref a) (.dict (ds.map λx=>(kD x.1,x.2)))
 | odd {a:Addr} {ks:List OV} {ds:List (OK×PyData)}:OddAt P w K H a ks->DWo K H ks ds->RW P w K H (.ref a) (.dict (ds.map λx=>(x.1.dat,x.2)))
theorem V7 {h:Heap} {P:Program} {w:World} {k:qw} {v:Value} (x:(qF P w).is k v=true):Reads h v (kD k) []:=by
 rcases qV (show Za k v=true from x) with ⟨i,t,rfl,rfl⟩ | ⟨y,t,rfl,rfl⟩
 . exact .int i t
 . exact .str y t
theorem XS (I:qy X pins σ H s):∀{es:List DictEntry} {vs:List (qw×Value)} {kvs:List (qw×V)} {ds:List (qw×PyData)},Pairs (qF X.prog X.w) es vs->KV kvs vs->DWd X.K H kvs ds->
   (∃as,ReadsAll s.heap (es.map (·.key)) ((ds.map λx=>(kD x.1,x.2)).map (·.1)) as/\sysModules∉as)/\∃bs,ReadsAll s.heap (es.map (·.val)) ((ds.map λx=>(kD x.1,x.2)).map (·.2)) bs/\sysModules∉bs
 | _,_,_,_,.nil,.nil,.nil=>⟨⟨_,.nil,by simp⟩,_,.nil,by simp⟩
 | _,_,_,_,.cons h1 h2 t,.cons r r',.cons d d'=>by
   obtain⟨⟨as,a,na⟩,bs,b,nb⟩:=XS I t r' d'
   rw[<-r.1,d.1]at h1
   obtain⟨cs,c,nc⟩:=d.2.reads I r.2
   rw[<-h2]at c
   exact⟨⟨_,.cons (V7 h1) a,by simpa using na⟩,_,.cons c b,by simp [nb,nc]⟩
theorem VW {h:Heap} {k:OK} {v:Value} (x:jJ h k v):Reads h v k.dat []:=by
 cases k with
 | s x'=>obtain⟨_,t,rfl⟩:=x;exact .str x' t
 | n=>cases x;exact .none
 | t=>cases x;exact .bool true
 | u x'=>
   obtain⟨_,p,o,c,t,rfl,g,cl,d⟩:=x
   exact(show Reads h (.ref p) (.tuple [.str x']) ([]++[]) from .tuple g cl d (.cons (.str x' t) .nil))
theorem XR (I:qy X pins σ H s):∀{ks:List OV} {xs:List OE} {ds:List (OK×PyData)},Paired Zj ks xs->(∀x∈xs,jJ s.heap x.1 x.2.1)->DWo X.K H ks ds->
   (∃as,ReadsAll s.heap ((xs.map (QK (XL X.prog X.w))).map (·.key)) ((ds.map λx=>(x.1.dat,x.2)).map (·.1)) as/\sysModules∉as)/\∃bs,ReadsAll s.heap ((xs.map (QK (XL X.prog X.w))).map (·.val)) ((ds.map λx=>(x.1.dat,x.2)).map (·.2)) bs/\sysModules∉bs
 | _,_,_,.nil,_,.nil=>⟨⟨_,.nil,by simp⟩,_,.nil,by simp⟩
 | _,_,_,.cons (b:=x) r r',hx,.cons d d'=>by
   obtain⟨⟨as,a,na⟩,bs,b,nb⟩:=XR I r' (λy hy=>hx y (List.mem_cons_of_mem _ hy)) d'
   have o:=hx x List.mem_cons_self
   rw[r.1,d.1]at o
   have ro:=VW o
   obtain⟨cs,c,nc⟩:=d.2.reads I r.2.2
   exact⟨⟨_,.cons ro a,by simpa using na⟩,_,.cons c b,by simp [nb,nc]⟩
def U9 (P:Program) (w:World) (K:PySem.W.Frag):List V->Hp->VK->Prop:=λxs H Q=>∃v d,xs=[v]/\RW P w K H v d/\d.showable=true/\d.depth<=60/\d.shown.length<=sizeLine/\(∀i,d=.int i->i.natAbs.log2 < 1920)/\Q (.str d.shown) H
theorem zL (hg:X.A.guards=some []) (hu:X.A.units+64 < cLine):jn X (.builtin "repr") (U9 X.prog X.w X.K):=by
 intro pins s σ H xs us Q I r h
 obtain⟨v,d,rfl,rw',h1,h2,h3,h4,q⟩:=h
 obtain⟨u,rfl,ru⟩:=jW r
 have heap:∀{a:Addr} {as:List Addr},u=.ref a->Reads s.heap u d as->sysModules∉as->wpAny (model X.prog X.w) X.A (call (.builtin "repr") [u]) (EP X pins σ Q) X.xe s:=λ{a as} e rd na=>by
   subst e
   exact repr_of_reads' rd h1 (λ_=>na) hg (by omega) (λ_ _ e=>e) (λh' t tk k=>⟨.str d.shown,H,I.kept (t':=tk) k,⟨t,rfl⟩,q⟩) h3
 cases rw' with
 | dat dw=>
   obtain⟨as,rd,na⟩:=dw.reads I ru
   cases dw with
   | non=>cases ru;exact PySem.P.repr_of_none ⟨.str _,H,I.tok _,⟨_,rfl⟩,q⟩
   | bl b=>cases ru;exact PySem.P.repr_of_bool ⟨.str _,H,I.tok _,⟨_,rfl⟩,q⟩
   | int i=>obtain⟨t,rfl⟩:=ru;exact PySem.P.repr_of_int (h4 i rfl) ⟨.str _,H,I.tok _,⟨_,rfl⟩,q⟩
   | str x=>obtain⟨t,rfl⟩:=ru;exact PySem.P.repr_of_str ⟨.str _,H,I.tok _,⟨_,rfl⟩,q⟩ h3
   | lst _ _ _=>exact heap ru rd na
   | tup _ _=>exact heap ru rd na
 | dk rd dd=>
   rename_i a kvs ds
   cases ru
   obtain⟨_,lo,vs,kv,o,es,ep,ho,hc,hdat,_,hp,_⟩:=(show qU X.prog X.w H s.heap a (.dK kvs) from rd.ok I.hok)
   obtain⟨⟨as,ra,na⟩,bs,rb,nb⟩:=XS I hp kv dd
   have n2:sysModules≠a:=λz=>by rw[<-z]at lo;exact absurd lo (by simp)
   exact heap rfl (.dict ho hc.1 hdat ra rb) (by simp [n2,na,nb])
 | odd od dd=>
   rename_i a ks ds
   cases ru
   obtain⟨_,lo,xs,r,⟨o,es,ep,ho,hc,hdat,he,_⟩,hx⟩:=JK I od
   obtain⟨⟨as,ra,na⟩,bs,rb,nb⟩:=XR I r hx dd
   have n2:sysModules≠a:=λz=>by rw[<-z]at lo;exact absurd lo (by simp)
   rw[<-he]at ra rb
   exact heap rfl (.dict ho hc.1 hdat ra rb) (by simp [n2,na,nb])
end
end L2
set_option Elab.async false
set_option linter.all false
set_option maxRecDepth 100000
set_option maxHeartbeats 4000000
namespace L2
open PySem PySem.Spec PyProof.Rows
section
variable {X:Cx}
def wv (K:PySem.W.Frag):R2:=λx y H Q=>∃a b xs ys,x=.ref a/\y=.ref b/\SqT K H a xs/\SqT K H b ys/\xs≠[]/\ys≠[]/\xs.length+ys.length<=sizeLine/\∀l,H l=none->Q (.ref l) (upd H l (.tup (xs++ys)))
theorem yQ:QM X (binaryOp .Add) (wv X.K):=by
 intro pins s σ H x y v u Q I rx ry h
 obtain⟨a,b,xs,ys,rfl,rfl,ha,hb,nx,ny,hz,q⟩:=h
 cases rx
 cases ry
 obtain⟨its,rv,⟨⟨cls,dd,data,sl⟩,ho,hc,n,hd⟩,_⟩:=I.tuple ha
 obtain⟨its2,rv2,⟨⟨cls2,dd2,data2,sl2⟩,ho2,hc2,n2,hd2⟩,_⟩:=I.tuple hb
 have l1:=rv.length
 have l2:=rv2.length
 simp only at hc hd hc2 hd2
 subst hc hd hc2 hd2
 have e:its.toArray++its2.toArray=(its++its2).toArray:=by simp
 have p1:0 < xs.length:=List.length_pos_iff.mpr nx
 have p2:0 < ys.length:=List.length_pos_iff.mpr ny
 have m1:¬its.toArray.isEmpty=true:=λz=>by
   have:its.toArray.size=0:=by simpa using z
   rw[List.size_toArray]at this
   omega
 have m2:¬its2.toArray.isEmpty=true:=λz=>by
   have:its2.toArray.size=0:=by simpa using z
   rw[List.size_toArray]at this
   omega
 refine concat_meets ⟨_,ho,rfl⟩ ⟨_,ho2,rfl⟩ noFill_tuple_add seq_tuple_add PySem.F.slot_tuple_add PySem.F.entry_tuple_add (PySem.F.args_tuple_add_2 _ _) (tuple_addW2 a b its.toArray its2.toArray n n2 dd dd2 sl sl2 m1 m2 (by simp only[List.size_toArray];omega)) ⟨ho,ho2,?_⟩
 rw[e]
 exact⟨.ref s.heap.objs.size,_,I.laid (t':=s.toks) (o:=.tup (xs++ys)) (λb u h=>Heap.get?_push_of_some _ h) (Nat.le_refl _) ⟨by rw[List.length_append];exact hz,its++its2,Paired.app rv rv2,⟨_,Heap.get?_push_size _ rfl,rfl,_,rfl⟩⟩,rfl,q _ (I.hok.fresh (Nat.le_refl _))⟩
end
end L2
set_option Elab.async false
set_option linter.all false
set_option maxRecDepth 100000
set_option maxHeartbeats 4000000
namespace L2
open PySem PySem.Spec PyProof.Rows
section
variable {X:Cx} {pins:List (Addr×Obj)} {σ:St} {H H':Hp} {s:Shared} {h':Heap}
theorem qy.laidMany {t':Nat} (I:qy X pins σ H s) (k:∀b u,s.heap.get? b=some u->h'.get? b=some u) (old:∀b o,H b=some o->H' b=some o) (new:∀b o,H' b=some o->H b=some o\/(s.heap.objs.size<=b/\qU X.prog X.w H' h' b o)):
   qy X pins σ H' {s with heap:=h',toks:=t'}:=by
 refine I.un ⟨λb u q _ _ _=>k b u q,λb u q _ _ _=>⟨u.slots,k b u q⟩,λb u q n _=>?_,λb u q _=>⟨u,k b u q⟩,λb xs q=>old _ _ q,λb u xs q=>old _ _ q,λb ps q=>⟨#[],by rw[old _ _ q];simp⟩⟩ λb o e=>?_
 . cases c:H' b with
   | none=>rfl
   | some o=>
     rcases new b o c with e | ⟨le,_⟩
     . rw[n]at e;cases e
     . exact absurd (Heap.lt_size q) (Nat.not_lt.mpr le)
 . rcases new b o e with e' | ⟨_,ok⟩
   . exact(I.hok b o e').stay (λc v _ q=>k c v q) (λc q=>old _ _ q) (λc xs q=>old _ _ q) λc o q=>old _ _ q
   . exact ok
def vZ (H:Hp) (S:Addr) (ps:List Addr) (ts:List (List V)):Hp:=λb=>if b=S then some (.lst (ps.map V.ref)) else match ps.findIdx? (λp=>decide (p=b)) with
 | some i=>match ts[i]? with
   | some t=>some (.tup t)
   | none=>H b
 | none=>H b
end
def wP (td:TE):TE:=λσ H Q=>td σ H λx H1=>∃a kvs,x=.ref a/\Rd H1 a (.dK kvs)/\∀(S:Addr) (ps:List Addr) (H2:Hp),H1 S=none->S≠sysModules->(∀b o,H1 b=some o->H2 b=some o)->H2 S=some (.lst (ps.map V.ref))->ps.length=kvs.length->
 (∀(i:Nat) (p:Addr) (kv:qw×V),ps[i]?=some p->kvs[i]?=some kv->H2 p=some (.tup [kV kv.1,kv.2]))->Q (.ref S) H2
theorem Xw {kvs:List (qw×V)} {vs:List (qw×Value)} (r:KV kvs vs) {i:Nat} {p:qw×Value} (e:vs[i]?=some p):∃kv,kvs[i]?=some kv/\kv.1=p.1/\qN kv.2 p.2:=by
 induction r generalizing i with
 | nil=>simp at e
 | cons ra _ ih=>
   cases i with
   | zero=>cases e;exact⟨_,rfl,ra.1,ra.2⟩
   | succ i=>exact ih (by simpa using e)
theorem ZV:∀as:List Addr,qL (as.map V.ref) (as.map Value.ref)
 | []=>.nil
 | _::as=>.cons rfl (ZV as)
section
variable {X:Cx} {o:Expr} {td:TE} {p1 pos1 ap cp:Pos}
theorem km (hc:X.calm=true) (g1:Gl X "list") (m1:X.mg "list"=none) (ho:JE X o td) (hbase:attributeBase o "items" X.env (eval o X.env)=eval o X.env:=by rfl) (hline:(ap.endLine==cp.line)=true:=by rfl) (hs:starEach [.Call (.Attribute o "items" ap) [] [] cp] X.env=[(false,eval (.Call (.Attribute o "items" ap) [] [] cp) X.env)]:=by rfl):JE X (.Call (.Name "list" p1) [.Call (.Attribute o "items" ap) [] [] cp] [] pos1) (wP td):=.of (by
 have ho:=ho.to
 intro pins s σ H Q I h
 refine wpAny_Call_Name_kw (Qf I g1 m1 boot_list (PyProof.Rows.callWith_type1 (Wa hs ?_) (by rw[hs];rfl) rfl))
 refine wpAny_Call_method0_late hbase hline (ja (ho pins s σ H _ I h) λu s1 ⟨x,H1,I1,r1,a,kvs,ex,ea,q⟩=>?_)
 subst ex
 cases r1
 obtain⟨zk,hd,vs,rel,dd⟩:=ea.ok I1.hok
 refine⟨"dict","dict.items",PySem.F.plainAttrs_dict,PySem.F.slot_dict_items,PySem.F.type_dict_items,dd.typeIs,dd.mapOf.noDict,Calls.callWith_builtin rfl (PySem.evalArgs_none ?_)⟩
 refine call_meetsIn PySem.F.slot_dict_items dd.typeIs PySem.F.entry_dict_items (PySem.F.args_dict_items_1 _) (meets_dict_items (qF X.prog X.w) a hd) ⟨⟨vs,dd⟩,?_⟩
 obtain⟨ep,dat⟩:=dd.dictAt
 have lv:kvs.length=vs.length:=Paired.length rel
 refine PySem.W.kdx_call (s:={s1 with heap:=s1.heap.push {cls:=.type "dict_items",data:=.fields #[.ref a]}}) (r:=s1.heap.objs.size) (d:=a) (knd:=qF X.prog X.w) (kvs:=vs) (ep:=ep) (I1.ok.hd hc) ⟨_,Heap.get?_push_size _ rfl,rfl,rfl⟩ (dat.push _) (by rw[<-lv];exact zk) λh' tk acc c as kp oS la KG eacc=>?_
 have sz:(s1.heap.push ({cls:=.type "dict_items",data:=.fields #[.ref a]}:Obj)).objs.size=s1.heap.objs.size+1:=Heap.size_push ..
 show EP X pins σ Q (.ref (s1.heap.push ({cls:=.type "dict_items",data:=.fields #[.ref a]}:Obj)).objs.size) _
 have oS:h'.get? (s1.heap.push ({cls:=.type "dict_items",data:=.fields #[.ref a]}:Obj)).objs.size=some {cls:=.type "list",dict:=none,data:=.seq acc c,slots:=#[]}:=oS
 have KG:PySem.W.KdxG (qF X.prog X.w) vs (s1.heap.push ({cls:=.type "dict_items",data:=.fields #[.ref a]}:Obj)).objs.size h' as:=KG
 rw[sz]at oS KG ⊢
 have kp1:∀b ob,s1.heap.get? b=some ob->h'.get? b=some ob:=λb ob e=>kp b ob (Heap.get?_push_of_some _ e)
 have las:as.length=kvs.length:=la.trans lv.symm
 obtain⟨H2,eH2⟩:∃H2,H2=vZ H1 (s1.heap.objs.size+1) as (kvs.map λkv=>[kV kv.1,kv.2]):=⟨_,rfl⟩
 have fS:H1 (s1.heap.objs.size+1)=none:=I1.hok.fresh (Nat.le_succ _)
 have nS:∀p∈as,p≠s1.heap.objs.size+1:=λp hp=>Nat.ne_of_gt (KG.above p hp)
 have fr:∀p∈as,H1 p=none:=λp hp=>I1.hok.fresh (Nat.le_of_lt (Nat.lt_of_succ_lt (KG.above p hp)))
 have ndup:∀(i j:Nat) (p:Addr),as[i]?=some p->as[j]?=some p->i=j:=λi j p e1 e2=>by
   rcases Nat.lt_trichotomy i j with l | l | l
   . obtain⟨l1,f1⟩:=List.getElem?_eq_some_iff.mp e1
     obtain⟨l2,f2⟩:=List.getElem?_eq_some_iff.mp e2
     have:=List.pairwise_iff_getElem.mp KG.rise i j l1 l2 l
     rw[f1,f2]at this
     exact absurd this (Nat.lt_irrefl _)
   . exact l
   . obtain⟨l1,f1⟩:=List.getElem?_eq_some_iff.mp e1
     obtain⟨l2,f2⟩:=List.getElem?_eq_some_iff.mp e2
     have:=List.pairwise_iff_getElem.mp KG.rise j i l2 l1 l
     rw[f1,f2]at this
     exact absurd this (Nat.lt_irrefl _)
 have atS:H2 (s1.heap.objs.size+1)=some (.lst (as.map V.ref)):=by rw[eH2];unfold vZ;rw[if_pos rfl]
 have atP:∀(i:Nat) (p:Addr) (kv:qw×V),as[i]?=some p->kvs[i]?=some kv->H2 p=some (.tup [kV kv.1,kv.2]):=λi p kv e1 e2=>by
   have hp:p∈as:=List.mem_of_getElem? e1
   have ei:as.findIdx? (λy=>decide (y=p))=some i:=by
     cases c:as.findIdx? (λy=>decide (y=p)) with
     | none=>
       have:=List.findIdx?_eq_none_iff.mp c p hp
       rw[decide_eq_true rfl]at this
       cases this
     | some j=>
       obtain⟨lt,e,_⟩:=List.findIdx?_eq_some_iff_getElem.mp c
       have e:as[j]=p:=of_decide_eq_true e
       exact congrArg some (ndup j i p (by rw[List.getElem?_eq_getElem lt,e]) e1)
   rw[eH2]
   unfold vZ
   rw[if_neg (nS p hp),ei]
   dsimp only
   rw[List.getElem?_map,e2]
   rfl
 have old:∀b ob,H1 b=some ob->H2 b=some ob:=λb ob e=>by
   rw[eH2]
   unfold vZ
   rw[if_neg (λz=>by rw[z,fS]at e;cases e)]
   have:as.findIdx? (λy=>decide (y=b))=none:=List.findIdx?_eq_none_iff.mpr λp hp=>decide_eq_false λz=>by rw[<-z,fr p hp]at e;cases e
   rw[this]
   exact e
 have new:∀b ob,H2 b=some ob->H1 b=some ob\/(b=s1.heap.objs.size+1/\ob=.lst (as.map V.ref))\/∃(i:Nat) (kv:qw×V),as[i]?=some b/\kvs[i]?=some kv/\ob=.tup [kV kv.1,kv.2]:=λb ob e=>by
   by_cases c:b=s1.heap.objs.size+1
   . rw[c,atS]at e
     exact .inr (.inl ⟨c,(Option.some.inj e).symm⟩)
   . cases ci:as.findIdx? (λy=>decide (y=b)) with
     | none=>
       rw[eH2]at e
       unfold vZ at e
       rw[if_neg c,ci]at e
       exact .inl e
     | some i=>
       obtain⟨lt,e1,_⟩:=List.findIdx?_eq_some_iff_getElem.mp ci
       have e1:as[i]=b:=of_decide_eq_true e1
       have e2:as[i]?=some b:=by rw[List.getElem?_eq_getElem lt,e1]
       have lk:i < kvs.length:=by omega
       have:=atP i b kvs[i] e2 (List.getElem?_eq_getElem lk)
       rw[e]at this
       exact .inr (.inr ⟨i,kvs[i],e2,List.getElem?_eq_getElem lk,Option.some.inj this⟩)
 have two:(2:Nat)<=sizeLine:=by decide
 refine⟨.ref (s1.heap.objs.size+1),H2,I1.laidMany (t':=tk) kp1 old λb ob e=>?_,rfl,q _ as H2 fS (Ne.symm (Nat.ne_of_lt (Nat.lt_succ_of_lt I1.big))) old atS las atP⟩
 rcases new b ob e with e | ⟨rfl,rfl⟩ | ⟨i,kv,e1,e2,rfl⟩
 . exact .inl e
 . refine .inr ⟨Nat.le_succ _,by rw[List.length_map,las];exact zk,as.map Value.ref,c,?_,?_⟩
   . exact ZV as
   . rw[<-eacc]
     exact oS
 . refine .inr ⟨Nat.le_of_lt (Nat.lt_of_succ_lt (KG.above b (List.mem_of_getElem? e1))),?_⟩
   obtain⟨key,kk,y,f1,f2,f3⟩:=KG.pairs i b e1
   obtain⟨kv',g1,g2,g3⟩:=Xw rel f1
   rw[e2]at g1
   cases g1
   have g2:kv.1=kk:=g2
   have rk:qN (kV kv.1) key:=by
     rw[g2]
     rcases qV (show Za kk key=true from f2) with ⟨n,t,rfl,rfl⟩ | ⟨z,t,rfl,rfl⟩
     . exact⟨t,rfl⟩
     . exact⟨t,rfl⟩
   exact⟨two,[key,y],.cons rk (.cons g3 .nil),⟨_,f3,rfl,_,rfl⟩⟩)
end
end L2
set_option linter.all false
namespace MPlay
abbrev En:=Option (Bool×Int)
section
variable {α:Type} (G:α->List α)
def step (g:α->En) (es:List α) (k:Nat):En:=
 if (es.any λy=>(g y).any λe=> !e.1)=true then some (true,(k:Int)) else if (es.all λy=>(g y).isSome)=true then some (false,(k:Int)) else none
def Qe:Nat->α->En
 | 0,_=>none
 | k+1,z=>match Qe k z with
   | some e=>some e
   | none=>step (Qe k) (G z) k
theorem jc {k:Nat} {z:α} {e:Bool×Int} (h:Qe G k z=some e):Qe G (k+1) z=some e:=by
 simp only[Qe,h]
theorem jY {k:Nat} {z:α} (h:Qe G k z=none):Qe G (k+1) z=step (Qe G k) (G z) k:=by
 simp only[Qe,h]
theorem Zh {g:α->En} {es:List α}:(es.any λy=>(g y).any λe=> !e.1)=true↔∃y∈es,∃n,g y=some (false,n):=by
 rw[List.any_eq_true]
 constructor
 . rintro⟨y,hy,h⟩
   cases e:g y with
   | none=>rw[e]at h;cases h
   | some p=>
     obtain⟨b,n⟩:=p
     rw[e]at h
     cases b
     . exact⟨y,hy,n,e⟩
     . cases h
 . rintro⟨y,hy,n,e⟩
   exact⟨y,hy,by rw[e];rfl⟩
theorem Xq {g:α->En} {es:List α} {k:Nat} {n:Int} (h:step g es k=some (true,n)):n=k/\∃y∈es,∃m,g y=some (false,m):=by
 unfold step at h
 split at h
 . rename_i c
   simp only[Option.some.injEq,Prod.mk.injEq,true_and]at h
   exact⟨h.symm,Zh.mp c⟩
 . split at h<;>simp at h
theorem Zl {g:α->En} {es:List α} {k:Nat} {n:Int} (h:step g es k=some (false,n)):n=k/\∀y∈es,∃m,g y=some (true,m):=by
 unfold step at h
 split at h
 . simp at h
 . rename_i c
   split at h
   . rename_i d
     simp only[Option.some.injEq,Prod.mk.injEq,true_and]at h
     refine⟨h.symm,λy hy=>?_⟩
     have d1:=List.all_eq_true.mp d y hy
     cases e:g y with
     | none=>rw[e]at d1;cases d1
     | some p=>
       obtain⟨b,m⟩:=p
       cases b
       . exact absurd (Zh.mpr ⟨y,hy,m,e⟩) c
       . exact⟨m,rfl⟩
   . simp at h
theorem QF {g:α->En} {es:List α} {k:Nat} (h:step g es k=none):(∀y∈es,∀m,g y≠some (false,m))/\∃y∈es,g y=none:=by
 unfold step at h
 split at h
 . simp at h
 . rename_i c
   split at h
   . simp at h
   . rename_i d
     refine⟨λy hy m e=>c (Zh.mpr ⟨y,hy,m,e⟩),?_⟩
     rw[List.all_eq_true]at d
     have ⟨y,hy⟩:=Classical.not_forall.mp d
     have ⟨h1,h2⟩:=Classical.not_imp.mp hy
     exact⟨y,h1,by simpa using h2⟩
theorem JX {g:α->En} {es:List α} {k:Nat} {b:Bool} {n:Int} (h:step g es k=some (b,n)):n=k:=by
 cases b
 . exact(Zl h).1
 . exact(Xq h).1
theorem ZA {g:α->En} {es:List α} {k:Nat} (h1:∀y∈es,∀m,g y≠some (false,m)) (h2:∃y∈es,g y=none):step g es k=none:=by
 unfold step
 rw[if_neg (λc=>by obtain⟨y,hy,n,e⟩:=Zh.mp c;exact h1 y hy n e),if_neg]
 intro c
 obtain⟨y,hy,e⟩:=h2
 have:=List.all_eq_true.mp c y hy
 rw[e]at this
 cases this
theorem Zr {k:Nat}:∀{z:α} {b:Bool} {n:Int},Qe G k z=some (b,n)->0<=n/\n < k:=by
 induction k with
 | zero=>intro z b n h;simp [Qe]at h
 | succ k ih=>
   intro z b n h
   cases e:Qe G k z with
   | some p=>
     rw[jc G e]at h
     obtain rfl:=Option.some.inj h
     have:=ih e
     omega
   | none=>
     rw[jY G e]at h
     have:=JX h
     omega
theorem vT {k:Nat} {z y:α} {m:Int} (h:Qe G k z=none) (hy:y∈G z) (e:Qe G k y=some (false,m)):m+1=k:=by
 cases k with
 | zero=>simp [Qe]at e
 | succ j=>
   have hz:Qe G j z=none:=by
     cases q:Qe G j z with
     | none=>rfl
     | some p=>rw[jc G q]at h;cases h
   rw[jY G hz]at h
   have h1:=(QF h).1
   cases q:Qe G j y with
   | some p=>
     rw[jc G q]at e
     obtain rfl:=Option.some.inj e
     exact absurd q (h1 y hy m)
   | none=>
     rw[jY G q]at e
     have:=JX e
     omega
theorem uD {k:Nat} {z:α} (h:Qe G k z=none) (ha:∀y∈G z,(Qe G k y).isSome=true):k=0\/∃y∈G z,∃b,Qe G k y=some (b,(k:Int) - 1):=by
 cases k with
 | zero=>exact .inl rfl
 | succ j=>
   have hz:Qe G j z=none:=by
     cases q:Qe G j z with
     | none=>rfl
     | some p=>rw[jc G q]at h;cases h
   rw[jY G hz]at h
   obtain⟨y,hy,q⟩:=(QF h).2
   refine .inr ⟨y,hy,?_⟩
   have h1:=ha y hy
   rw[jY G q]at h1 ⊢
   obtain⟨⟨b,n⟩,e⟩:=Option.isSome_iff_exists.mp h1
   have:=JX e
   refine⟨b,?_⟩
   rw[e]
   congr 2
   omega
structure Lv (f:α->En) (k:Nat):Prop where
 won:∀{z n},f z=some (true,n)->∃y∈G z,f y=some (false,n - 1)
 lost:∀{z n},f z=some (false,n)->∀y∈G z,∃m,f y=some (true,m)/\m+1<=n
 long:∀{z n},f z=some (false,n)->0 < n->∃y∈G z,f y=some (true,n - 1)
theorem vV:∀k,Lv G (Qe G k) k
 | 0=>⟨λh=>by simp [Qe]at h,λh=>by simp [Qe]at h,λh=>by simp [Qe]at h⟩
 | k+1=>by
   have L:=vV k
   refine⟨λ{z n} h=>?_,λ{z n} h y hy=>?_,λ{z n} h hn=>?_⟩
   . cases e:Qe G k z with
     | some p=>
       rw[jc G e]at h
       obtain rfl:=Option.some.inj h
       obtain⟨y,hy,q⟩:=L.won e
       exact⟨y,hy,jc G q⟩
     | none=>
       rw[jY G e]at h
       obtain⟨rfl,y,hy,m,q⟩:=Xq h
       have:=vT G e hy q
       refine⟨y,hy,?_⟩
       rw[jc G q]
       congr 2
       omega
   . cases e:Qe G k z with
     | some p=>
       rw[jc G e]at h
       obtain rfl:=Option.some.inj h
       obtain⟨m,q,hm⟩:=L.lost e y hy
       exact⟨m,jc G q,hm⟩
     | none=>
       rw[jY G e]at h
       obtain⟨rfl,ha⟩:=Zl h
       obtain⟨m,q⟩:=ha y hy
       have:=Zr G q
       exact⟨m,jc G q,by omega⟩
   . cases e:Qe G k z with
     | some p=>
       rw[jc G e]at h
       obtain rfl:=Option.some.inj h
       obtain⟨y,hy,q⟩:=L.long e hn
       exact⟨y,hy,jc G q⟩
     | none=>
       rw[jY G e]at h
       obtain⟨rfl,ha⟩:=Zl h
       rcases uD G e (λy hy=>by obtain⟨m,q⟩:=ha y hy;rw[q];rfl) with h0 | ⟨y,hy,b,q⟩
       . omega
       . obtain⟨m,q'⟩:=ha y hy
         rw[q]at q'
         obtain⟨rfl,_⟩:=Prod.mk.inj (Option.some.inj q')
         exact⟨y,hy,jc G q⟩
theorem vU {N:List α} (hN:∀z∈N,∀y∈G z,y∈N) {k:Nat} (h:∀z∈N,Qe G k z=none->step (Qe G k) (G z) k=none):∀j,k<=j->∀z∈N,Qe G j z=Qe G k z:=by
 intro j hj
 induction j with
 | zero=>
   intro z _
   have e:k=0:=by omega
   rw[e]
 | succ j ih=>
   by_cases e:k=j+1
   . subst e;intro z _;rfl
   . have ih:=ih (by omega)
     intro z hz
     cases q:Qe G j z with
     | some p=>rw[jc G q,<-ih z hz,q]
     | none=>
       rw[jY G q,<-ih z hz,q]
       rw[ih z hz]at q
       obtain⟨h1,y,hy,h2⟩:=QF (h z hz q)
       refine ZA (λy' hy' m e'=>?_) ⟨y,hy,?_⟩
       . rw[ih y' (hN z hz y' hy')]at e'
         exact h1 y' hy' m e'
       . rw[ih y (hN z hz y hy)]
         exact h2
structure Tab (N:List α) (f:α->En):Prop where
 num:∀{z b n},f z=some (b,n)->0<=n
 won:∀{z n},f z=some (true,n)->∃y∈G z,f y=some (false,n - 1)
 lost:∀{z n},f z=some (false,n)->∀y∈G z,∃m,f y=some (true,m)/\m+1<=n
 long:∀{z n},f z=some (false,n)->0 < n->∃y∈G z,f y=some (true,n - 1)
 drawn:∀{z},z∈N->f z=none->(∀y∈G z,∀m,f y≠some (false,m))/\∃y∈G z,f y=none
 cl:∀z∈N,∀y∈G z,y∈N
theorem wL {N:List α} (hN:∀z∈N,∀y∈G z,y∈N) {k:Nat} (h:∀z∈N,Qe G k z=none->step (Qe G k) (G z) k=none):Tab G N (Qe G k):=
 let L:=vV G k
 ⟨λe=>(Zr G e).1,L.won,L.lost,L.long,λhz e=>QF (h _ hz e),hN⟩
def uX:En->En
 | none=>none
 | some (b,n)=>some (!b,n - 1)
variable [DecidableEq α]
def Gp (f:α->En) (z:α):List α:=(G z).filter λy=>decide (f y=uX (f z))
variable {G} {N:List α} {f:α->En}
structure Play (G:α->List α) (f:α->En) (N:List α) (b0 b1:Bool) (m:Nat) (I:Nat->α->Prop):Prop where
 mem:∀{i z},i < m->I i z->z∈N
 go:∀{i z},i < m->I i z->G z≠[]->if (if i % 2=0 then b0 else b1)=true then Gp G f z≠[]/\∀y∈Gp G f z,I (i+1) y else ∀y∈G z,I (i+1) y
end
end MPlay
set_option linter.all false
namespace MPlay
def zX (e:En) (bs:List En):Prop:=match e with
 | some (false,n)=>(∀x∈bs,∃m,x=some (true,m)/\m+1<=n)/\((n=0/\bs=[])\/some (true,n - 1)∈bs)
 | some (true,n)=>some (false,n - 1)∈bs/\∀m,some (false,m)∈bs->n - 1<=m
 | none=>(∀m,some (false,m)∉bs)/\none∈bs
theorem zX.mem {e:En} {bs cs:List En} (h:∀x,x∈bs↔x∈cs):zX e bs↔zX e cs:=by
 have nil:bs=[]↔cs=[]:=by
   constructor
   . intro z
     exact List.eq_nil_iff_forall_not_mem.mpr λx hx=>by have:=(h x).mpr hx;rw[z]at this;cases this
   . intro z
     exact List.eq_nil_iff_forall_not_mem.mpr λx hx=>by have:=(h x).mp hx;rw[z]at this;cases this
 unfold zX
 split
 . simp only[h,nil]
 . simp only[h]
 . simp only[h]
section
variable {α:Type} {G:α->List α}
structure wH (G:α->List α) (N:List α) (f:α->En):Prop where
 num:∀z∈N,∀b n,f z=some (b,n)->0<=n
 fit:∀z∈N,zX (f z) ((G z).map f)
theorem wH.uniq {N:List α} {f g:α->En} (cl:∀z∈N,∀y∈G z,y∈N) (a:wH G N f) (b:wH G N g):∀z∈N,f z=g z:=by
 have one:∀{f g:α->En},wH G N f->wH G N g->∀n:Nat,(∀m:Nat,m < n->∀z∈N,∀c,f z=some (c,(m:Int))↔g z=some (c,(m:Int)))->∀z∈N,∀c,f z=some (c,(n:Int))->g z=some (c,(n:Int)):=by
   intro f g a b n ih z hz c e
   have F:=a.fit z hz
   have Gz:=b.fit z hz
   have ih':∀m:Int,0<=m->m < n->∀z∈N,∀c,f z=some (c,m)↔g z=some (c,m):=λm h0 h1 z hz c=>by
     have:=ih m.toNat (by omega) z hz c
     rwa [show ((m.toNat:Nat):Int)=m by omega]at this
   rw[e]at F
   cases c with
   | true=>
     obtain⟨h1,h2⟩:=F
     obtain⟨y,hy,ey⟩:=List.mem_map.mp h1
     have n1:=a.num y (cl z hz y hy) _ _ ey
     have gy:=(ih' ((n:Int) - 1) (by omega) (by omega) y (cl z hz y hy) false).mp ey
     have gm:some (false,(n:Int) - 1)∈(G z).map g:=List.mem_map.mpr ⟨y,hy,gy⟩
     cases ez:g z with
     | none=>rw[ez]at Gz;exact absurd gm (Gz.1 _)
     | some p=>
       obtain⟨c',n'⟩:=p
       rw[ez]at Gz
       cases c' with
       | false=>obtain⟨m,q,_⟩:=Gz.1 _ gm;cases q
       | true=>
         have le:=Gz.2 _ gm
         have p0:=b.num z hz _ _ ez
         rcases Int.lt_or_le n' n with lt | ge
         . have:=(ih' n' p0 lt z hz true).mpr ez
           rw[e]at this
           cases this
           omega
         . have:n'=n:=by omega
           rw[this]
   | false=>
     obtain⟨h1,h2⟩:=F
     have same:∀y∈G z,∃m,f y=some (true,m)/\g y=some (true,m)/\m+1<=n:=λy hy=>by
       obtain⟨m,q,le⟩:=h1 _ (List.mem_map.mpr ⟨y,hy,rfl⟩)
       have m0:=a.num y (cl z hz y hy) _ _ q
       exact⟨m,q,(ih' m m0 (by omega) y (cl z hz y hy) true).mp q,le⟩
     cases ez:g z with
     | none=>
       rw[ez]at Gz
       obtain⟨y,hy,q⟩:=List.mem_map.mp Gz.2
       obtain⟨m,_,q2,_⟩:=same y hy
       rw[q]at q2;cases q2
     | some p=>
       obtain⟨c',n'⟩:=p
       rw[ez]at Gz
       cases c' with
       | true=>
         obtain⟨y,hy,q⟩:=List.mem_map.mp Gz.1
         obtain⟨m,_,q2,_⟩:=same y hy
         rw[q]at q2;cases q2
       | false=>
         obtain⟨g1,g2⟩:=Gz
         have:n'=n:=by
           rcases h2 with ⟨n0,nil⟩ | m2
           . have nil':G z=[]:=List.map_eq_nil_iff.mp nil
             rcases g2 with ⟨e0,_⟩ | g2
             . omega
             . rw[nil']at g2;cases g2
           . obtain⟨y,hy,q⟩:=List.mem_map.mp m2
             obtain⟨m,q1,q2,le⟩:=same y hy
             rw[q]at q1
             cases q1
             obtain⟨m',q3,le'⟩:=g1 _ (List.mem_map.mpr ⟨y,hy,q2⟩)
             cases q3
             rcases g2 with ⟨_,nil⟩ | g2
             . have:=List.map_eq_nil_iff.mp nil
               rw[this]at hy;cases hy
             . obtain⟨y',hy',q4⟩:=List.mem_map.mp g2
               obtain⟨m3,_,q5,le3⟩:=same y' hy'
               rw[q4]at q5
               cases q5
               omega
         rw[this]
 have both:∀n:Nat,∀z∈N,∀c,f z=some (c,(n:Int))↔g z=some (c,(n:Int)):=λn=>by
   induction n using Nat.strongRecOn with
   | ind n ih=>exact λz hz c=>⟨one a b n ih z hz c,one b a n (λm hm z hz c=>(ih m hm z hz c).symm) z hz c⟩
 intro z hz
 cases e:f z with
 | some p=>
   obtain⟨c,n⟩:=p
   have n0:=a.num z hz _ _ e
   have:=(both n.toNat z hz c).mp (by rw[show ((n.toNat:Nat):Int)=n by omega];exact e)
   rw[show ((n.toNat:Nat):Int)=n by omega]at this
   exact this.symm
 | none=>
   cases e2:g z with
   | none=>rfl
   | some p=>
     obtain⟨c,n⟩:=p
     have n0:=b.num z hz _ _ e2
     have:=(both n.toNat z hz c).mpr (by rw[show ((n.toNat:Nat):Int)=n by omega];exact e2)
     rw[e]at this;cases this
theorem vX {k:Nat}:∀{z:α} {b:Bool} {n:Int},Qe G k z=some (b,n)->Qe G n.toNat z=none/\Qe G (n.toNat+1) z=some (b,n)/\n.toNat < k:=by
 induction k with
 | zero=>intro z b n h;simp [Qe]at h
 | succ k ih=>
   intro z b n h
   cases e:Qe G k z with
   | some p=>
     rw[jc G e]at h
     obtain rfl:=Option.some.inj h
     obtain⟨h1,h2,h3⟩:=ih e
     exact⟨h1,h2,by omega⟩
   | none=>
     have h':=h
     rw[jY G e]at h
     have:=JX h
     subst this
     exact⟨e,h',Nat.lt_succ_self _⟩
theorem vW {j k:Nat} (h:j<=k) {z:α} {e:Bool×Int} (q:Qe G j z=some e):Qe G k z=some e:=by
 induction k with
 | zero=>rw[Nat.le_zero.mp h]at q;exact q
 | succ k ih=>
   rcases Nat.lt_or_ge j (k+1) with c | c
   . exact jc G (ih (by omega))
   . have:j=k+1:=by omega
     rw[<-this];exact q
theorem xn {k:Nat} {z y:α} {n m:Int} (h:Qe G k z=some (true,n)) (hy:y∈G z) (e:Qe G k y=some (false,m)):n - 1<=m:=by
 obtain⟨z1,z2,z3⟩:=vX h
 obtain⟨y1,y2,y3⟩:=vX e
 have n0:=(Zr G h).1
 have m0:=(Zr G e).1
 refine Int.not_lt.mp λc=>?_
 have q:=vW (G:=G) (show m.toNat+1<=n.toNat by omega) y2
 have:=vT G z1 hy q
 omega
theorem Tab.shw {N:List α} {k:Nat} (t:Tab G N (Qe G k)):wH G N (Qe G k):=by
 refine⟨λz _ b n h=>t.num h,λz hz=>?_⟩
 cases e:Qe G k z with
 | none=>
   obtain⟨h1,y,hy,h2⟩:=t.drawn hz e
   refine⟨λm hm=>?_,List.mem_map.mpr ⟨y,hy,h2⟩⟩
   obtain⟨y',hy',q⟩:=List.mem_map.mp hm
   exact h1 y' hy' m q
 | some p=>
   obtain⟨b,n⟩:=p
   cases b with
   | true=>
     obtain⟨y,hy,q⟩:=t.won e
     refine⟨List.mem_map.mpr ⟨y,hy,q⟩,λm hm=>?_⟩
     obtain⟨y',hy',q'⟩:=List.mem_map.mp hm
     exact xn e hy' q'
   | false=>
     refine⟨λx hx=>?_,?_⟩
     . obtain⟨y,hy,rfl⟩:=List.mem_map.mp hx
       exact t.lost e y hy
     . have n0:=t.num e
       rcases Int.lt_or_eq_of_le n0 with c | c
       . obtain⟨y,hy,q⟩:=t.long e c
         exact .inr (List.mem_map.mpr ⟨y,hy,q⟩)
       . refine .inl ⟨c.symm,List.map_eq_nil_iff.mpr (List.eq_nil_iff_forall_not_mem.mpr λy hy=>?_)⟩
         obtain⟨m,q,le⟩:=t.lost e y hy
         have:=t.num q
         omega
end
end MPlay
set_option Elab.async false
set_option linter.all false
set_option maxRecDepth 100000
set_option maxHeartbeats 4000000
namespace Rh
open PySem L2
def top (i:Nat):Stmt:=PySem.Challenge.pw_ringheaps_k12_tables_looked_through.main.body.getD i (.Pass ⟨0,0,0,0⟩)
abbrev J2:Stmt:=top 10
abbrev W3:Stmt:=top 33
abbrev ZO:Stmt:=top 34
abbrev Jz:Stmt:=top 35
abbrev Z5:Stmt:=top 36
abbrev Z6:Stmt:=top 37
abbrev W0:Stmt:=top 38
abbrev YM:Stmt:=top 46
end Rh
namespace Rh
open PySem L2 PyProof.Rows
structure jT (K:PySem.W.Frag) (mg:Str->Option Value) (x:Str) (st:Stmt) (ps:List Str) (f:Addr) (fd:FuncData):Prop where
 fn:Qw K x x st f fd
 ns:mg x=some (.ref f)
 bi:Qv K fd ps []
theorem qX {X:Cx} {x:Str} {st:Stmt} {ps:List Str} {f:Addr} {fd:FuncData} {k:Nat} {sp:Sp} {e:Expr} {es:List Expr} {t:TA} {p pos:Pos} (h:jT X.K X.mg x st ps f fd) (G:qI X.prog X.w X.K X.mg X.base ji k f fd ps sp) (hr:jq k X.A)
   (hg:Gl X x) (ha:JA X (e::es) t) (hdb:(x==("__debug__":Str))=false:=by decide) (he:starEach (e::es) X.env=(false,eval e X.env)::starEach es X.env:=by rfl) (hpl:(backTo pos (starEach es X.env)).any (·.1)=false:=by rfl):
   JE X (.Call (.Name x p) (e::es) [] pos) (z8 sp [] E0 t):=.of (yL G hr hg h.ns h.fn.kp h.bi .nil W6 ha.to hdb he hpl)
theorem qi {H:Hp} {b p:Addr} {o o':HO} (h:H b=some o) (hp:H p=none):upd H p o' b=some o:=by
 rw[qk (qE h hp)]
 exact h
theorem qj {H:Hp} {p:Addr} {o:HO} (hp:H p=none):qu H (upd H p o):=λb u h=>qi h hp
theorem qu.upd {H H':Hp} {p:Addr} {o:HO} (s:qu H H') (hp:H p=none):qu H (upd H' p o):=λb u h=>by
 rw[qk (qE h hp)]
 exact s b u h
def src (n s t:Int):List (qw×V):=[(Sum.inr "number",.int n),(Sum.inr "seed",.int s),(Sum.inr "turn",.int t)]
theorem nns:¬(Str.ofString "number")=Str.ofString "seed":=by decide+kernel
theorem RD:¬(Str.ofString "number")=Str.ofString "turn":=by decide+kernel
theorem RC:¬(Str.ofString "seed")=Str.ofString "turn":=by decide+kernel
theorem nsn:¬(Str.ofString "seed")=Str.ofString "number":=by decide+kernel
theorem ntn:¬(Str.ofString "turn")=Str.ofString "number":=by decide+kernel
theorem nts:¬(Str.ofString "turn")=Str.ofString "seed":=by decide+kernel
theorem kB {a b:Str} (h:¬a=b):¬(Sum.inr a:qw)=Sum.inr b:=λe=>h (Sum.inr.inj e)
section
variable {H:Hp} {d:Addr} {n s t:Int}
theorem gN (h:H d=some (.dK (src n s t))):jC H d (.str "number") (some (.int n)):=by
 have e:qD (src n s t) (Sum.inr "number":qw)=some (.int n):=jd rfl
 have q:=jC.k (k:=(Sum.inr "number":qw)) h
 rw[e]at q
 exact q
theorem gS (h:H d=some (.dK (src n s t))):jC H d (.str "seed") (some (.int s)):=by
 have e:qD (src n s t) (Sum.inr "seed":qw)=some (.int s):=(je (kB nns)).trans (jd rfl)
 have q:=jC.k (k:=(Sum.inr "seed":qw)) h
 rw[e]at q
 exact q
theorem gT (h:H d=some (.dK (src n s t))):jC H d (.str "turn") (some (.int t)):=by
 have e:qD (src n s t) (Sum.inr "turn":qw)=some (.int t):=(je (kB RD)).trans ((je (kB RC)).trans (jd rfl))
 have q:=jC.k (k:=(Sum.inr "turn":qw)) h
 rw[e]at q
 exact q
theorem Ku:(src n s t).length < sizeLine:=qp (by show 3<=1000;decide)
theorem pN (h:H d=some (.dK (src n s t))) (v:Int):Qu H d (.str "number") (.int v) (upd H d (.dK (src v s t))):=by
 have e:jf (src n s t) (Sum.inr "number":qw) (.int v)=src v s t:=by
   unfold jf src
   simp [nsn,ntn]
 have q:=Qu.k (k:=(Sum.inr "number":qw)) (v:=.int v) h Ku
 rw[e]at q
 exact q
theorem pT (h:H d=some (.dK (src n s t))) (v:Int):Qu H d (.str "turn") (.int v) (upd H d (.dK (src n s v))):=by
 have e:jf (src n s t) (Sum.inr "turn":qw) (.int v)=src n s v:=by
   unfold jf src
   simp [RD,RC]
 have q:=Qu.k (k:=(Sum.inr "turn":qw)) (v:=.int v) h Ku
 rw[e]at q
 exact q
end
def Ja:Sp:=λvs H Q _=>∃(d:Addr) (m n s t:Int),vs=[.ref d,.int m]/\H d=some (.dK (src n s t))/\0 < m/\m.natAbs < 2^200/\∀r n' t',0<=r->r < m->Q (.int r) (upd H d (.dK (src n' s t')))
def Xr:Sp:=λvs H Q _=>∃c:Int,vs=[.int c]/\∀d n s,H d=none->Q (.ref d) (upd H d (.dK (src n s 0)))
def UR (K:PySem.W.Frag):Sp:=λvs H Q _=>∃(a:Addr) (ns:List Int) (k:Int),vs=[.ref a,.int k]/\SqL K H a (ns.map V.int)/\0<=k/\∀v,Q (.int v) H
section
variable {P:Program} {w:World} {K:PySem.W.Frag} {mg:Str->Option Value} {base:Heap}
theorem YJ:qJ ["_law_source_here","_law_many","_law_digit","_law_number"] ["_law_source_here","_law_many"] (qt Jz):=⟨rfl,rfl,rfl,by decide+kernel,rfl,by decide+kernel,by decide+kernel⟩
theorem QR {f:Addr} {fd:FuncData} (F:Qw K "_law_take" "_law_take" Jz f fd):qI P w K mg base ji 1 f fd ["_law_source_here","_law_many"] Ja:=by
 refine F.okJ YJ (λvs H Q E h=>?_) (λcdv A outer s H vs Q E hr h=>?_)
 . obtain⟨d,m,n,sd,t,rfl,_⟩:=h
   rfl
 . obtain⟨d,m,n,sd,t,rfl,hd,m0,m1,k⟩:=h
   have hu:=jN hr
   refine⟨_,qg (qS (qv Ye (jA hu (jv 0) qB (λ_ _=>rfl)) qh (qr _))
       (qg (qC (i:=2) YJ.nd rfl (Or.inl rfl) (qQ QQ (jA hu (jv 0) qB (λ_ _=>rfl)) (jv 1)))
       (qg (jz hu (jv 0) qB (qQ vv (jA hu (jv 0) qB (λ_ _=>rfl)) (jv 1)) rfl)
       (ql (qG (jv 2))))) qA)
     (qg (jz hu (jv 0) qB (qQ jX (jA hu (jv 0) qB (λ_ _=>rfl)) qh) rfl)
     (qg (qC (i:=3) YJ.nd rfl (Or.inl rfl) (qQ QQ (qQ QP (qQ jX (jA hu (jv 0) qB (λ_ _=>rfl)) (qQ QP qh (jA hu (jv 0) qB (λ_ _=>rfl)))) qh) qh))
     (qg (qC (i:=3) YJ.nd rfl (Or.inl rfl) (qQ QQ (qQ QP (jv 3) (jv 3)) qh))
     (ql (qG (qQ QQ (qQ yP (qQ QQ (qQ QP (qQ jX (jv 3) (jA hu (jv 0) qB (λ_ _=>rfl))) (qQ jX (jv 3) qh)) qh) qh) (jv 1))))))),?_⟩
   refine⟨_,rfl,d,_,rfl,gN hd,_,_,rfl,rfl,_,rfl,?_⟩
   refine jL (λ_=>?_) (λ_=>?_)
   . refine⟨_,rfl,d,_,rfl,gN hd,_,rfl,_,_,rfl,rfl,m0,?_⟩
     refine⟨_,rfl,d,_,rfl,gN hd,_,rfl,_,_,rfl,rfl,⟨m0,m1⟩,_,rfl,d,_,rfl,pN hd _,?_⟩
     exact⟨_,rfl,k _ _ _ (Int.emod_nonneg _ (by omega)) (Int.emod_lt_of_pos _ m0)⟩
   . refine⟨_,rfl,d,_,rfl,gT hd,_,_,rfl,rfl,_,rfl,d,_,rfl,pT hd _,?_⟩
     have h1:upd H d (.dK (src n sd (t+1))) d=some (.dK (src n sd (t+1))):=qd
     refine⟨_,rfl,d,_,rfl,gS h1,_,rfl,d,_,rfl,gT h1,_,_,rfl,rfl,.inl ⟨by decide,by decide⟩,_,_,rfl,rfl,_,_,rfl,rfl,.inr ⟨by decide,by decide⟩,_,_,rfl,rfl,(by show (0:Int) < 2147483647;decide),?_⟩
     generalize ha:((sd+7919*(t+1))*48271) % 2147483647=x
     have x0:0<=x:=by rw[<-ha];exact Int.emod_nonneg _ (by decide)
     have x1:x < 2147483647:=by rw[<-ha];exact Int.emod_lt_of_pos _ (by decide)
     refine⟨_,rfl,_,rfl,_,_,rfl,rfl,.inl ⟨by omega,by omega⟩,_,_,rfl,rfl,(by show (0:Int) < 2147483629;decide),?_⟩
     generalize hb:(x*x) % 2147483629=y
     have y0:0<=y:=by rw[<-hb];exact Int.emod_nonneg _ (by decide)
     have y1:y < 2147483629:=by rw[<-hb];exact Int.emod_lt_of_pos _ (by decide)
     refine⟨_,rfl,_,rfl,d,_,rfl,gT h1,_,_,rfl,rfl,_,rfl,_,_,rfl,rfl,_,_,rfl,rfl,.inr ⟨by omega,by omega⟩,_,_,rfl,rfl,(by show (0:Int) < 2147483587;decide),_,_,rfl,rfl,⟨by decide,by decide⟩,_,rfl,_,_,rfl,rfl,m0,?_⟩
     exact k _ _ _ (Int.emod_nonneg _ (by omega)) (Int.emod_lt_of_pos _ m0)
end
end Rh
namespace Rh
open PySem L2 PyProof.Rows
structure JU (mg:Str->Option Value):Prop where
 len:mg "len"=none
 max:mg "max"=none
 min:mg "min"=none
 int:mg "int"=none
 rng:mg "range"=none
theorem V1 (n s t:Int):Qd [] (src n s t)=src n s t:=by
 unfold Qd src
 simp only[List.foldl_cons,List.foldl_nil]
 unfold jf
 simp [nns,RD,RC,nsn,ntn,nts]
section
variable {P:Program} {w:World} {K:PySem.W.Frag} {mg:Str->Option Value} {base:Heap}
theorem UW:qJ ["_law_cell"] ["_law_cell"] (qt ZO):=⟨rfl,rfl,rfl,by decide+kernel,rfl,by decide+kernel,by decide+kernel⟩
theorem VU {f:Addr} {fd:FuncData} (F:Qw K "_law_source" "_law_source" ZO f fd) (B:JU mg):qI P w K mg base ji 1 f fd ["_law_cell"] Xr:=by
 refine F.okJ UW (λvs H Q E h=>?_) (λcdv A outer s H vs Q E hr h=>?_)
 . obtain⟨c,rfl,_⟩:=h
   rfl
 . obtain⟨c,rfl,k⟩:=h
   refine⟨_,ql (qG (xA
     (zt qB (qQ QP (qo (Ys rfl) (by rfl) B.max boot_max (qb qh (qb (jv 0) qe)))
       (jE Js (by rfl) B.int boot_int (qb (qP XA (jv 0) (qQ ui qh qh) (qr _)) qe)))
     (zt qB (qQ QQ (jv 0) qh) (zt qB qh xr))) rfl rfl (by simp) (by decide))),?_⟩
   intro p hp
   refine⟨_,rfl,_,_,rfl,_,rfl,_,_,rfl,rfl,⟨by decide,by decide,by decide⟩,_,_,rfl,rfl,.inr ⟨_,rfl,_,_,rfl,rfl,.inr ?_,_,rfl,_,_,rfl,rfl,(by show (0:Int) < 2147483629;decide),?_⟩⟩
   . split<;>exact⟨by decide,by decide⟩
   . refine⟨qd,src _ _ 0,rfl,(by show 3<=15;decide),?_⟩
     rw[V1,jP]
     exact k p _ _ hp
theorem w5:qJ ["_law_script","_law_k"] ["_law_script","_law_k"] (qt W3):=⟨rfl,rfl,rfl,by decide+kernel,rfl,by decide+kernel,by decide+kernel⟩
theorem yX {f:Addr} {fd:FuncData} (F:Qw K "_law_cell_at" "_law_cell_at" W3 f fd) (B:JU mg):qI P w K mg base ji 1 f fd ["_law_script","_law_k"] (UR K):=by
 refine F.okJ w5 (λvs H Q E h=>?_) (λcdv A outer s H vs Q E hr h=>?_)
 . obtain⟨a,ns,k,rfl,_⟩:=h
   rfl
 . obtain⟨a,ns,k,rfl,hS,k0,q⟩:=h
   refine⟨_,qg (qS (qv j7 (jv 1) (qo qx (by rfl) B.len boot_len (qb (jv 0) qe)) (qr _))
       (ql (qG (qH jl (jv 0) (jv 1) (λ_ _=>rfl)))) qA)
     (ql (qG (qQ jX (qQ QP qh (jv 1)) qh))),?_⟩
   refine⟨_,rfl,_,rfl,a,_,rfl,.inl hS,_,_,rfl,rfl,_,rfl,?_⟩
   refine jL (λh=>?_) (λ_=>?_)
   . have h1:k < ((ns.map V.int).length:Int):=of_decide_eq_true h
     rw[List.length_map]at h1
     have h2:k.toNat < ns.length:=by omega
     have h3:(ns.map V.int)[k.toNat]?=some (V.int ns[k.toNat]):=by rw[List.getElem?_map,List.getElem?_eq_getElem h2];rfl
     have h4:k=((k.toNat:Nat):Int):=by omega
     refine⟨_,rfl,_,rfl,a,_,k,V.int ns[k.toNat],rfl,rfl,hS,?_,q _⟩
     have h5:=ZU h3
     rw[<-h4]at h5
     exact h5
   . exact⟨_,rfl,_,_,rfl,rfl,.inl ⟨by decide,by decide⟩,_,_,rfl,rfl,q _⟩
end
end Rh
set_option Elab.async false
set_option linter.all false
set_option maxRecDepth 100000
set_option maxHeartbeats 4000000
namespace Rh
open PySem L2 PyProof.Rows
def Fr (H:Hp) (d:Addr) (H':Hp):Prop:=∀b o,H b=some o->b≠d->H' b=some o
theorem Fr.refl {H:Hp} {d:Addr}:Fr H d H:=λ_ _ h _=>h
theorem Fr.at_d {H H':Hp} {d:Addr} {o:HO} (h:Fr H d H'):Fr H d (upd H' d o):=λb u hb hn=>by
 rw[qk hn]
 exact h b u hb hn
theorem Fr.new {H H':Hp} {d p:Addr} {o:HO} (h:Fr H d H') (hp:H' p=none):Fr H d (upd H' p o):=λb u hb hn=>qi (h b u hb hn) hp
theorem Fr.own {H H':Hp} {d p:Addr} {o:HO} (h:Fr H d H') (hp:H p=none):Fr H d (upd H' p o):=λb u hb hn=>by
 rw[qk (qE hb hp)]
 exact h b u hb hn
theorem Fr.trans {H H' H'':Hp} {d:Addr} (h:Fr H d H') (k:Fr H' d H''):Fr H d H'':=λb u hb hn=>k b u (h b u hb hn) hn
theorem Fr.fresh {H H':Hp} {d p:Addr} {o:HO} (h:Fr H d H') (hd:H' d=some o) (hp:H' p=none):H p=none:=by
 cases e:H p with
 | none=>rfl
 | some u=>
   by_cases n:p=d
   . subst n
     rw[hd]at hp
     cases hp
   . rw[h p u e n]at hp
     cases hp
def jy (c:Nat):Bool:=decide (97<=c)&&decide (c<=122)
def jo (z:Str):Bool:=(decide (1<=z.length)&&decide (z.length<=8))&&z.cps.toList.all jy
def Vu:Str:="abcdefghijklmnopqrstuvwxyz"
theorem YB:Vu.cps.toList=[97,98,99,100,101,102,103,104,105,106,107,108,109,110,111,112,113,114,115,116,117,118,119,120,121,122]:=by decide+kernel
theorem kX:Vu.cps.toList=(List.range 26).map (97+·):=by rw[YB];rfl
theorem Vt:Vu.length<=sizeLine:=by
 show Vu.cps.size<=sizeLine
 rw[<-Array.length_toList,YB]
 decide
theorem kY {r:Int} (h0:0<=r) (h1:r < 26):JJ Vu.cps.toList r=some (97+r.toNat):=by
 have h2:Vu.cps.toList[r.toNat]?=some (97+r.toNat):=by
   rw[kX,List.getElem?_map,List.getElem?_range (by omega)]
   rfl
 have h4:=ZU h2
 have h5:r=((r.toNat:Nat):Int):=by omega
 rw[<-h5]at h4
 exact h4
theorem Yj {r:Int} (h0:0<=r) (h1:r < 26):jy (97+r.toNat)=true:=by
 unfold jy
 rw[decide_eq_true (by omega:97<=97+r.toNat),decide_eq_true (by omega:97+r.toNat<=122)]
 rfl
theorem uK (ws:List Nat):(Txt.join (Str.ofString "") (ws.map λk=>(⟨#[k]⟩:Str))).cps.toList=ws:=by
 show (Builtin.Str.glued (Str.ofString "") _).cps.toList=_
 rw[StrLaws.glued_eq_join]
 have e:(Str.ofString "")=⟨#[]⟩:=by decide+kernel
 rw[e,PyProof.Rows.join_ones]
theorem Ub {z:Str} {A B:List Nat} {c:Nat} (e:z.cps.toList=A++[c]++B) (hA:A.all jy=true) (hc:jy c=true) (hB:B.all jy=true) (hl:A.length+B.length<=7):jo z=true:=by
 have l:z.length=A.length+1+B.length:=by
   show z.cps.size=_
   rw[<-Array.length_toList,e]
   simp
   omega
 unfold jo
 rw[decide_eq_true (by omega:1<=z.length),decide_eq_true (by omega:z.length<=8),e,List.all_append,List.all_append,hA,hB]
 simp [hc]
def W9 (f s:Int) (k:Nat):Nat:=97+((f+s*(k:Int)) % 26).toNat
theorem xg:∀s∈[(1:Int),3,5,7,9,11],∀k,k < 14->∀j,j < 14->(s*((k:Nat):Int) - s*((j:Nat):Int)) % 26=0->k=j:=by decide+kernel
theorem xf {f s:Int} {k j:Nat} (hs:s=1\/s=3\/s=5\/s=7\/s=9\/s=11) (hk:k < 14) (hj:j < 14) (h:W9 f s k=W9 f s j):k=j:=by
 unfold W9 at h
 refine xg s (by simpa using hs) k hk j hj ?_
 generalize s*(k:Int)=x at h ⊢
 generalize s*(j:Int)=y at h ⊢
 omega
def QB (A:List Nat) (f s:Int) (zs:List Str):Prop:=∀j z,zs[j]?=some z->∃B,z.cps.toList=A++[W9 f s j]++B/\B.all jy=true/\A.length+B.length<=7
theorem QB.snoc {A:List Nat} {f s:Int} {zs:List Str} (h:QB A f s zs) {z:Str} {B:List Nat} (e:z.cps.toList=A++[W9 f s zs.length]++B) (hB:B.all jy=true) (hl:A.length+B.length<=7):QB A f s (zs++[z]):=by
 intro j y hy
 by_cases hj:j < zs.length
 . rw[List.getElem?_append_left hj]at hy
   exact h j y hy
 . have hj':j=zs.length:=by
     have:=(List.getElem?_eq_some_iff.mp hy).1
     rw[List.length_append,List.length_singleton]at this
     omega
   subst hj'
   rw[List.getElem?_append_right (Nat.le_refl _),Nat.sub_self]at hy
   obtain rfl:=(Option.some.inj hy).symm
   exact⟨B,e,hB,hl⟩
theorem QB.names {A:List Nat} {f s:Int} {zs:List Str} (h:QB A f s zs) (hA:A.all jy=true):∀z∈zs,jo z=true:=λz hz=>by
 obtain⟨j,hj⟩:=List.getElem?_of_mem hz
 obtain⟨B,e,hB,hl⟩:=h j z hj
 refine Ub e hA ?_ hB hl
 unfold W9
 exact Yj (Int.emod_nonneg _ (by decide)) (Int.emod_lt_of_pos _ (by decide))
theorem QB.nodup {A:List Nat} {f s:Int} {zs:List Str} (h:QB A f s zs) (hs:s=1\/s=3\/s=5\/s=7\/s=9\/s=11) (hz:zs.length<=14):zs.Nodup:=by
 refine List.pairwise_iff_getElem.mpr λi j hi hj hij e=>?_
 obtain⟨B,b1,_⟩:=h j _ (List.getElem?_eq_getElem hj)
 obtain⟨C,c1,_⟩:=h i _ (List.getElem?_eq_getElem hi)
 rw[e]at c1
 have e2:(A++[W9 f s j]++B)[A.length]?=(A++[W9 f s i]++C)[A.length]?:=by rw[<-b1,<-c1]
 rw[List.append_assoc,List.append_assoc,List.getElem?_append_right (Nat.le_refl _),List.getElem?_append_right (Nat.le_refl _),Nat.sub_self]at e2
 have e3:W9 f s j=W9 f s i:=Option.some.inj e2
 exact absurd (xf hs (by omega) (by omega) e3) (by omega)
theorem X0 {A:List Nat} (h:A.all jy=true) (n:Nat):(A.take n).all jy=true:=by
 rw[List.all_eq_true]at h ⊢
 exact λx hx=>h x (List.mem_of_mem_take hx)
theorem wV {r:Int} (h0:0<=r) (h1:r < 6):∃m:Int,(m=1\/m=3\/m=5\/m=7\/m=9\/m=11)/\JJ [V.int 1,V.int 3,V.int 5,V.int 7,V.int 9,V.int 11] r=some (.int m):=by
 have:r=0\/r=1\/r=2\/r=3\/r=4\/r=5:=by omega
 rcases this with rfl | rfl | rfl | rfl | rfl | rfl
 . exact⟨1,by decide,rfl⟩
 . exact⟨3,by decide,rfl⟩
 . exact⟨5,by decide,rfl⟩
 . exact⟨7,by decide,rfl⟩
 . exact⟨9,by decide,rfl⟩
 . exact⟨11,by decide,rfl⟩
def WT:Sp:=λvs H Q _=>∃(d:Addr) (m:Nat) (n s t:Int),vs=[.ref d,.int m]/\H d=some (.dK (src n s t))/\m<=14/\
 ∀(l:Addr) (zs:List Str) (n' t':Int) (H':Hp),H l=none->H' l=some (.lst (zs.map V.str))->zs.length=m->(∀z∈zs,jo z=true)->zs.Nodup->H' d=some (.dK (src n' s t'))->Fr H d H'->Q (.ref l) H'
theorem Xp:∀zs:List Str,(zs.map λ_=>1).sum=zs.length
 | []=>rfl
 | z::zs=>by rw[List.map_cons,List.sum_cons,Xp zs,List.length_cons];omega
section
variable {P:Program} {w:World} {K:PySem.W.Frag} {mg:Str->Option Value} {base:Heap}
abbrev uA:List Str:=["_law_source_here","_law_many","_law_letters","_law_word","_law_ahead","_law_first","_law_step","_law_names_here","_law_k","_law_behind"]
theorem Qj:qJ uA ["_law_source_here","_law_many"] (qt Z5):=⟨rfl,rfl,rfl,by decide+kernel,rfl,by decide+kernel,by decide+kernel⟩
theorem vH {f fT:Addr} {fd fdT:FuncData} (F:Qw K "_law_names" "_law_names" Z5 f fd) (B:JU mg) (hT:jT K mg "_law_take" Jz ["_law_source_here","_law_many"] fT fdT):qI P w K mg base ji 2 f fd ["_law_source_here","_law_many"] WT:=by
 have GT:qI P w K mg base ji 1 fT fdT ["_law_source_here","_law_many"] Ja:=QR hT.fn
 refine F.okJ Qj (λvs H Q E h=>?_) (λcdv A outer s H vs Q E hr h=>?_)
 . obtain⟨d,m,n,sd,t,rfl,_⟩:=h
   rfl
 . obtain⟨d,m,n,sd,t,rfl,hd,hm,q⟩:=h
   refine⟨_,qg (qC (i:=2) Qj.nd rfl (Or.inr rfl) qB)
     (qg (qC (i:=3) Qj.nd rfl (Or.inl rfl) (ku PySem.F.plainAttrs_str PySem.F.slot_str_join PySem.F.type_str_join xi qB (qb
       (Qs (N':=["_law_k","_law_letters","_law_source_here"]) (ix:=[none,some 2,some 0]) rfl ⟨rfl,rfl,rfl,rfl,rfl⟩
         (jV (by rfl) B.rng (qb qh qe))
         (λC s2 H2 fp pins=>⟨qz (i:=0) (show (["_law_k","_law_letters","_law_source_here"]:List Str).Nodup by decide+kernel) rfl (Or.inl rfl),jQ,
           qH kx (jv 1) (qX hT GT hr (by rfl) (qb (jv 2) (qb qh qe))) (λ_ _=>rfl)⟩)) qe)))
     (qg (qC (i:=4) Qj.nd rfl (Or.inl rfl) (zw UV (jv 3) YW (YV (qQ QP (qX hT GT hr (by rfl) (qb (jv 0) (qb qh qe))) (qX hT GT hr (by rfl) (qb (jv 0) (qb qh qe)))))))
     (qg (qC (i:=5) Qj.nd rfl (Or.inl rfl) (qX hT GT hr (by rfl) (qb (jv 0) (qb qh qe))))
     (qg (qC (i:=6) Qj.nd rfl (Or.inl rfl) (qH jl (jk (qb qh (qb qh (qb qh (qb qh (qb qh (qb qh qe))))))) (qX hT GT hr (by rfl) (qb (jv 0) (qb qh qe))) (λ_ _=>rfl)))
     (qg (qC (i:=7) Qj.nd rfl (Or.inl rfl) (jk qe))
     (qg (jK PassesOwn.never rfl (jV (by rfl) B.rng (qb (jv 1) qe)) (qz (i:=8) Qj.nd rfl (Or.inl rfl))
       (qg (qC (i:=9) Qj.nd rfl (Or.inl rfl) (zw UV (jv 3) YW (YV (qX hT GT hr (by rfl) (qb (jv 0) (qb (qQ uh qh (qo QY (by rfl) B.len boot_len (qb (jv 4) qe))) qe))))))
       (ql (j5 (ku PySem.F.plainAttrs_list PySem.F.slot_list_append PySem.F.type_list_append Zq (jv 7) (qb
         (qQ zh (qQ zh (jv 4) (qH kx (jv 2) (qQ QQ (qQ jX (jv 5) (qQ QP (jv 6) (jv 8))) qh) (λ_ _=>rfl))) (jv 9)) qe))))))
     (ql (qG (jv 7))))))))),?_⟩
   refine⟨rfl,7,rfl,by decide,by decide,λD hD=>?_⟩
   have nDd:D≠d:=λe=>by rw[e,hd]at hD;cases hD
   refine Yw (λi σ' H'=>∃(v:Option V) (n' t':Int) (ws:List Nat),σ'=[v,some (.str Vu),some (.ref d)]/\H' d=some (.dK (src n' sd t'))/\H' D=some (.lst ((ws.map λk=>(⟨#[k]⟩:Str)).map V.str))/\ws.length=i/\ws.all jy=true/\Fr H d H')
     ⟨none,n,t,[],rfl,qi hd hD,qd,rfl,rfl,Fr.refl.new hD⟩ ?_ ?_
   . rintro i σ' H' hi ⟨v,n',t',ws,rfl,hd',hD',hl,ha,fr⟩
     refine⟨_,rfl,_,rfl,d,26,n',sd,t',rfl,hd',by decide,by decide,λr n3 t3 r0 r1=>?_⟩
     refine⟨Vu,r,_,rfl,rfl,Vt,kY r0 r1,_,(by rw[qk nDd];exact hD'),?_,?_⟩
     . rw[List.length_map,List.length_map,hl]
       exact qp (by omega)
     . refine⟨_,n3,t3,ws++[97+r.toNat],rfl,?_,?_,?_,?_,?_⟩
       . rw[qk (Ne.symm nDd)];exact qd
       . rw[List.map_append,List.map_append];exact qd
       . rw[List.length_append,hl];rfl
       . rw[List.all_append,ha]
         simp [Yj r0 r1]
       . exact(fr.at_d).own hD
   rintro σ' H1 ⟨v,n1,t1,ws,rfl,hd1,hD1,hl1,ha1,fr1⟩
   have hl1:ws.length=7:=hl1
   refine⟨Str.ofString "",D,_,rfl,rfl,.of hD1,?_,?_⟩
   . have e1:((ws.map λk=>(⟨#[k]⟩:Str)).map (·.length))=(ws.map λk=>(⟨#[k]⟩:Str)).map λ_=>1:=by
       refine List.map_congr_left λz hz=>?_
       obtain⟨c,_,rfl⟩:=List.mem_map.mp hz
       rfl
     have e2:(Str.ofString "").length=0:=by decide+kernel
     rw[e1,e2,Xp,List.length_map,hl1]
     decide
   generalize hw:Txt.join (Str.ofString "") (ws.map λk=>(⟨#[k]⟩:Str))=wd
   have hW:wd.cps.toList=ws:=by rw[<-hw];exact uK ws
   have hWl:wd.length=7:=by
     show wd.cps.size=7
     rw[<-Array.length_toList,hW,hl1]
   refine⟨_,rfl,_,rfl,d,2,n1,sd,t1,rfl,hd1,by decide,by decide,λr2 n2 t2 r20 r21=>?_⟩
   refine⟨_,rfl,d,5,n2,sd,t2,rfl,qd,by decide,by decide,λr3 n3 t3 r30 r31=>?_⟩
   rw[jP]
   have e4:∃j:Nat,r2*r3=(j:Int)/\j<=4:=by
     have h2:r2=0\/r2=1:=by omega
     rcases h2 with rfl | rfl
     . exact⟨0,by omega,by omega⟩
     . exact⟨r3.toNat,by omega,by omega⟩
   obtain⟨j,ej,hj⟩:=e4
   refine⟨_,_,rfl,rfl,.inl ⟨by omega,by omega⟩,_,rfl,wd,r2*r3,rfl,rfl,rfl,by omega,?_⟩
   rw[ej]
   generalize ha:Txt.slice wd none (some (j:Int))=ah
   have hA:ah.cps.toList=ws.take j:=by rw[<-ha,ZY,hW]
   have hAl:ah.length=j:=by
     show ah.cps.size=j
     rw[<-Array.length_toList,hA,List.length_take,hl1]
     omega
   refine⟨_,rfl,d,26,n3,sd,t3,rfl,qd,by decide,by decide,λf n4 t4 f0 f1=>?_⟩
   rw[jP]
   refine⟨by show 6<=sizeLine;decide,λp hp=>?_⟩
   have npd:p≠d:=λe=>by rw[e,qd]at hp;cases hp
   refine⟨_,rfl,d,6,n4,sd,t4,rfl,(by rw[qk (Ne.symm npd)];exact qd),by decide,by decide,λr5 n5 t5 r50 r51=>?_⟩
   obtain⟨st,hst,hsa⟩:=wV r50 r51
   refine⟨p,_,r5,.int st,rfl,rfl,.of (by rw[qk npd];exact qd),hsa,?_⟩
   have fr5:Fr H d (upd (upd (upd H1 d (.dK (src n4 sd t4))) p (.lst [V.int 1,V.int 3,V.int 5,V.int 7,V.int 9,V.int 11])) d (.dK (src n5 sd t5))):=(fr1.at_d.new hp).at_d
   generalize hH5:upd (upd (upd H1 d (.dK (src n4 sd t4))) p (.lst [V.int 1,V.int 3,V.int 5,V.int 7,V.int 9,V.int 11])) d (.dK (src n5 sd t5))=H5 at fr5
   have hd5:H5 d=some (.dK (src n5 sd t5)):=by rw[<-hH5];exact qd
   refine⟨by show 0<=sizeLine;decide,λl hl=>⟨_,rfl,m,rfl,by omega,by omega,?_⟩⟩
   have hHl:H l=none:=fr5.fresh hd5 hl
   have nld:l≠d:=λe=>by rw[e,hd5]at hl;cases hl
   refine Qn (lo:=0) (n:=m) (λi σ' H'=>∃(v1 v2:Option V) (n' t':Int) (zs:List Str),σ'=[some (.ref d),some (.int m),some (.str Vu),some (.str wd),some (.str ah),some (.int f),some (.int st),some (.ref l),v1,v2]/\
     H' d=some (.dK (src n' sd t'))/\H' l=some (.lst (zs.map V.str))/\zs.length=i/\QB (ws.take j) f st zs/\Fr H d H')
     ⟨none,none,n5,t5,[],rfl,qi hd5 hl,qd,rfl,λj z hz=>(nomatch hz),fr5.new hl⟩ ?_ ?_
   . rintro i σ' H' hi ⟨v1,v2,n',t',zs,rfl,hd',hl',hz,hN,fr⟩
     rw[Int.zero_add]
     refine⟨_,rfl,_,rfl,_,rfl,ah,rfl,(by rw[hAl];exact Nat.le_of_lt (qp (by omega))),_,_,rfl,rfl,d,8 - (ah.length:Int),n',sd,t',rfl,hd',by omega,by omega,λr n6 t6 r0 r1=>?_⟩
     have er:r=((r.toNat:Nat):Int):=by omega
     refine⟨_,rfl,wd,r,rfl,rfl,rfl,by omega,?_⟩
     generalize hb:Txt.slice wd none (some r)=bh
     have hB:bh.cps.toList=ws.take r.toNat:=by rw[<-hb,er,ZY,hW];rfl
     have hBl:bh.length<=r.toNat:=by
       show bh.cps.size<=r.toNat
       rw[<-Array.length_toList,hB,List.length_take]
       omega
     refine⟨_,rfl,.inl ⟨rfl,_,.of (by rw[qk nld];exact hl')⟩,_,rfl,_,rfl,_,rfl,_,rfl,_,rfl,_,_,rfl,rfl,.inl ⟨by omega,by omega⟩,_,_,rfl,rfl,_,_,rfl,rfl,(by show (0:Int) < 26;decide),?_⟩
     refine⟨Vu,_,_,rfl,rfl,Vt,kY (Int.emod_nonneg _ (by decide)) (Int.emod_lt_of_pos _ (by decide)),?_⟩
     have e26:97+((f+st*(i:Int)) % 26).toNat=W9 f st i:=rfl
     rw[e26]
     have l1:(ah++(⟨#[W9 f st i]⟩:Str)).length=j+1:=by
       show (ah++(⟨#[W9 f st i]⟩:Str)).cps.size=_
       rw[Str.cps_append,Array.size_append]
       show ah.length+1=_
       rw[hAl]
     refine⟨_,_,rfl,rfl,Nat.le_of_lt (qp (by show ah.length+1<=1000;omega)),_,rfl,_,_,rfl,rfl,Nat.le_of_lt (qp (by rw[l1];omega)),?_⟩
     refine⟨l,_,_,rfl,rfl,(by rw[qk nld];exact hl'),(by rw[List.length_map,hz];exact qp (by omega)),?_⟩
     refine⟨_,_,n6,t6,zs++[ah++(⟨#[W9 f st i]⟩:Str)++bh],rfl,?_,?_,?_,?_,?_⟩
     . rw[qk (Ne.symm nld)];exact qd
     . rw[List.map_append];exact qd
     . rw[List.length_append,hz];rfl
     . refine hN.snoc (B:=ws.take r.toNat) ?_ (X0 ha1 _) ?_
       . rw[Str.cps_append,Str.cps_append,Array.toList_append,Array.toList_append,hA,hB,hz]
       . rw[List.length_take,List.length_take]
         omega
     . exact fr.at_d.own hHl
   . rintro σ' H' ⟨v1,v2,n',t',zs,rfl,hd',hl',hz,hN,fr⟩
     exact⟨_,rfl,q l zs n' t' H' hHl hl' hz (hN.names (X0 ha1 _)) (hN.nodup hst (by omega)) hd' fr⟩
end
end Rh
set_option Elab.async false
set_option linter.all false
set_option maxRecDepth 100000
set_option maxHeartbeats 4000000
namespace Rh
open PySem L2 PyProof.Rows
def WA (t:TT) (σ:L2.St) (H:Hp):Prop:=∀Q:Bool->Hp->Prop,(∀b,Q b H)->t σ H Q
theorem WA.and {t u:TT} {σ:L2.St} {H:Hp} (h:WA t σ H) (k:WA u σ H):WA (Kt t u) σ H:=λQ q=>h _ λb=>by
 cases b
 . exact jm (q false)
 . exact j0 (k _ q)
theorem WA.or {t u:TT} {σ:L2.St} {H:Hp} (h:WA t σ H) (k:WA u σ H):WA (tOr t u) σ H:=λQ q=>h _ λb=>by
 cases b
 . exact jm (k _ q)
 . exact j0 (q true)
theorem kC {tc:TT} {tp:TS} {D:QE} {σ:L2.St} {H0:Hp} (G:Hp->Prop) (h:G H0) (ht:WA tc σ H0) (hp:∀D:QE,(∀H',G H'->D.nx σ H')->tp D σ H0) (k:∀H',G H'->D.nx σ H'):yk tc tp Xn D σ H0:=
 ht _ λb=>by
   cases b
   . exact jm (k _ h)
   . exact j0 (hp D k)
theorem ZT {tc:TT} {tp u:TS} {D:QE} {σ:L2.St} {H0:Hp} (G:Hp->Prop) (h:G H0) (ht:WA tc σ H0) (hp:∀D:QE,(∀H',G H'->D.nx σ H')->tp D σ H0) (k:∀H',G H'->u D σ H'):yi (yk tc tp Xn) u D σ H0:=kC G h ht hp k
theorem zC {i:Nat} {v:V} {σ:L2.St} {H:Hp} {Q:L2.St->Hp->Prop} (h:Q (σ.set i (some v)) H):j9 i v σ H Q:=h
abbrev up (k:Nat×Nat):Int×Int:=((k.1:Int),(k.2:Int))
def wz (a b:Nat×Nat):Prop:=a.1 < b.1\/(a.1=b.1/\a.2 < b.2)
abbrev Zt (ks:List (Nat×Nat)):List (List qw):=ks.map λk=>ZB (up k)
theorem VP {a b:Nat×Nat} (h:ZB (up a)=ZB (up b)):a=b:=by
 unfold ZB at h
 simp only[List.cons.injEq,Sum.inl.injEq,and_true]at h
 exact Prod.ext (by have:=h.1;omega) (by have:=h.2;omega)
structure Q5 (m i j:Nat) (ks:List (Nat×Nat)):Prop where
 ord:ks.Pairwise wz
 lt:∀x∈ks,x.2 < m/\(x.1 < i\/(x.1=i/\x.2 < j))
 len:ks.length<=i*m+j
theorem Q5.more {m i j:Nat} {ks:List (Nat×Nat)} (h:Q5 m i j ks):Q5 m i (j+1) ks:=⟨h.ord,λx hx=>by have:=h.lt x hx;omega,by have:=h.len;omega⟩
theorem Q5.snoc {m i j:Nat} {ks:List (Nat×Nat)} (h:Q5 m i j ks) (hj:j < m):Q5 m i (j+1) (ks++[(i,j)]):=by
 refine⟨List.pairwise_append.mpr ⟨h.ord,List.pairwise_singleton _ _,λa ha b hb=>?_⟩,λx hx=>?_,?_⟩
 . rw[List.mem_singleton.mp hb]
   have:=h.lt a ha
   unfold wz
   omega
 . rcases List.mem_append.mp hx with hx | hx
   . have:=h.lt x hx
     omega
   . rw[List.mem_singleton.mp hx]
     exact⟨hj,.inr ⟨rfl,Nat.lt_succ_self _⟩⟩
 . rw[List.length_append]
   have:=h.len
   show ks.length+1<=_
   omega
theorem Q5.row {m i:Nat} {ks:List (Nat×Nat)} (h:Q5 m i m ks):Q5 m (i+1) 0 ks:=⟨h.ord,λx hx=>by have:=h.lt x hx;omega,by have:=h.len;rw[Nat.succ_mul];omega⟩
def Kc (m i j:Nat) (kvs:List (List qw×V)):Prop:=∃ks,Q5 m i j ks/\(kvs.map (·.1)=Zt ks\/kvs.map (·.1)=Zt (ks++[(i,j)]))
theorem Vs (kvs:List (List qw×V)) (k:List qw):((kvs.any λkv=>decide (kv.1=k))=true)↔k∈kvs.map (·.1):=by
 rw[List.any_eq_true,List.mem_map]
 simp
theorem xp {kvs:List (List qw×V)} {k:List qw} (v:V) (h:k∈kvs.map (·.1)):(jf kvs k v).map (·.1)=kvs.map (·.1):=by
 unfold jf
 rw[if_pos ((Vs kvs k).mpr h),List.map_map]
 refine List.map_congr_left λx _=>?_
 show (if x.1=k then (x.1,v) else x).1=x.1
 split<;>rfl
theorem kc {kvs:List (List qw×V)} {k:List qw} (v:V) (h:¬k∈kvs.map (·.1)):(jf kvs k v).map (·.1)=kvs.map (·.1)++[k]:=by
 unfold jf
 rw[if_neg (λz=>h ((Vs kvs k).mp z)),List.map_append]
 rfl
theorem Kc.put {m i j:Nat} {kvs:List (List qw×V)} (h:Kc m i j kvs) (v:V):Kc m i j (jf kvs (ZB (up (i,j))) v):=by
 obtain⟨ks,ha,h⟩:=h
 refine⟨ks,ha,.inr ?_⟩
 rcases h with h | h
 . rw[kc,h,Zt,Zt,List.map_append]
   . rfl
   . rw[h]
     intro z
     obtain⟨x,hx,e⟩:=List.mem_map.mp z
     have e':=VP e
     have:=ha.lt x hx
     rw[e']at this
     omega
 . rw[xp,h]
   rw[h]
   exact List.mem_map.mpr ⟨(i,j),by simp,rfl⟩
theorem Kc.len {m i j:Nat} {kvs:List (List qw×V)} (h:Kc m i j kvs):kvs.length<=i*m+j+1:=by
 obtain⟨ks,ha,h⟩:=h
 have hl:=ha.len
 rcases h with h | h
 . have:=congrArg List.length h
   simp only[List.length_map]at this
   omega
 . have:=congrArg List.length h
   simp only[List.length_map,List.length_append,List.length_singleton]at this
   omega
theorem wb {i m:Nat} (hi:i<=m) (hm:m<=14):i*m<=196:=Nat.le_trans (Nat.mul_le_mul (Nat.le_trans hi hm) hm) (by decide)
theorem Gj (xs:List V):Uq xs none (some 40)=xs.take 40:=by
 unfold Uq
 have e1:HT.sIx xs.length 0 none=0:=rfl
 have e2:HT.sIx xs.length xs.length (some 40)=min 40 xs.length:=by
   simp [HT.sIx]
 rw[e1,e2,List.drop_zero,Nat.sub_zero]
 by_cases h:40<=xs.length
 . rw[Nat.min_eq_left h]
 . rw[Nat.min_eq_right (by omega),List.take_of_length_le (Nat.le_refl _),List.take_of_length_le (by omega)]
def Jt (H:Hp) (ps:List Addr) (ks:List (Nat×Nat)):Prop:=ps.length=ks.length/\∀(i:Nat) (p:Addr) (k:Nat×Nat),ps[i]?=some p->ks[i]?=some k->H p=some (.tup [.int (k.1:Nat),.int (k.2:Nat)])
def WU:Sp:=λvs H Q _=>∃(d:Addr) (m:Nat) (n s t sh lo:Int),vs=[.ref d,.int m,.int sh,.int lo]/\H d=some (.dK (src n s t))/\m<=14/\
 ∀(l:Addr) (ps:List Addr) (ks:List (Nat×Nat)) (n' t':Int) (H':Hp),H l=none->H' l=some (.lst (ps.map V.ref))->Jt H' ps ks->ks.Pairwise wz->(∀x∈ks,x.1 < m/\x.2 < m)->ks.length<=40->H' d=some (.dK (src n' s t'))->Fr H d H'->Q (.ref l) H'
section
variable {P:Program} {w:World} {K:PySem.W.Frag} {mg:Str->Option Value} {base:Heap}
abbrev uB:List Str:=["_law_source_here","_law_many","_law_shape","_law_low","_law_pairs","_law_k","_law_j","_law_way"]
abbrev zg:List Str:=["_law_source_here","_law_many","_law_shape","_law_low"]
theorem J1:qJ uB zg (qt Z6):=⟨rfl,rfl,rfl,by decide+kernel,rfl,by decide+kernel,by decide+kernel⟩
theorem vI {f fT:Addr} {fd fdT:FuncData} (F:Qw K "_law_leads" "_law_leads" Z6 f fd) (B:JU mg) (hso:mg "sorted"=none) (hT:jT K mg "_law_take" Jz ["_law_source_here","_law_many"] fT fdT):qI P w K mg base ji 2 f fd zg WU:=by
 have GT:qI P w K mg base ji 1 fT fdT ["_law_source_here","_law_many"] Ja:=QR hT.fn
 refine F.okJ J1 (λvs H Q E h=>?_) (λcdv A outer s H vs Q E hr h=>?_)
 . obtain⟨d,m,n,sd,t,sh,lo,rfl,_⟩:=h
   rfl
 . obtain⟨d,m,n,sd,t,sh,lo,rfl,hd,hm,q⟩:=h
   have hu:=jN hr
   refine⟨_,qg (qC (i:=4) J1.nd rfl (Or.inl rfl) kr)
     (qg (jK PassesOwn.never rfl (jV (by rfl) B.rng (qb (jv 1) qe)) (qz (i:=5) J1.nd rfl (Or.inl rfl))
       (ql (jK PassesOwn.never rfl (jV (by rfl) B.rng (qb (jv 1) qe)) (qz (i:=6) J1.nd rfl (Or.inl rfl))
         (qg (qC (i:=7) J1.nd rfl (Or.inl rfl) (qX hT GT hr (by rfl) (qb (jv 0) (qb qh qe))))
         (qg (qS (Qg (qv jg (jv 2) qh (qr _)) (jZ (Qi (Qg (qv j7 (jv 6) (jv 5) (qr _)) (jZ (qv j7 (jv 7) qh (qr _)))).pt (jR (Qg (qv XA (jv 6) (jv 5) (qr _)) (jZ (qv j7 (jv 7) qh (qr _)))).pt)).pt)).pt
           (ql (jz hu (jv 4) (qW (qb (jv 5) (qb (jv 6) qe))) jw rfl)) qA)
         (qg (qS (Qg (qv jg (jv 2) qh (qr _)) (jZ (qv j7 (jv 7) qh (qr _)))).pt
           (ql (jz hu (jv 4) (qW (qb (jv 5) (qb (jv 6) qe))) jw rfl)) qA)
         (qg (qS (Qg (qv jg (jv 2) qh (qr _)) (jZ (Qi (Qg (qv jg (jv 6) (qQ QQ (qQ jX (jv 5) qh) (jv 1)) (qr _)) (jZ (qv j7 (jv 7) qh (qr _)))).pt (jR (qv j7 (jv 7) qh (qr _)))).pt)).pt
           (ql (jz hu (jv 4) (qW (qb (jv 5) (qb (jv 6) qe))) jw rfl)) qA)
         (qg (qS (Qg (qv jg (jv 2) qh (qr _)) (Qg (qv j7 (jv 6) (jv 5) (qr _)) (jZ (Qi (qv j7 (jv 6) (jv 3) (qr _)) (jR (qv j7 (jv 7) qh (qr _)))).pt))).pt
           (ql (jz hu (jv 4) (qW (qb (jv 5) (qb (jv 6) qe))) jw rfl)) qA)
         (ql (qS (Qg (qv jg (jv 2) qh (qr _)) (jZ (Qi (Qg (qv j7 (jv 6) (jv 3) (qr _)) (jZ (qv j7 (jv 6) (jv 5) (qr _)))).pt (jR (Qg (qv XA (jv 5) (jv 3) (qr _)) (jZ (qv j7 (jv 7) qh (qr _)))).pt)).pt)).pt
           (ql (jz hu (jv 4) (qW (qb (jv 5) (qb (jv 6) qe))) jw rfl)) qA)))))))))
       )
     (ql (qG (zw yu (qo (Wy rfl) (by rfl) hso boot_sorted (qb (jv 4) qe)) YW (YV qh))))),?_⟩
   intro D hD
   have nDd:D≠d:=λe=>by rw[e,hd]at hD;cases hD
   refine⟨_,rfl,m,rfl,by omega,by omega,?_⟩
   refine Qn (lo:=0) (n:=m) (λi σ' H'=>∃(v1 v2 v3:Option V) (n' t':Int) (kvs:List (List qw×V)) (ks:List (Nat×Nat)),σ'=[some (.ref d),some (.int m),some (.int sh),some (.int lo),some (.ref D),v1,v2,v3]/\
     H' d=some (.dK (src n' sd t'))/\H' D=some (.dT kvs)/\kvs.map (·.1)=Zt ks/\Q5 m i 0 ks/\Fr H d H')
     ⟨none,none,none,n,t,[],[],rfl,qi hd hD,qd,rfl,⟨.nil,λx hx=>(nomatch hx),Nat.zero_le _⟩,Fr.refl.new hD⟩ ?_ ?_
   . rintro i σ' H' hi ⟨v1,v2,v3,n',t',kvs,ks,rfl,hd',hD',ek,ha,fr⟩
     rw[Int.zero_add]
     refine⟨_,rfl,m,rfl,by omega,by omega,?_⟩
     refine Qn (lo:=0) (n:=m) (λj σ' H'=>∃(v2 v3:Option V) (n' t':Int) (kvs:List (List qw×V)) (ks:List (Nat×Nat)),σ'=[some (.ref d),some (.int m),some (.int sh),some (.int lo),some (.ref D),some (.int i),v2,v3]/\
       H' d=some (.dK (src n' sd t'))/\H' D=some (.dT kvs)/\kvs.map (·.1)=Zt ks/\Q5 m i j ks/\Fr H d H')
       ⟨_,_,n',t',kvs,ks,rfl,hd',hD',ek,ha,fr⟩ ?_ ?_
     . rintro j σ' H2 hj ⟨v2,v3,n2,t2,kvs,ks,rfl,hd2,hD2,ek,ha,fr⟩
       rw[Int.zero_add]
       refine⟨_,rfl,d,12,n2,sd,t2,rfl,hd2,by decide,by decide,λr n3 t3 r0 r1=>?_⟩
       have hsq:=wb (Nat.le_of_lt hi) hm
       let G:Hp->Prop:=λH'=>∃(kvs:List (List qw×V)),H' d=some (.dK (src n3 sd t3))/\H' D=some (.dT kvs)/\Kc m i j kvs/\Fr H d H'
       have g0:G (upd H2 d (.dK (src n3 sd t3))):=⟨kvs,qd,(by rw[qk nDd];exact hD2),⟨ks,ha,.inl ek⟩,fr.at_d⟩
       have put:∀H',G H'->∀E:QE,(∀H',G H'->E.nx [some (.ref d),some (.int m),some (.int sh),some (.int lo),some (.ref D),some (.int i),some (.int j),some (.int r)] H')->
           wo (qZ 4) (VB (ju (qZ 5) (ju (qZ 6) QN))) (tC (.bl true)) E [some (.ref d),some (.int m),some (.int sh),some (.int lo),some (.ref D),some (.int i),some (.int j),some (.int r)] H':=by
         rintro H' ⟨kvs,h1,h2,h3,h4⟩ E k
         refine⟨_,rfl,_,rfl,_,rfl,by show 2<=sizeLine;decide,λp hp=>?_⟩
         have npd:p≠d:=λe=>by rw[e,h1]at hp;cases hp
         have npD:p≠D:=λe=>by rw[e,h2]at hp;cases hp
         refine⟨D,_,rfl,Qu.t (k:=ZB (up (i,j))) (kvs:=kvs) (by rw[qk (Ne.symm npD)];exact h2) qd (qp (by have:=h3.len;omega)),?_⟩
         refine k _ ⟨_,?_,qd,h3.put _,?_⟩
         . rw[qk (Ne.symm nDd),qk (Ne.symm npd)]
           exact h1
         . exact(h4.new hp).own hD
       refine zC ?_
       dsimp only[List.set]
       refine ZT G g0 ?_ (put _ g0) λH3 g3=>?_
       . exact WA.and (λQ q=>⟨_,rfl,rfl,_,rfl,q _⟩) (.or (.and (λQ q=>⟨_,rfl,_,rfl,_,_,rfl,rfl,_,rfl,q _⟩) (λQ q=>⟨_,rfl,_,_,rfl,rfl,_,rfl,q _⟩)) (.and (λQ q=>⟨_,rfl,_,rfl,_,_,rfl,rfl,_,rfl,q _⟩) (λQ q=>⟨_,rfl,_,_,rfl,rfl,_,rfl,q _⟩)))
       refine ZT G g3 ?_ (put _ g3) λH4 g4=>?_
       . exact WA.and (λQ q=>⟨_,rfl,rfl,_,rfl,q _⟩) (λQ q=>⟨_,rfl,_,_,rfl,rfl,_,rfl,q _⟩)
       refine ZT G g4 ?_ (put _ g4) λH5 g5=>?_
       . exact WA.and (λQ q=>⟨_,rfl,rfl,_,rfl,q _⟩) (.or (.and (λQ q=>⟨_,rfl,_,rfl,_,_,rfl,rfl,_,rfl,_,_,rfl,rfl,(by show (0:Int) < m;omega),rfl,_,rfl,q _⟩) (λQ q=>⟨_,rfl,_,_,rfl,rfl,_,rfl,q _⟩)) (λQ q=>⟨_,rfl,_,_,rfl,rfl,_,rfl,q _⟩))
       refine ZT G g5 ?_ (put _ g5) λH6 g6=>?_
       . exact WA.and (λQ q=>⟨_,rfl,rfl,_,rfl,q _⟩) (.and (λQ q=>⟨_,rfl,_,rfl,_,_,rfl,rfl,_,rfl,q _⟩) (.or (λQ q=>⟨_,rfl,_,rfl,_,_,rfl,rfl,_,rfl,q _⟩) (λQ q=>⟨_,rfl,_,_,rfl,rfl,_,rfl,q _⟩)))
       refine kC G g6 ?_ (put _ g6) λH7 g7=>?_
       . exact WA.and (λQ q=>⟨_,rfl,rfl,_,rfl,q _⟩) (.or (.and (λQ q=>⟨_,rfl,_,rfl,_,_,rfl,rfl,_,rfl,q _⟩) (λQ q=>⟨_,rfl,_,rfl,_,_,rfl,rfl,_,rfl,q _⟩)) (.and (λQ q=>⟨_,rfl,_,rfl,_,_,rfl,rfl,_,rfl,q _⟩) (λQ q=>⟨_,rfl,_,_,rfl,rfl,_,rfl,q _⟩)))
       obtain⟨kvs,h1,h2,⟨ks,ha,h3⟩,h4⟩:=g7
       rcases h3 with h3 | h3
       . exact⟨_,_,n3,t3,kvs,ks,rfl,h1,h2,h3,ha.more,h4⟩
       . exact⟨_,_,n3,t3,kvs,_,rfl,h1,h2,h3,ha.snoc hj,h4⟩
     . rintro σ' H2 ⟨v2,v3,n2,t2,kvs,ks,rfl,hd2,hD2,ek,ha,fr⟩
       exact⟨_,_,_,n2,t2,kvs,ks,rfl,hd2,hD2,ek,ha.row,fr⟩
   . rintro σ' H1 ⟨v1,v2,v3,n1,t1,kvs,ks,rfl,hd1,hD1,ek,ha,fr⟩
     have hl:kvs.length=ks.length:=by simpa using congrArg List.length ek
     have hsq:=wb (Nat.le_refl m) hm
     have hal:=ha.len
     refine⟨_,rfl,D,kvs,ks.map up,rfl,hD1,?_,?_,by omega,λl ps hfl lps tup=>?_⟩
     . rw[ek,List.map_map]
       rfl
     . intro i k k' e1 e2
       rw[List.getElem?_map]at e1 e2
       cases e3:ks[i]? with
       | none=>rw[e3]at e1;cases e1
       | some a=>
         cases e4:ks[i+1]? with
         | none=>rw[e4]at e2;cases e2
         | some b=>
           rw[e3]at e1
           rw[e4]at e2
           obtain rfl:=(Option.some.inj e1).symm
           obtain rfl:=(Option.some.inj e2).symm
           have h5:=List.pairwise_iff_getElem.mp ha.ord i (i+1) (List.getElem?_eq_some_iff.mp e3).1 (List.getElem?_eq_some_iff.mp e4).1 (Nat.lt_succ_self _)
           rw[(List.getElem?_eq_some_iff.mp e3).2,(List.getElem?_eq_some_iff.mp e4).2]at h5
           unfold wz at h5
           show zq _ _
           unfold zq
           show (a.1:Int) < b.1\/((a.1:Int)=b.1/\(a.2:Int) < b.2)
           omega
     . refine⟨40,rfl,l,_,rfl,.of qd,λl2 hl2=>?_⟩
       rw[Gj,<-List.map_take]
       have n2d:l2≠d:=λe=>by
         rw[e,qi hd1 hfl]at hl2
         cases hl2
       have hl1:H1 l2=none:=by
         by_cases e:l2=l
         . rw[e];exact hfl
         . rw[qk e]at hl2;exact hl2
       have fr2:=(fr.new (o:=.lst (ps.map V.ref)) hfl).new (o:=.lst ((ps.take 40).map V.ref)) hl2
       refine q l2 (ps.take 40) (ks.take 40) n1 t1 _ (fr.fresh hd1 hl1) qd ⟨?_,λi p k e1 e2=>?_⟩ ?_ ?_ ?_ ?_ fr2
       . rw[List.length_take,List.length_take,lps,List.length_map]
       . have i40:i < 40:=by
           have:=(List.getElem?_eq_some_iff.mp e1).1
           rw[List.length_take]at this
           omega
         rw[List.getElem?_take_of_lt i40]at e1 e2
         have h1:=tup i p (up k) e1 (by rw[List.getElem?_map,e2];rfl)
         exact qi (qi h1 hfl) hl2
       . exact ha.ord.sublist (List.take_sublist _ _)
       . intro x hx
         have:=ha.lt x (List.mem_of_mem_take hx)
         omega
       . rw[List.length_take]
         omega
       . exact qi (qi hd1 hfl) hl2
end
end Rh
set_option Elab.async false
set_option linter.all false
set_option maxRecDepth 100000
set_option maxHeartbeats 4000000
namespace Rh
open PySem L2 PyProof.Rows
structure qO (rs:List (Str×List Str)):Prop where
 nm:∀r∈rs,jo r.1=true
 nd:(rs.map (·.1)).Nodup
 to:∀r∈rs,∀z∈r.2,z∈rs.map (·.1)
 rd:∀r∈rs,r.2.Nodup
 few:(rs.map λr=>r.2.length).sum<=40
def Xe (zs:List Str) (j:Nat):Str:=zs.getD j ⟨#[]⟩
theorem yf {zs:List Str} {j:Nat} (h:j < zs.length):Xe zs j∈zs:=by
 unfold Xe
 rw[List.getD_eq_getElem?_getD,List.getElem?_eq_getElem h]
 exact List.getElem_mem h
theorem YC {zs:List Str} {j:Nat} (h:j < zs.length):zs[j]?=some (Xe zs j):=by
 unfold Xe
 rw[List.getD_eq_getElem?_getD,List.getElem?_eq_getElem h]
 rfl
theorem WG {zs:List Str} (hn:zs.Nodup) {i j:Nat} (hi:i < zs.length) (hj:j < zs.length) (h:Xe zs i=Xe zs j):i=j:=by
 have h1:=YC hi
 have h2:=YC hj
 rw[h,<-h2,List.getElem?_eq_getElem hi,List.getElem?_eq_getElem hj]at h1
 have e:zs[i]=zs[j]:=Option.some.inj h1
 rcases Nat.lt_trichotomy i j with l | l | l
 . exact absurd e (List.pairwise_iff_getElem.mp hn i j hi hj l)
 . exact l
 . exact absurd e.symm (List.pairwise_iff_getElem.mp hn j i hj hi l)
theorem jD {α β:Type} {f:α->β}:∀{l:List α},l.Nodup->(∀a∈l,∀b∈l,f a=f b->a=b)->(l.map f).Nodup
 | [],_,_=>List.nodup_nil
 | a::l,h,k=>by
   rw[List.map_cons,List.nodup_cons]
   rw[List.nodup_cons]at h
   refine⟨λz=>?_,jD h.2 λx hx y hy=>k x (List.mem_cons_of_mem _ hx) y (List.mem_cons_of_mem _ hy)⟩
   obtain⟨b,hb,e⟩:=List.mem_map.mp z
   have:=k b (List.mem_cons_of_mem _ hb) a (List.mem_cons_self) e
   subst this
   exact h.1 hb
def z6 (ks:List (Nat×Nat)) (k:Nat):List Nat:=(ks.filter λx=>decide (x.1=k)).map (·.2)
theorem VA {ks:List (Nat×Nat)} (h:ks.Pairwise wz) (k:Nat):(z6 ks k).Nodup:=by
 have h1:(ks.filter λx=>decide (x.1=k)).Pairwise wz:=h.sublist (List.filter_sublist)
 refine List.pairwise_map.mpr (List.Pairwise.imp_of_mem (λ{a b} ha hb r=>?_) h1)
 have e1:a.1=k:=of_decide_eq_true (List.mem_filter.mp ha).2
 have e2:b.1=k:=of_decide_eq_true (List.mem_filter.mp hb).2
 unfold wz at r
 omega
theorem X7 {ks:List (Nat×Nat)} {m:Nat} (h:∀x∈ks,x.1 < m/\x.2 < m) (k:Nat):∀j∈z6 ks k,j < m:=λj hj=>by
 obtain⟨x,hx,e⟩:=List.mem_map.mp hj
 have:=(h x (List.mem_filter.mp hx).1).2
 omega
theorem yo (os:List Nat) (f g:Nat->Nat):(os.map λk=>f k+g k).sum=(os.map f).sum+(os.map g).sum:=by
 induction os with
 | nil=>rfl
 | cons a os ih=>
   simp only[List.map_cons,List.sum_cons,ih]
   omega
theorem yn {os:List Nat} (h:os.Nodup) (a:Nat):(os.map λk=>if a=k then 1 else 0).sum<=1:=by
 induction os with
 | nil=>exact Nat.zero_le _
 | cons b os ih=>
   rw[List.nodup_cons]at h
   rw[List.map_cons,List.sum_cons]
   by_cases e:a=b
   . subst e
     have z:(os.map λk=>if a=k then 1 else 0)=os.map λ_=>0:=List.map_congr_left λk hk=>by
       rw[if_neg]
       intro e
       subst e
       exact h.1 hk
     rw[z,if_pos rfl]
     have:(os.map λ_=>0).sum=0:=by
       clear z ih h
       induction os with
       | nil=>rfl
       | cons c os ih=>rw[List.map_cons,List.sum_cons,ih]
     omega
   . rw[if_neg e]
     have:=ih h.2
     omega
theorem WN {os:List Nat} (h:os.Nodup):∀ks:List (Nat×Nat),(os.map λk=>(z6 ks k).length).sum<=ks.length
 | []=>by
   have:(os.map λk=>(z6 [] k).length).sum=0:=by
     clear h
     induction os with
     | nil=>rfl
     | cons c os ih=>rw[List.map_cons,List.sum_cons,ih];rfl
   omega
 | x::ks=>by
   have e:(os.map λk=>(z6 (x::ks) k).length)=os.map λk=>(if x.1=k then 1 else 0)+(z6 ks k).length:=List.map_congr_left λk _=>by
     unfold z6
     rw[List.filter_cons]
     by_cases z:x.1=k
     . rw[if_pos (decide_eq_true z),if_pos z]
       simp only[List.map_cons,List.length_cons]
       omega
     . rw[if_neg (by simpa using z),if_neg z,Nat.zero_add]
   rw[e,yo,List.length_cons]
   have:=yn h x.1
   have:=WN h ks
   omega
def QG (zs:List Str) (ks:List (Nat×Nat)) (ab:Bool) (k:Nat):Str×List Str:=
 (Xe zs k,if ab=true then ((z6 ks k).map (Xe zs)).reverse else (z6 ks k).map (Xe zs))
theorem VI {zs:List Str} {ks:List (Nat×Nat)} {ab:Bool} {k:Nat} {z:Str}:z∈(QG zs ks ab k).2↔z∈(z6 ks k).map (Xe zs):=by
 unfold QG
 cases ab
 . rw[if_neg Bool.false_ne_true]
 . rw[if_pos rfl,List.mem_reverse]
theorem VJ {zs:List Str} {ks:List (Nat×Nat)} {ab:Bool} {k:Nat}:(QG zs ks ab k).2.length=(z6 ks k).length:=by
 unfold QG
 cases ab
 . rw[if_neg Bool.false_ne_true,List.length_map]
 . rw[if_pos rfl,List.length_reverse,List.length_map]
structure X2 (m:Nat) (os:List Nat):Prop where
 len:os.length=m
 nd:os.Nodup
 lt:∀k∈os,k < m
 all:∀j,j < m->j∈os
theorem Uj {zs:List Str} {ks:List (Nat×Nat)} {os:List Nat} {m:Nat} (ab:Bool) (hz:zs.length=m) (hN:∀z∈zs,jo z=true) (hd:zs.Nodup) (hk:ks.Pairwise wz) (hl:∀x∈ks,x.1 < m/\x.2 < m) (h40:ks.length<=40) (ho:X2 m os):
   qO (os.map (QG zs ks ab)):=by
 have e1:(os.map (QG zs ks ab)).map (·.1)=os.map (Xe zs):=by rw[List.map_map];rfl
 have inj:∀a∈os,∀b∈os,Xe zs a=Xe zs b->a=b:=λa ha b hb e=>WG hd (by rw[hz];exact ho.lt a ha) (by rw[hz];exact ho.lt b hb) e
 refine⟨λr hr=>?_,?_,λr hr z hz'=>?_,λr hr=>?_,?_⟩
 . obtain⟨k,hk',rfl⟩:=List.mem_map.mp hr
   exact hN _ (yf (by rw[hz];exact ho.lt k hk'))
 . rw[e1]
   exact jD ho.nd inj
 . obtain⟨k,hk',rfl⟩:=List.mem_map.mp hr
   rw[VI]at hz'
   obtain⟨j,hj,rfl⟩:=List.mem_map.mp hz'
   rw[e1]
   exact List.mem_map.mpr ⟨j,ho.all j (X7 hl k j hj),rfl⟩
 . obtain⟨k,hk',rfl⟩:=List.mem_map.mp hr
   have h1:((z6 ks k).map (Xe zs)).Nodup:=jD (VA hk k) λa ha b hb e=>WG hd (by rw[hz];exact X7 hl k a ha) (by rw[hz];exact X7 hl k b hb) e
   show (if ab=true then _ else _:List Str).Nodup
   cases ab
   . rw[if_neg Bool.false_ne_true]
     exact h1
   . rw[if_pos rfl]
     exact List.pairwise_reverse.mpr (h1.imp λh=>Ne.symm h)
 . have e2:((os.map (QG zs ks ab)).map λr=>r.2.length)=os.map λk=>(z6 ks k).length:=by
     rw[List.map_map]
     exact List.map_congr_left λk _=>VJ
   rw[e2]
   exact Nat.le_trans (WN ho.nd ks) h40
theorem vp (m:Nat):X2 m (List.range m):=⟨List.length_range,List.nodup_range,λk h=>List.mem_range.mp h,λj h=>List.mem_range.mpr h⟩
theorem Wk (m:Nat):X2 m (Ze m):=⟨by rw[Ze,List.length_reverse,List.length_range],List.pairwise_reverse.mpr (List.nodup_range.imp λh=>Ne.symm h),λk h=>List.mem_range.mp (List.mem_reverse.mp h),λj h=>List.mem_reverse.mpr (List.mem_range.mpr h)⟩
def ZF (m:Nat):List Nat:=(List.range m).map λk=>k*5 % m
theorem Ul:∀m,m < 15->(ZF m).Nodup->∀j,j < m->j∈ZF m:=by decide+kernel
theorem Xy {m:Nat} (hm:m<=14) (h0:0 < m) (h:(ZF m).Nodup):X2 m (ZF m):=
 ⟨by rw[ZF,List.length_map,List.length_range],h,λk hk=>by obtain⟨x,_,rfl⟩:=List.mem_map.mp hk;exact Nat.mod_lt _ h0,Ul m (by omega) h⟩
theorem Yh (val:Nat->Int):∀i,(firstMet val i).length=i->((List.range i).map val).Nodup
 | 0,_=>List.nodup_nil
 | i+1,h=>by
   have h1:=firstMet_any val i (val i)
   have h2:=firstMet_length_le val i
   rw[firstMet_succ]at h
   unfold step_dedup at h
   split at h
   . omega
   . rename_i z
     rw[List.length_append,List.length_singleton]at h
     rw[List.range_succ,List.map_append,List.nodup_append]
     refine⟨Yh val i (by omega),by simp,λa ha b hb e=>?_⟩
     have eb:b=val i:=by simpa using hb
     subst eb
     subst e
     refine z ?_
     rw[h1,List.any_eq_true]
     exact⟨_,ha,by simp⟩
theorem uC {os:List Nat} (h:¬(firstMet (λi=>(os.map λk=>((k:Nat):Int)).getD i 0) (os.map λk=>((k:Nat):Int)).length).length < os.length):os.Nodup:=by
 have h1:=firstMet_length_le (λi=>(os.map λk=>((k:Nat):Int)).getD i 0) (os.map λk=>((k:Nat):Int)).length
 have h2:=Yh (λi=>(os.map λk=>((k:Nat):Int)).getD i 0) (os.map λk=>((k:Nat):Int)).length (by rw[List.length_map]at h1 h ⊢;omega)
 have e:(List.range (os.map λk=>((k:Nat):Int)).length).map (λi=>(os.map λk=>((k:Nat):Int)).getD i 0)=os.map λk=>((k:Nat):Int):=by
   refine List.ext_getElem? λi=>?_
   rw[List.getElem?_map]
   by_cases hi:i < (os.map λk=>((k:Nat):Int)).length
   . rw[List.getElem?_range hi,List.getElem?_eq_getElem hi]
     simp only[Option.map_some,List.getD_eq_getElem?_getD,List.getElem?_eq_getElem hi,Option.getD_some]
   . rw[List.getElem?_eq_none (by rw[List.length_range];omega),List.getElem?_eq_none (by omega)]
     rfl
 rw[e]at h2
 refine(List.pairwise_map.mp h2).imp λh e=>h (by rw[e])
end Rh
set_option Elab.async false
set_option linter.all false
set_option maxRecDepth 100000
set_option maxHeartbeats 4000000
namespace Rh
open PySem L2 PyProof.Rows
def jh (H:Hp) (ps:List Addr) (rs:List (Str×List Str)):Prop:=ps.length=rs.length/\∀(i:Nat) (p:Addr) (r:Str×List Str),ps[i]?=some p->rs[i]?=some r->∃q,H p=some (.tup [.str r.1,.ref q])/\H q=some (.tup (r.2.map V.str))
def UP:Sp:=λvs H Q _=>∃(d:Addr) (mo:Nat) (n s t:Int),vs=[.ref d,.int mo]/\H d=some (.dK (src n s t))/\0 < mo/\mo<=14/\
 ∀(l:Addr) (ps:List Addr) (rs:List (Str×List Str)) (n' t':Int) (H':Hp),H l=none->H' l=some (.lst (ps.map V.ref))->jh H' ps rs->qO rs->0 < rs.length->rs.length<=mo->H' d=some (.dK (src n' s t'))->Fr H d H'->Q (.ref l) H'
structure Q7 (mg:Str->Option Value):Prop where
 srt:mg "sorted"=none
 lst:mg "list"=none
 rev:mg "reversed"=none
 set:mg "set"=none
 tup:mg "tuple"=none
theorem jh.mono {H H':Hp} {ps:List Addr} {rs:List (Str×List Str)} (h:jh H ps rs) (s:qu H H'):jh H' ps rs:=⟨h.1,λi p r e1 e2=>let ⟨q,a,b⟩:=h.2 i p r e1 e2;⟨q,s _ _ a,s _ _ b⟩⟩
theorem Jt.mono {H H':Hp} {ps:List Addr} {ks:List (Nat×Nat)} (h:Jt H ps ks) (s:qu H H'):Jt H' ps ks:=⟨h.1,λi p k e1 e2=>s _ _ (h.2 i p k e1 e2)⟩
theorem Fr.same {H H' H'':Hp} {d:Addr} (h:Fr H d H') (s:qu H' H''):Fr H d H'':=λb u hb hn=>s _ _ (h b u hb hn)
theorem jh.snoc {H:Hp} {ps:List Addr} {rs:List (Str×List Str)} (h:jh H ps rs) {p q:Addr} {r:Str×List Str} (hp:H p=some (.tup [.str r.1,.ref q])) (hq:H q=some (.tup (r.2.map V.str))):jh H (ps++[p]) (rs++[r]):=by
 refine⟨by rw[List.length_append,List.length_append,h.1];rfl,λi p' r' e1 e2=>?_⟩
 by_cases hi:i < ps.length
 . rw[List.getElem?_append_left hi]at e1
   rw[List.getElem?_append_left (by rw[<-h.1];exact hi)]at e2
   exact h.2 i p' r' e1 e2
 . have hi':i=ps.length:=by
     have:=(List.getElem?_eq_some_iff.mp e1).1
     rw[List.length_append,List.length_singleton]at this
     omega
   subst hi'
   rw[List.getElem?_append_right (Nat.le_refl _),Nat.sub_self]at e1
   rw[h.1,List.getElem?_append_right (Nat.le_refl _),Nat.sub_self]at e2
   obtain rfl:=(Option.some.inj e1).symm
   obtain rfl:=(Option.some.inj e2).symm
   exact⟨q,hp,hq⟩
theorem jh.upd_lst {H:Hp} {ps:List Addr} {rs:List (Str×List Str)} {l:Addr} {xs:List V} {o:HO} (h:jh H ps rs) (hl:H l=some (.lst xs)):jh (upd H l o) ps rs:=by
 refine⟨h.1,λi p r e1 e2=>?_⟩
 obtain⟨q,a,b⟩:=h.2 i p r e1 e2
 refine⟨q,?_,?_⟩
 . rw[qk (λe=>by rw[e,hl]at a;cases a)]
   exact a
 . rw[qk (λe=>by rw[e,hl]at b;cases b)]
   exact b
theorem Wr {tc:TT} {tp u:TS} {D:QE} {σ:L2.St} {H0:Hp} (R:Bool->Hp->Prop) (G:L2.St->Hp->Prop) (ht:∀Q:Bool->Hp->Prop,(∀b H1,R b H1->Q b H1)->tc σ H0 Q)
   (hT:∀H1,R true H1->∀D':QE,(∀σ' H',G σ' H'->D'.nx σ' H')->tp D' σ H1) (hF:∀H1,R false H1->G σ H1) (k:∀σ' H',G σ' H'->u D σ' H'):yi (yk tc tp Xn) u D σ H0:=
 ht _ λb H1 r=>by
   cases b
   . exact jm (k _ _ (hF _ r))
   . exact j0 (hT _ r _ k)
theorem x4 {zs:List Str} {j:Nat} (h:j < zs.length):JJ (zs.map V.str) ((j:Nat):Int)=some (V.str (Xe zs j)):=ZU (by rw[List.getElem?_map,YC h];rfl)
theorem UC {ks:List (Nat×Nat)} {j:Nat} {x:Nat×Nat} (k:Nat) (h:ks[j]?=some x):z6 (ks.take (j+1)) k=z6 (ks.take j) k++if x.1=k then [x.2] else []:=by
 unfold z6
 rw[List.take_add_one,h,List.filter_append,List.map_append]
 congr 1
 by_cases e:x.1=k
 . rw[if_pos e]
   simp [e]
 . rw[if_neg e]
   simp [e]
abbrev oL (os:List Nat):List V:=os.map λk=>V.int ((k:Nat):Int)
theorem xa (os:List Nat):oL os=(os.map λk=>((k:Nat):Int)).map V.int:=by rw[List.map_map];rfl
section
variable {P:Program} {w:World} {K:PySem.W.Frag} {mg:Str->Option Value} {base:Heap}
abbrev KS:List Str:=["_law_source_here","_law_most","_law_many","_law_names_here","_law_shape","_law_pairs","_law_about","_law_order","_law_rows_here","_law_k","_law_leads_here"]
theorem Qc:qJ KS ["_law_source_here","_law_most"] (qt W0):=⟨rfl,rfl,rfl,by decide+kernel,rfl,by decide+kernel,by decide+kernel⟩
abbrev Go:List Str:=["_law_one","_law_j","_law_k","_law_names_here"]
theorem Vp:Go.Nodup:=by decide+kernel
theorem yT {f fT fN fL:Addr} {fd fdT fdN fdL:FuncData} (F:Qw K "_law_rows" "_law_rows" W0 f fd) (B:JU mg) (G:Q7 mg) (hT:jT K mg "_law_take" Jz ["_law_source_here","_law_many"] fT fdT)
   (hN:jT K mg "_law_names" Z5 ["_law_source_here","_law_many"] fN fdN) (hL:jT K mg "_law_leads" Z6 zg fL fdL):qI P w K mg base ji 3 f fd ["_law_source_here","_law_most"] UP:=by
 have GT:qI P w K mg base ji 1 fT fdT ["_law_source_here","_law_many"] Ja:=QR hT.fn
 have GN:qI P w K mg base ji 2 fN fdN ["_law_source_here","_law_many"] WT:=vH hN.fn B hT
 have GL:qI P w K mg base ji 2 fL fdL zg WU:=vI hL.fn B G.srt hT
 refine F.okJ Qc (λvs H Q E h=>?_) (λcdv A outer s H vs Q E hr h=>?_)
 . obtain⟨d,m,n,sd,t,rfl,_⟩:=h
   rfl
 . obtain⟨d,mo,n,sd,t,rfl,hd,hmo,hm14,q⟩:=h
   have r1:jq 1 _:=hr.mono (by decide)
   refine⟨_,qg (qC (i:=2) Qc.nd rfl (Or.inr rfl) (qQ jX qh (qX hT GT r1 (by rfl) (qb (jv 0) (qb (jv 1) qe)))))
     (qg (qC (i:=3) Qc.nd rfl (Or.inr rfl) (qX hN GN hr (by rfl) (qb (jv 0) (qb (jv 2) qe))))
     (qg (qC (i:=4) Qc.nd rfl (Or.inl rfl) (qX hT GT r1 (by rfl) (qb (jv 0) (qb qh qe))))
     (qg (qC (i:=5) Qc.nd rfl (Or.inl rfl) (qX hL GL hr (by rfl) (qb (jv 0) (qb (jv 2) (qb (jv 4) (qb (qQ jX qh (qX hT GT r1 (by rfl) (qb (jv 0) (qb qh qe)))) qe))))))
     (qg (qC (i:=6) Qc.nd rfl (Or.inl rfl) (qP jg (qX hT GT r1 (by rfl) (qb (jv 0) (qb qh qe))) qh (qr _)))
     (qg (qC (i:=7) Qc.nd rfl (Or.inl rfl) (K3 rfl (by rfl) G.lst (by rfl) B.rng (jv 2)))
     (qg (qS (jr (jv 6)) (ql (Qr (i:=7) (N':=["_law_k","_law_many"]) (ix:=[none,some 2]) Qc.nd rfl (Or.inl rfl) rfl ⟨rfl,rfl,rfl,rfl,rfl⟩ (jV (by rfl) B.rng (qb (jv 2) qe))
         (λC s2 H2 fp pins=>⟨qz (i:=0) (show (["_law_k","_law_many"]:List Str).Nodup by decide+kernel) rfl (Or.inl rfl),jQ,qQ QQ (qQ QP (jv 0) qh) (jv 1)⟩))) qA)
     (qg (qS (qv j7 (qo XX (by rfl) B.len boot_len (qb (jE (Us rfl) (by rfl) G.set boot_set (qb (jv 7) qe)) qe)) (jv 2) (qr _))
         (ql (qC (i:=7) Qc.nd rfl (Or.inl rfl) (uM rfl (by rfl) G.lst (by rfl) G.rev (by rfl) B.rng (jv 2)))) qA)
     (qg (qC (i:=8) Qc.nd rfl (Or.inl rfl) (jk qe))
     (qg (jK PassesOwn.never rfl (qT (jv 7)) (qz (i:=9) Qc.nd rfl (Or.inr rfl))
       (qg (Qr (i:=10) (N':=Go) (ix:=[none,none,some 9,some 3]) (g:=xH K 2 (zD (j9 0) (zD (j9 1) xI))) (te:=Ju (yG K) (qZ 3) (qZ 1)) Qc.nd rfl (Or.inl rfl) rfl ⟨rfl,rfl,rfl,rfl,rfl⟩ (qT (jv 5))
           (λC s2 H2 fp pins=>⟨zu rfl (jM (qz (i:=0) Vp rfl (Or.inl rfl)) (jM (qz (i:=1) Vp rfl (Or.inl rfl)) Zb)),
             j4 (qv jg (jv 0) (jv 2) (qr _)),qH jl (jv 3) (jv 1) (λ_ _=>rfl)⟩))
       (qg (qS (jr (jv 6)) (ql (j5 (uN PySem.F.plainAttrs_list PySem.F.slot_list_reverse PySem.F.type_list_reverse Wm (jv 10)))) qA)
       (ql (j5 (ku PySem.F.plainAttrs_list PySem.F.slot_list_append PySem.F.type_list_append Zq (jv 8) (qb
         (qW (qb (qH jl (jv 3) (jv 9) (λ_ _=>rfl)) (qb (jE zW (by rfl) G.tup boot_tuple (qb (jv 10) qe)) qe))) qe)))))))
     (ql (qG (jv 8)))))))))))),?_⟩
   refine⟨_,rfl,_,rfl,d,mo,n,sd,t,rfl,hd,by omega,by omega,λr n1 t1 r0 r1=>⟨_,_,rfl,rfl,?_⟩⟩
   obtain⟨m,em,m0,m1⟩:∃m:Nat,1+r=(m:Int)/\0 < m/\m<=mo:=⟨(1+r).toNat,by omega,by omega,by omega⟩
   have em':(λi j:Int=>V.int (i+j)) 1 r=V.int (m:Int):=congrArg V.int em
   rw[em']
   refine⟨_,rfl,_,rfl,d,m,n1,sd,t1,rfl,qd,by omega,λlz zs n2 t2 H2 hlz hlz' zl zn znd hd2 fr2=>?_⟩
   have fr2:Fr H d H2:=Fr.refl.at_d.trans fr2
   refine⟨_,rfl,d,5,n2,sd,t2,rfl,hd2,by decide,by decide,λsh n3 t3 _ _=>?_⟩
   refine⟨_,rfl,_,rfl,_,rfl,_,rfl,d,5,n3,sd,t3,rfl,qd,by decide,by decide,λlw n4 t4 _ _=>⟨_,_,rfl,rfl,d,m,n4,sd,t4,sh,1+lw,rfl,qd,by omega,λlp ps ks n5 t5 H5 hlp hlp' pat kord klt k40 hd5 fr5=>?_⟩⟩
   have nzd:lz≠d:=λe=>by rw[e,qd]at hlz;cases hlz
   have hz5:H5 lz=some (.lst (zs.map V.str)):=fr5 _ _ (by rw[qk nzd,qk nzd];exact hlz') nzd
   have fr5:Fr H d H5:=fr2.at_d.at_d.trans fr5
   refine⟨_,rfl,d,2,n5,sd,t5,rfl,hd5,by decide,by decide,λab n6 t6 _ _=>⟨rfl,?_⟩⟩
   generalize decide (V.int ab=V.int 1)=b
   have npd:lp≠d:=λe=>by rw[e,qd]at hlp;cases hlp
   have fr6:Fr H d (upd H5 d (.dK (src n6 sd t6))):=fr5.at_d
   have hd6:upd H5 d (.dK (src n6 sd t6)) d=some (.dK (src n6 sd t6)):=qd
   have hz6:upd H5 d (.dK (src n6 sd t6)) lz=some (.lst (zs.map V.str)):=by rw[qk nzd];exact hz5
   have hp6:upd H5 d (.dK (src n6 sd t6)) lp=some (.lst (ps.map V.ref)):=by rw[qk npd];exact hlp'
   have pat6:Jt (upd H5 d (.dK (src n6 sd t6))) ps ks:=⟨pat.1,λi p k e1 e2=>by
     have h1:=pat.2 i p k e1 e2
     have:p≠d:=λe=>by rw[e,hd5]at h1;cases h1
     rw[qk this]
     exact h1⟩
   generalize upd H5 d (.dK (src n6 sd t6))=H6 at fr6 hd6 hz6 hp6 pat6
   refine⟨_,rfl,m,rfl,by omega,λlo hlo=>?_⟩
   refine zC ?_
   dsimp only[List.set]
   refine Wr (λc H'=>c=b/\H'=upd H6 lo (.lst (x6 m))) (λσ' H'=>∃lo os,σ'=[some (.ref d),some (.int mo),some (.int m),some (.ref lz),some (.int sh),some (.ref lp),some (.bl b),some (.ref lo),none,none,none]/\qu H6 H'/\H6 lo=none/\H' lo=some (.lst (oL os))/\(os=List.range m\/os=ZF m))
     (λQ k=>⟨_,rfl,b,rfl,k _ _ ⟨rfl,rfl⟩⟩) ?_ ?_ ?_
   . rintro H1 ⟨rfl,rfl⟩ D' k
     refine⟨_,rfl,m,rfl,by omega,by omega,λD hD=>?_⟩
     refine Yw (λi σ' H'=>∃v:Option V,σ'=[v,some (.int m)]/\H'=upd (upd H6 lo (.lst (x6 m))) D (.lst (oL ((List.range i).map λk=>k*5 % m)))) ⟨none,rfl,rfl⟩ ?_ ?_
     . rintro i σ' H' hi ⟨v,rfl,rfl⟩
       rw[Int.zero_add]
       have hi:i < m:=by simpa using hi
       refine⟨_,rfl,_,_,rfl,rfl,.inl ⟨by omega,by omega⟩,_,rfl,_,_,rfl,rfl,(by show (0:Int) < m;omega),_,qd,?_,_,rfl,?_⟩
       . rw[List.length_map,List.length_map,List.length_range]
         exact qp (by omega)
       . rw[jP,List.range_succ,List.map_append,oL,oL,List.map_append]
         rfl
     . rintro σ' H' ⟨v,rfl,rfl⟩
       have hD6:H6 D=none:=by
         by_cases e:D=lo
         . rw[e];exact hlo
         . rw[qk e]at hD;exact hD
       exact k _ _ ⟨D,ZF m,rfl,λa u h=>qi (qi h hlo) hD,hD6,qd,.inr rfl⟩
   . rintro H1 ⟨rfl,rfl⟩
     exact⟨lo,List.range m,rfl,qj hlo,hlo,qd,.inl rfl⟩
   rintro σ' H7 ⟨lo,os,rfl,s7,hlo6,hlo7,hos⟩
   have los:os.length=m:=by
     rcases hos with rfl | rfl
     . exact List.length_range
     . rw[ZF,List.length_map,List.length_range]
   refine Wr (λc H'=>qu H7 H'/\(c=true\/os.Nodup)) (λσ' H'=>∃lo os,σ'=[some (.ref d),some (.int mo),some (.int m),some (.ref lz),some (.int sh),some (.ref lp),some (.bl b),some (.ref lo),none,none,none]/\qu H6 H'/\H' lo=some (.lst (oL os))/\X2 m os)
     ?_ ?_ ?_ ?_
   . intro Q k
     refine⟨_,rfl,lo,os.map (λk=>((k:Nat):Int)),rfl,.of (by rw[<-xa];exact hlo7),by rw[List.length_map,los];omega,λl S hl=>?_⟩
     refine⟨l,S,_,rfl,qd,_,rfl,_,_,rfl,rfl,_,rfl,k _ _ ⟨qj hl,?_⟩⟩
     by_cases h:(((firstMet (λi=>(os.map λk=>((k:Nat):Int)).getD i 0) (os.map λk=>((k:Nat):Int)).length).length:Nat):Int) < (m:Int)
     . exact .inl (decide_eq_true h)
     . exact .inr (uC (by rw[los];omega))
   . rintro H1 ⟨s1,_⟩ D' k
     refine⟨_,rfl,m,rfl,by omega,λl hl=>?_⟩
     exact k _ _ ⟨l,Ze m,rfl,λa u h=>qi (s1 _ _ (s7 _ _ h)) hl,qd,Wk m⟩
   . rintro H1 ⟨s1,h⟩
     have h:os.Nodup:=h.resolve_left (by decide)
     refine⟨lo,os,rfl,λa u h=>s1 _ _ (s7 _ _ h),s1 _ _ hlo7,?_⟩
     rcases hos with rfl | rfl
     . exact vp m
     . exact Xy (by omega) m0 h
   rintro σ' H8 ⟨lo,os,rfl,s8,hlo8,ho⟩
   refine⟨by show 0<=sizeLine;decide,λlr hlr=>⟨_,rfl,lo,rfl,⟨_,.of (qi hlo8 hlr)⟩,?_⟩⟩
   refine Qa (K:=K) (a:=lo) (xs:=oL os) (λi σ' H'=>∃(v9 v10:Option V) (qs:List Addr),σ'=[some (.ref d),some (.int mo),some (.int m),some (.ref lz),some (.int sh),some (.ref lp),some (.bl b),some (.ref lo),some (.ref lr),v9,v10]/\
     qu H8 H'/\H' lr=some (.lst (qs.map V.ref))/\jh H' qs ((os.take i).map (QG zs ks b)))
     ⟨none,none,[],rfl,qj hlr,qd,rfl,λi p r e=>(nomatch e)⟩ (λi σ' H' _ ⟨_,_,_,_,s,_⟩=>.of (s _ _ hlo8)) ?_ ?_
   . rintro i x σ' H' hx ⟨v9,v10,qs,rfl,s9,hlr9,rat⟩
     have hix:i < os.length:=by
       have:=(List.getElem?_eq_some_iff.mp hx).1
       rwa [List.length_map]at this
     obtain⟨k,hk⟩:∃k,os[i]?=some k:=⟨_,List.getElem?_eq_getElem hix⟩
     have ex:x=V.int ((k:Nat):Int):=by
       rw[List.getElem?_map,hk]at hx
       exact(Option.some.inj hx).symm
     subst ex
     have hkm:k < m:=ho.lt k (List.mem_of_getElem? hk)
     refine⟨_,rfl,lp,rfl,⟨_,.of (s9 _ _ (s8 _ _ hp6))⟩,λD hD=>?_⟩
     have nDr:D≠lr:=λe=>by rw[e,hlr9]at hD;cases hD
     have hz9:H' lz=some (.lst (zs.map V.str)):=s9 _ _ (s8 _ _ hz6)
     have pat9:Jt H' ps ks:=pat6.mono λa u h=>s9 _ _ (s8 _ _ h)
     refine Qb (K:=K) (a:=lp) (xs:=ps.map V.ref) (λj σ'' H''=>∃v0 v1:Option V,σ''=[v0,v1,some (.int k),some (.ref lz)]/\H''=upd H' D (.lst (((z6 (ks.take j) k).map (Xe zs)).map V.str))) ⟨none,none,rfl,rfl⟩
       (λj σ'' G _ ⟨_,_,_,e⟩=>e▸.of (qi (s9 _ _ (s8 _ _ hp6)) hD)) ?_ ?_
     . rintro j y σ'' G hy ⟨v0,v1,rfl,rfl⟩
       have hj:j < ps.length:=by
         have:=(List.getElem?_eq_some_iff.mp hy).1
         rwa [List.length_map]at this
       obtain⟨p,hp⟩:∃p,ps[j]?=some p:=⟨_,List.getElem?_eq_getElem hj⟩
       obtain⟨kk,hkk⟩:∃p,ks[j]?=some p:=⟨_,List.getElem?_eq_getElem (by rw[<-pat9.1];exact hj)⟩
       have ey:y=V.ref p:=by
         rw[List.getElem?_map,hp]at hy
         exact(Option.some.inj hy).symm
       subst ey
       have hpt:=pat9.2 j p kk hp hkk
       have hk2:kk.2 < zs.length:=by rw[zl];exact(klt kk (List.mem_of_getElem? hkk)).2
       refine⟨p,_,rfl,.of (qi hpt hD),rfl,_,_,rfl,_,_,rfl,rfl,_,rfl,_,rfl,rfl,_,rfl,?_⟩
       rw[UC k hkk]
       by_cases e:kk.1=k
       . have e1:decide (V.int ((kk.1:Nat):Int)=V.int ((k:Nat):Int))=true:=decide_eq_true (by rw[e])
         rw[e1,if_pos e]
         refine j0 ⟨_,rfl,_,rfl,lz,_,_,_,rfl,rfl,.of (qi hz9 hD),x4 hk2,_,qd,?_,_,_,rfl,?_⟩
         . rw[List.length_map,List.length_map]
           refine qp ?_
           have h1:(z6 (ks.take j) k).length<=(ks.take j).length:=by
             unfold z6
             rw[List.length_map]
             exact List.length_filter_le _ _
           rw[List.length_take]at h1
           omega
         . rw[jP,List.map_append,List.map_append]
           rfl
       . have e1:decide (V.int ((kk.1:Nat):Int)=V.int ((k:Nat):Int))=false:=decide_eq_false (by
           intro z
           have:=V.int.inj z
           omega)
         rw[e1,if_neg e,List.append_nil]
         exact jm ⟨_,_,rfl,rfl⟩
     . rintro σ'' G ⟨v0,v1,rfl,rfl⟩
       rw[List.length_map,pat9.1,List.take_of_length_le (Nat.le_refl _)]
       refine zC ?_
       dsimp only[List.set]
       refine Wr (λc G=>c=b/\G=upd H' D (.lst (((z6 ks k).map (Xe zs)).map V.str)))
         (λσ' G=>σ'=[some (.ref d),some (.int mo),some (.int m),some (.ref lz),some (.int sh),some (.ref lp),some (.bl b),some (.ref lo),some (.ref lr),some (.int k),some (.ref D)]/\G=upd H' D (.lst ((QG zs ks b k).2.map V.str)))
         (λQ k=>⟨_,rfl,b,rfl,k _ _ ⟨rfl,rfl⟩⟩) ?_ ?_ ?_
       . rintro H1 ⟨rfl,rfl⟩ D' kk
         refine⟨_,rfl,.inl ⟨rfl,_,.of qd⟩,D,_,rfl,rfl,qd,?_⟩
         refine kk _ _ ⟨rfl,?_⟩
         rw[jP,QG,if_pos rfl,List.map_reverse]
       . rintro H1 ⟨rfl,rfl⟩
         exact⟨rfl,rfl⟩
       rintro σ' G ⟨rfl,rfl⟩
       have hlrG:upd H' D (.lst ((QG zs ks b k).2.map V.str)) lr=some (.lst (qs.map V.ref)):=by rw[qk (Ne.symm nDr)];exact hlr9
       have sG:qu H' (upd H' D (.lst ((QG zs ks b k).2.map V.str))):=qj hD
       refine⟨_,rfl,.inl ⟨rfl,_,.of hlrG⟩,_,rfl,_,rfl,lz,_,_,_,rfl,rfl,.of (sG _ _ hz9),x4 (by rw[zl];exact hkm),_,rfl,D,_,rfl,.inl ⟨.of qd,λlq hq=>⟨by show 2<=sizeLine;decide,λlt hlt=>?_⟩⟩⟩
       have hqlr:=qi (o':=HO.tup ((QG zs ks b k).2.map V.str)) hlrG hq
       have htlr:=qi (o':=HO.tup [V.str (Xe zs k),V.ref lq]) hqlr hlt
       refine⟨lr,_,_,rfl,rfl,htlr,?_,_,_,qs++[lt],rfl,?_,?_,?_⟩
       . rw[List.length_map,rat.1,List.length_map,List.length_take]
         refine qp ?_
         have:=ho.len
         omega
       . exact qu.upd (λa u h=>qi (qi (sG _ _ (s9 _ _ h)) hq) hlt) hlr
       . rw[List.map_append]
         exact qd
       . have e:os.take (i+1)=os.take i++[k]:=by rw[List.take_add_one,hk];rfl
         rw[e,List.map_append]
         refine jh.upd_lst ?_ htlr
         exact jh.snoc (q:=lq) (rat.mono λa u h=>qi (qi (sG _ _ h) hq) hlt) qd (qi qd hlt)
   . rintro σ' H' ⟨v9,v10,qs,rfl,s9,hlr9,rat⟩
     have e:(oL os).length=os.length:=List.length_map ..
     rw[e,List.take_of_length_le (Nat.le_refl _)]at rat
     have h8:H6 lr=none:=by
       cases z:H6 lr with
       | none=>rfl
       | some u=>rw[s8 _ _ z]at hlr;cases hlr
     refine⟨_,rfl,q lr qs _ n6 t6 H' (fr6.fresh hd6 h8) hlr9 rat (Uj b zl zn znd kord klt k40 ho) ?_ ?_ (s9 _ _ (s8 _ _ hd6)) (fr6.same λa u h=>s9 _ _ (s8 _ _ h))⟩
     . rw[List.length_map,ho.len];exact m0
     . rw[List.length_map,ho.len];exact m1
end
end Rh
set_option Elab.async false
set_option linter.all false
set_option maxRecDepth 100000
set_option maxHeartbeats 4000000
namespace Rh
open PySem L2 PyProof.Rows
abbrev Ya:Stmt:=top 14
abbrev Z7:Stmt:=top 15
abbrev W1:Stmt:=top 16
abbrev yB:Stmt:=top 17
abbrev W2:Stmt:=top 18
abbrev yC:Stmt:=top 19
abbrev Xs:Stmt:=top 20
theorem vQ (x:Str):[x].Nodup:=by simp
structure JQ (K:PySem.W.Frag) (mg:Str->Option Value):Prop where
 isi:mg "isinstance"=none
 str:mg "str"=none
 all:mg "all"=none
 enu:mg "enumerate"=none
 sum:mg "sum"=none
 lets:∃t,mg "LETTERS"=some (.str Vu t)
 lgst:∃t,mg "LONGEST_NAME"=some (.int 8 t)
 mp:∃t,mg "MOST_PLACES"=some (.int 14 t)
 mr:∃t,mg "MOST_ROADS"=some (.int 40 t)
 kss:PySem.W.kitOne K (.type "str") (.type "str")=some true
 ktt:PySem.W.kitOne K (.type "tuple") (.type "tuple")=some true
 kll:PySem.W.kitOne K (.type "list") (.type "list")=some true
theorem uR (c:Nat):(!(Builtin.Str.occurrences Vu ⟨#[c]⟩ 0 Vu.length 1).isEmpty)=jy c:=by
 rw[StrLaws.found_one,kX]
 unfold jy
 rw[Bool.eq_iff_iff]
 simp only[decide_eq_true_eq,Bool.and_eq_true,List.mem_map,List.mem_range]
 constructor
 . rintro⟨k,hk,rfl⟩
   omega
 . intro h
   exact⟨c - 97,by omega,by omega⟩
theorem kW (f:Nat->Bool) (l:List Nat) (i c:Nat) (h:l[i]?=some c):(l.take i).map f++[f c]=(l.take (i+1)).map f:=by
 rw[List.take_add_one,h]
 simp
def yt:Sp:=λvs H Q _=>∃z,vs=[.str z]/\jo z=true/\∀H',qu H H'->Q (.bl true) H'
def Kv:Sp:=λvs H Q _=>∃(q:Addr) (zs:List Str),vs=[.ref q]/\H q=some (.tup (zs.map V.str))/\(∀z∈zs,jo z=true)/\zs.length<=1000/\∀H',qu H H'->Q (.bl true) H'
def we:Sp:=λvs H Q _=>∃(p q:Addr) (r:Str×List Str),vs=[.ref p]/\H p=some (.tup [.str r.1,.ref q])/\H q=some (.tup (r.2.map V.str))/\jo r.1=true/\(∀z∈r.2,jo z=true)/\r.2.length<=1000/\∀H',qu H H'->Q (.bl true) H'
structure Jj (H:Hp) (l:Addr) (ps:List Addr) (rs:List (Str×List Str)):Prop where
 at_:H l=some (.lst (ps.map V.ref))
 rows:jh H ps rs
 good:qO rs
 pos:0 < rs.length
 le:rs.length<=14
theorem Jj.mono {H H':Hp} {l:Addr} {ps:List Addr} {rs:List (Str×List Str)} (h:Jj H l ps rs) (s:qu H H'):Jj H' l ps rs:=⟨s _ _ h.at_,h.rows.mono s,h.good,h.pos,h.le⟩
theorem qO.names {rs:List (Str×List Str)} (h:qO rs):∀r∈rs,∀z∈r.2,jo z=true:=λr hr z hz=>by
 obtain⟨r',hr',rfl⟩:=List.mem_map.mp (h.to r hr z hz)
 exact h.nm r' hr'
theorem qO.len {rs:List (Str×List Str)} (h:qO rs):∀r∈rs,r.2.length<=40:=λr hr=>by
 refine Nat.le_trans ?_ h.few
 have:∀(rs:List (Str×List Str)),r∈rs->r.2.length<=(rs.map λr=>r.2.length).sum:=by
   intro rs
   induction rs with
   | nil=>intro h;cases h
   | cons a rs ih=>
     intro h
     rw[List.map_cons,List.sum_cons]
     rcases List.mem_cons.mp h with rfl | h
     . omega
     . have:=ih h
       omega
 exact this rs hr
theorem jh.item {H:Hp} {ps:List Addr} {rs:List (Str×List Str)} (h:jh H ps rs) {i:Nat} {x:V} (hx:(ps.map V.ref)[i]?=some x):∃p q r,x=.ref p/\rs[i]?=some r/\r∈rs/\H p=some (.tup [.str r.1,.ref q])/\H q=some (.tup (r.2.map V.str)):=by
 rw[List.getElem?_map]at hx
 cases e:ps[i]? with
 | none=>rw[e]at hx;cases hx
 | some p=>
   rw[e]at hx
   have hi:i < rs.length:=by
     have:=(List.getElem?_eq_some_iff.mp e).1
     rw[h.1]at this
     exact this
   obtain⟨q,a,b⟩:=h.2 i p _ e (List.getElem?_eq_getElem hi)
   exact⟨p,q,_,(Option.some.inj hx).symm,List.getElem?_eq_getElem hi,List.getElem_mem hi,a,b⟩
def Zm:Sp:=λvs H Q _=>∃(l:Addr) (ps:List Addr) (rs:List (Str×List Str)),vs=[.ref l]/\Jj H l ps rs/\∀H',qu H H'->Q .non H'
def wf:Sp:=λvs H Q _=>∃(l:Addr) (zs:List Str),vs=[.ref l]/\H l=some (.lst (zs.map V.str))/\zs.Nodup/\zs.length<=1000/\∀H',qu H H'->Q .non H'
def UQ:Sp:=λvs H Q _=>∃(q l:Addr) (es zs:List Str),vs=[.ref q,.ref l]/\H q=some (.tup (es.map V.str))/\H l=some (.lst (zs.map V.str))/\es.Nodup/\(∀z∈es,z∈zs)/\es.length<=900/\∀H',qu H H'->Q .non H'
theorem j6 {kvs:List (qw×V)} {k:qw} (h:¬k∈kvs.map (·.1)):qD kvs k=none:=by
 cases e:qD kvs k with
 | none=>rfl
 | some v=>exact absurd (YE e) h
theorem Zv (zs:List Str):(zs.map V.str).all Q4=true:=by
 rw[List.all_map,List.all_eq_true]
 intro z _
 rfl
theorem Vc {z:Str} {zs:List Str} (h:z∈zs):YZ (.str z) (zs.map V.str)=true:=by
 unfold YZ
 rw[List.any_eq_true]
 exact⟨.str z,List.mem_map.mpr ⟨z,h,rfl⟩,by show (z==z)=true;simp⟩
section
variable {P:Program} {w:World} {K:PySem.W.Frag} {mg:Str->Option Value} {base:Heap}
theorem wZ:qJ ["thing"] ["thing"] (qt J2):=⟨rfl,rfl,rfl,by decide+kernel,rfl,by decide+kernel,by decide+kernel⟩
theorem YR {f:Addr} {fd:FuncData} (F:Qw K "is_name" "is_name" J2 f fd) (B:JU mg) (T:JQ K mg):qI P w K mg base ji 1 f fd ["thing"] yt:=by
 refine F.okJ wZ (λvs H Q E h=>?_) (λcdv A outer s H vs Q E hr h=>?_)
 . obtain⟨x,rfl,_⟩:=h
   rfl
 . obtain⟨z,rfl,hz,q⟩:=h
   obtain⟨tl,hlets⟩:=T.lets
   obtain⟨tg,hlg⟩:=T.lgst
   refine⟨_,qg (qS (jG (jr (qo QA (by rfl) T.isi boot_isinstance (qb (jv 0) (qb (jI (v:=.ty "str") (by rfl) T.str boot_str rfl) qe))))) (ql (qG jw)) qA)
     (qg (qS (Qi (qv j7 (qo QY (by rfl) B.len boot_len (qb (jv 0) qe)) qh (qr _))
         (jR (qv Ye (qo QY (by rfl) B.len boot_len (qb (jv 0) qe)) (Jq (v:=.int 8) (by rfl) hlg ⟨_,rfl⟩) (qr _)))).pt (ql (qG jw)) qA)
     (ql (qG (qo (QL rfl) (by rfl) T.all boot_all (qb (Qs (N':=["sign"]) (ix:=[none]) rfl ⟨rfl,rfl,rfl,rfl,rfl⟩ (uL (jv 0)) (λC s2 H2 fp pins=>
       ⟨qz (i:=0) (vQ _) rfl (Or.inl rfl),jQ,qP VT (jv 0) (Jq (v:=.str Vu) (by rfl) hlets ⟨_,rfl⟩) (by with_unfolding_all rfl)⟩)) qe))))),?_⟩
   have hn:=hz
   unfold jo at hn
   simp only[Bool.and_eq_true,decide_eq_true_eq]at hn
   obtain⟨⟨n1,n8⟩,na⟩:=hn
   have hz':z.length<=sizeLine:=Nat.le_of_lt (qp (by omega))
   refine⟨_,rfl,_,_,_,_,rfl,rfl,.str z,T.kss,_,rfl,jm ?_⟩
   refine⟨_,rfl,z,rfl,hz',_,_,rfl,rfl,_,rfl,?_⟩
   refine jL (λh=>?_) (λh=>?_)
   . exact absurd (of_decide_eq_true h) (by omega)
   . refine⟨_,rfl,z,rfl,hz',_,_,rfl,rfl,_,rfl,?_⟩
     refine jL (λh2=>?_) (λh2=>?_)
     . exact absurd (of_decide_eq_true h2) (by show ¬(8:Int) < (z.length:Int);omega)
     . refine⟨_,rfl,z,rfl,λD hD=>?_⟩
       refine xO (λi σ' H'=>∃v,σ'=[v]/\H'=upd H D (.lst (((z.cps.toList.take i).map jy).map V.bl))) ⟨none,rfl,rfl⟩ ?_ ?_
       . rintro i c σ' H' hc ⟨v,rfl,rfl⟩
         refine⟨_,rfl,_,_,rfl,rfl,_,qd,?_,?_⟩
         . rw[List.length_map,List.length_map,List.length_take]
           exact Nat.lt_of_le_of_lt (Nat.min_le_right _ _) (qp (show z.cps.toList.length<=1000 by rw[Array.length_toList];exact Nat.le_trans n8 (by decide)))
         . refine⟨_,rfl,?_⟩
           rw[jP,uR]
           have hc':z.cps.toList[i]?=some c:=by simpa using hc
           rw[<-kW jy z.cps.toList i c hc',List.map_append]
           rfl
       . rintro σ' H' ⟨v,rfl,rfl⟩
         refine⟨D,_,rfl,.of qd,?_⟩
         have e0:z.cps.toList.take z.cps.size=z.cps.toList:=List.take_of_length_le (by simp)
         have e1:(z.cps.toList.map jy).all id=true:=by rw[List.all_map];exact na
         rw[e0,e1]
         exact q _ (qj hD)
theorem wX:qJ ["thing"] ["thing"] (qt Ya):=⟨rfl,rfl,rfl,by decide+kernel,rfl,by decide+kernel,by decide+kernel⟩
theorem yR {f fN:Addr} {fd fdN:FuncData} (F:Qw K "is_tuple_of_names" "is_tuple_of_names" Ya f fd) (B:JU mg) (G:Q7 mg) (T:JQ K mg) (hN:jT K mg "is_name" J2 ["thing"] fN fdN):qI P w K mg base ji 2 f fd ["thing"] Kv:=by
 have GN:qI P w K mg base ji 1 fN fdN ["thing"] yt:=YR hN.fn B T
 refine F.okJ wX (λvs H Q E h=>?_) (λcdv A outer s H vs Q E hr h=>?_)
 . obtain⟨x,zs,rfl,_⟩:=h
   rfl
 . obtain⟨x,zs,rfl,hx,hz,hl,q⟩:=h
   refine⟨_,ql (qG (jS (qo QA (by rfl) T.isi boot_isinstance (qb (jv 0) (qb (jI (v:=.ty "tuple") (by rfl) G.tup boot_tuple rfl) qe)))
     (Qh (qo (QL rfl) (by rfl) T.all boot_all (qb (Qs (N':=["part"]) (ix:=[none]) rfl ⟨rfl,rfl,rfl,rfl,rfl⟩ (Wp (jv 0)) (λC s2 H2 fp pins=>
       ⟨qz (i:=0) (vQ _) rfl (Or.inl rfl),jQ,qX hN GN hr (by rfl) (qb (jv 0) qe)⟩)) qe))))),?_⟩
   refine⟨_,rfl,_,_,_,_,rfl,rfl,.tup hx,T.ktt,_,rfl,j0 ⟨_,rfl,x,rfl,⟨_,.of hx⟩,λD hD=>?_⟩⟩
   refine Vq (K:=K) (a:=x) (xs:=zs.map V.str) (λi σ' H'=>∃v,σ'=[v]/\qu H H'/\H' D=some (.lst ((List.replicate i true).map V.bl))) ⟨none,rfl,qj hD,qd⟩ (λi σ' H' _ ⟨_,_,s,_⟩=>.of (s _ _ hx)) ?_ ?_
   . rintro i y σ' H' hy ⟨v,rfl,s1,hD1⟩
     rw[List.getElem?_map]at hy
     cases e:zs[i]? with
     | none=>rw[e]at hy;cases hy
     | some z=>
       rw[e]at hy
       obtain rfl:=(Option.some.inj hy).symm
       have hi:=(List.getElem?_eq_some_iff.mp e).1
       refine⟨_,rfl,z,rfl,hz z (List.mem_of_getElem? e),λH2 s2=>⟨_,s2 _ _ hD1,?_,_,rfl,?_,?_⟩⟩
       . rw[List.length_map,List.length_replicate]
         exact qp (by omega)
       . exact qu.upd (s1.trans s2) hD
       . rw[qd,List.replicate_succ',List.map_append]
         rfl
   . rintro σ' H' ⟨v,rfl,s1,hD1⟩
     refine⟨D,_,rfl,.of hD1,?_⟩
     have e:(List.replicate (zs.map V.str).length true).all id=true:=by simp
     rw[e]
     exact q _ s1
theorem yz:qJ ["thing"] ["thing"] (qt Z7):=⟨rfl,rfl,rfl,by decide+kernel,rfl,by decide+kernel,by decide+kernel⟩
theorem vJ {f fN fP:Addr} {fd fdN fdP:FuncData} (F:Qw K "is_row" "is_row" Z7 f fd) (B:JU mg) (G:Q7 mg) (T:JQ K mg) (hN:jT K mg "is_name" J2 ["thing"] fN fdN) (hP:jT K mg "is_tuple_of_names" Ya ["thing"] fP fdP):qI P w K mg base ji 3 f fd ["thing"] we:=by
 have GN:qI P w K mg base ji 1 fN fdN ["thing"] yt:=YR hN.fn B T
 have GP:qI P w K mg base ji 2 fP fdP ["thing"] Kv:=yR hP.fn B G T hN
 refine F.okJ yz (λvs H Q E h=>?_) (λcdv A outer s H vs Q E hr h=>?_)
 . obtain⟨p,x,r,rfl,_⟩:=h
   rfl
 . obtain⟨p,x,r,rfl,hp,hx,hn,hz,hl,q⟩:=h
   refine⟨_,qg (qS (Qi (jG (jr (qo QA (by rfl) T.isi boot_isinstance (qb (jv 0) (qb (jI (v:=.ty "tuple") (by rfl) G.tup boot_tuple rfl) qe)))))
       (jR (qv Xz (qo qx (by rfl) B.len boot_len (qb (jv 0) qe)) qh (qr _)))).pt jH qA)
     (ql (qG (jS (qX hN GN (hr.mono (by decide)) (by rfl) (qb (qH qK (jv 0) qh (λ_ _=>rfl)) qe)) (Qh (qX hP GP hr (by rfl) (qb (qH qK (jv 0) qh (λ_ _=>rfl)) qe)))))),?_⟩
   refine⟨_,rfl,_,_,_,_,rfl,rfl,.tup hp,T.ktt,_,rfl,jm ⟨_,rfl,p,_,rfl,.inr (.of hp),rfl,_,rfl,jm ?_⟩⟩
   refine⟨_,rfl,p,_,0,_,rfl,rfl,.of hp,rfl,r.1,rfl,hn,λH1 s1=>⟨_,rfl,j0 ?_⟩⟩
   exact⟨_,rfl,p,_,1,_,rfl,rfl,.of (s1 _ _ hp),rfl,x,r.2,rfl,s1 _ _ hx,hz,hl,λH2 s2=>q H2 (s1.trans s2)⟩
end
end Rh
set_option Elab.async false
set_option linter.all false
set_option maxRecDepth 100000
set_option maxHeartbeats 4000000
namespace Rh
open PySem L2 PyProof.Rows
section
variable {P:Program} {w:World} {K:PySem.W.Frag} {mg:Str->Option Value} {base:Heap}
abbrev KY:List Str:=["rows","number","row"]
theorem Wf:qJ KY ["rows"] (qt W1):=⟨rfl,rfl,rfl,by decide+kernel,rfl,by decide+kernel,by decide+kernel⟩
theorem yV {f fN fP fR:Addr} {fd fdN fdP fdR:FuncData} (F:Qw K "need_form" "need_form" W1 f fd) (B:JU mg) (G:Q7 mg) (T:JQ K mg) (hN:jT K mg "is_name" J2 ["thing"] fN fdN) (hP:jT K mg "is_tuple_of_names" Ya ["thing"] fP fdP)
   (hR:jT K mg "is_row" Z7 ["thing"] fR fdR):qI P w K mg base ji 4 f fd ["rows"] Zm:=by
 have GR:qI P w K mg base ji 3 fR fdR ["thing"] we:=vJ hR.fn B G T hN hP
 obtain⟨tm,hmp⟩:=T.mp
 refine F.okJ Wf (λvs H Q E h=>?_) (λcdv A outer s H vs Q E hr h=>?_)
 . obtain⟨l,ps,rs,rfl,_⟩:=h
   rfl
 . obtain⟨l,ps,rs,rfl,g,q⟩:=h
   refine⟨_,qg (qS (Qi (jG (jr (qo QA (by rfl) T.isi boot_isinstance (qb (jv 0) (qb (jI (v:=.ty "list") (by rfl) G.lst boot_list rfl) qe)))))
       (jR (qv jg (qo qx (by rfl) B.len boot_len (qb (jv 0) qe)) qh (qr _)))).pt jH qA)
     (qg (qS (qv Ye (qo qx (by rfl) B.len boot_len (qb (jv 0) qe)) (Jq (v:=.int 14) (by rfl) hmp ⟨_,rfl⟩) (qr _)) jH qA)
     (ql (jK PassesOwn.never rfl (xu (by rfl) T.enu (qb (jv 0) qe)) (zu rfl (jM (qz (i:=1) Wf.nd rfl (Or.inl rfl)) (jM (qz (i:=2) Wf.nd rfl (Or.inl rfl)) Zb)))
       (ql (qS (jG (jr (qX hR GR hr (by rfl) (qb (jv 2) qe)))) jH qA))))),?_⟩
   have lp:(ps.map V.ref).length=rs.length:=by rw[List.length_map,g.rows.1]
   refine⟨_,rfl,_,_,_,_,rfl,rfl,.lst g.at_,T.kll,_,rfl,jm ⟨_,rfl,l,_,rfl,.inl (.of g.at_),rfl,_,rfl,?_⟩⟩
   have e0:decide (V.int (((ps.map V.ref).length:Nat):Int)=V.int 0)=false:=decide_eq_false (by
     intro z
     have:=V.int.inj z
     have:=g.pos
     omega)
   rw[e0]
   refine jm ⟨_,rfl,l,_,rfl,.inl (.of g.at_),_,_,rfl,rfl,_,rfl,?_⟩
   have e1:decide ((14:Int) < (((ps.map V.ref).length:Nat):Int))=false:=decide_eq_false (by
     have:=g.le
     omega)
   refine jL (λz=>absurd z (by rw[e1];decide)) (λ_=>?_)
   refine⟨_,rfl,l,rfl,⟨_,.of g.at_⟩,?_⟩
   refine kH (K:=K) (a:=l) (xs:=ps.map V.ref) (λi σ' H'=>∃v1 v2,σ'=[some (.ref l),v1,v2]/\qu H H') ⟨none,none,rfl,qu.refl H⟩ (λi σ' H' _ ⟨_,_,_,s⟩=>.of (s _ _ g.at_)) ?_ ?_
   . rintro i x σ' H' p hx hp ⟨v1,v2,rfl,s1⟩
     have g1:=g.mono (s1.trans (qj (o:=.tup [.int (i:Nat),x]) hp))
     obtain⟨p',q',r,rfl,_,hr',a,b⟩:=g1.rows.item hx
     refine⟨p,_,rfl,.of qd,rfl,_,_,rfl,_,_,rfl,rfl,_,rfl,p',q',r,rfl,a,b,g.good.nm r hr',g.good.names r hr',Nat.le_trans (g.good.len r hr') (by decide),λH2 s2=>⟨_,rfl,jm ⟨_,_,rfl,?_⟩⟩⟩
     exact(s1.trans (qj hp)).trans s2
   . rintro σ' H' ⟨v1,v2,rfl,s1⟩
     exact q H' s1
abbrev RE:List Str:=["order","ahead","name"]
theorem UZ:qJ RE ["order"] (qt yB):=⟨rfl,rfl,rfl,by decide+kernel,rfl,by decide+kernel,by decide+kernel⟩
theorem Ql {zs:List Str} (hn:zs.Nodup) {i:Nat} {z:Str} (e:zs[i]?=some z):¬(Sum.inr z:qw)∈(zs.take i).map Sum.inr:=λh=>by
 obtain⟨y,hy,ey⟩:=List.mem_map.mp h
 have ey':y=z:=Sum.inr.inj ey
 subst ey'
 obtain⟨j,hj⟩:=List.getElem?_of_mem hy
 have hj1:=(List.getElem?_eq_some_iff.mp hj).1
 rw[List.length_take]at hj1
 have hji:j < i:=by omega
 rw[List.getElem?_take_of_lt hji]at hj
 have h1:=(List.getElem?_eq_some_iff.mp hj)
 have h2:=(List.getElem?_eq_some_iff.mp e)
 exact absurd (h1.2.trans h2.2.symm) (List.pairwise_iff_getElem.mp hn j i h1.1 h2.1 hji)
theorem J5 {kvs:List (qw×V)} {k:qw} (v:V) (h:qD kvs k=none):(jf kvs k v).map (·.1)=kvs.map (·.1)++[k]:=by
 rw[J6 v h,List.map_append]
 rfl
theorem uq {f:Addr} {fd:FuncData} (F:Qw K "need_own_names" "need_own_names" yB f fd):qI P w K mg base ji 1 f fd ["order"] wf:=by
 refine F.okJ UZ (λvs H Q E h=>?_) (λcdv A outer s H vs Q E hr h=>?_)
 . obtain⟨l,zs,rfl,_⟩:=h
   rfl
 . obtain⟨l,zs,rfl,hl,hn,hz,q⟩:=h
   have hu:=jN hr
   refine⟨_,qg (qC (i:=1) UZ.nd rfl (Or.inl rfl) j8)
     (ql (jK PassesOwn.never rfl (qT (jv 0)) (qz (i:=2) UZ.nd rfl (Or.inl rfl))
       (qg (qS (zr (YY hu (jv 2) (jv 1))) jH qA) (ql (jz hu (jv 1) (jv 2) jw rfl))))),?_⟩
   intro D hD
   refine⟨_,rfl,l,rfl,⟨_,.of (qi hl hD)⟩,?_⟩
   refine Qa (K:=K) (a:=l) (xs:=zs.map V.str) (λi σ' H'=>∃v kvs,σ'=[some (.ref l),some (.ref D),v]/\qu H H'/\H' D=some (.dK kvs)/\kvs.map (·.1)=(zs.take i).map Sum.inr) ⟨none,[],rfl,qj hD,qd,rfl⟩ (λi σ' H' _ ⟨_,_,_,s,_⟩=>.of (s _ _ hl)) ?_ ?_
   . rintro i x σ' H' hx ⟨v,kvs,rfl,s1,hD1,ek⟩
     rw[List.getElem?_map]at hx
     cases e:zs[i]? with
     | none=>rw[e]at hx;cases hx
     | some z=>
       rw[e]at hx
       obtain rfl:=(Option.some.inj hx).symm
       have hi:=(List.getElem?_eq_some_iff.mp e).1
       have ez:qD kvs (Sum.inr z:qw)=none:=j6 (by rw[ek];exact Ql hn e)
       have gz:jC H' D (.str z) none:=by
         have:=jC.k (k:=(Sum.inr z:qw)) hD1
         rw[ez]at this
         exact this
       have lk:kvs.length < sizeLine:=by
         have:=congrArg List.length ek
         rw[List.length_map,List.length_map,List.length_take]at this
         exact qp (by omega)
       refine⟨_,rfl,_,rfl,D,none,rfl,gz,_,rfl,jm ?_⟩
       refine⟨_,rfl,_,rfl,D,_,rfl,Qu.k (k:=(Sum.inr z:qw)) hD1 lk,_,_,rfl,qu.upd s1 hD,qd,?_⟩
       rw[J5 _ ez,ek,List.take_add_one,e,List.map_append]
       rfl
   . rintro σ' H' ⟨v,kvs,rfl,s1,_⟩
     exact q H' s1
abbrev KZ:List Str:=["ends","order","ahead","name"]
theorem Wg:qJ KZ ["ends","order"] (qt W2):=⟨rfl,rfl,rfl,by decide+kernel,rfl,by decide+kernel,by decide+kernel⟩
theorem yW {f:Addr} {fd:FuncData} (F:Qw K "need_ends" "need_ends" W2 f fd):qI P w K mg base ji 1 f fd ["ends","order"] UQ:=by
 refine F.okJ Wg (λvs H Q E h=>?_) (λcdv A outer s H vs Q E hr h=>?_)
 . obtain⟨x,l,es,zs,rfl,_⟩:=h
   rfl
 . obtain⟨x,l,es,zs,rfl,hx,hl,hn,hin,hz,q⟩:=h
   have hu:=jN hr
   refine⟨_,qg (qC (i:=2) Wg.nd rfl (Or.inl rfl) j8)
     (ql (jK PassesOwn.never rfl (Wp (jv 0)) (qz (i:=3) Wg.nd rfl (Or.inl rfl))
       (qg (qS (qv YO (jv 3) (jv 1) (by with_unfolding_all rfl)) jH qA)
       (qg (qS (zr (YY hu (jv 3) (jv 2))) jH qA) (ql (jz hu (jv 2) (jv 3) jw rfl)))))),?_⟩
   intro D hD
   refine⟨_,rfl,x,rfl,⟨_,.of (qi hx hD)⟩,?_⟩
   refine xJ (K:=K) (a:=x) (xs:=es.map V.str) (λi σ' H'=>∃v kvs,σ'=[some (.ref x),some (.ref l),some (.ref D),v]/\qu H H'/\H' D=some (.dK kvs)/\kvs.map (·.1)=(es.take i).map Sum.inr) ⟨none,[],rfl,qj hD,qd,rfl⟩ (λi σ' H' _ ⟨_,_,_,s,_⟩=>.of (s _ _ hx)) ?_ ?_
   . rintro i y σ' H' hy ⟨v,kvs,rfl,s1,hD1,ek⟩
     rw[List.getElem?_map]at hy
     cases e:es[i]? with
     | none=>rw[e]at hy;cases hy
     | some z=>
       rw[e]at hy
       obtain rfl:=(Option.some.inj hy).symm
       have hi:=(List.getElem?_eq_some_iff.mp e).1
       have ez:qD kvs (Sum.inr z:qw)=none:=j6 (by rw[ek];exact Ql hn e)
       have gz:jC H' D (.str z) none:=by
         have:=jC.k (k:=(Sum.inr z:qw)) hD1
         rw[ez]at this
         exact this
       have lk:kvs.length < sizeLine:=by
         have:=congrArg List.length ek
         rw[List.length_map,List.length_map,List.length_take]at this
         exact qp (by omega)
       refine⟨_,rfl,_,rfl,l,_,rfl,.inl (.of (s1 _ _ hl)),rfl,Zv zs,_,rfl,?_⟩
       rw[Vc (hin z (List.mem_of_getElem? e))]
       refine jm ⟨_,rfl,_,rfl,D,none,rfl,gz,_,rfl,jm ?_⟩
       refine⟨_,rfl,_,rfl,D,_,rfl,Qu.k (k:=(Sum.inr z:qw)) hD1 lk,_,_,rfl,qu.upd s1 hD,qd,?_⟩
       rw[J5 _ ez,ek,List.take_add_one,e,List.map_append]
       rfl
   . rintro σ' H' ⟨v,kvs,rfl,s1,_⟩
     exact q H' s1
abbrev RH:List Str:=["rows","many"]
theorem wn:qJ RH ["rows"] (qt yC):=⟨rfl,rfl,rfl,by decide+kernel,rfl,by decide+kernel,by decide+kernel⟩
theorem uv {f:Addr} {fd:FuncData} (F:Qw K "need_few_roads" "need_few_roads" yC f fd) (B:JU mg) (T:JQ K mg):qI P w K mg base ji 1 f fd ["rows"] Zm:=by
 obtain⟨tm,hmr⟩:=T.mr
 refine F.okJ wn (λvs H Q E h=>?_) (λcdv A outer s H vs Q E hr h=>?_)
 . obtain⟨l,ps,rs,rfl,_⟩:=h
   rfl
 . obtain⟨l,ps,rs,rfl,g,q⟩:=h
   refine⟨_,qg (qC (i:=1) wn.nd rfl (Or.inl rfl) (qo (Ur rfl) (by rfl) T.sum boot_sum (qb (Qs (N':=["row"]) (ix:=[none]) (te:=Ks (λxs H Q=>∃p ys,xs=[.ref p]/\(SqL K H p ys\/SqT K H p ys)/\Q (.int ys.length) H) (ju (Ju (Q6 K) (qZ 0) (tC (.int 1))) QN)) rfl ⟨rfl,rfl,rfl,rfl,rfl⟩ (qT (jv 0)) (λC s2 H2 fp pins=>
       ⟨qz (i:=0) (vQ _) rfl (Or.inl rfl),jQ,qo qx (by rfl) B.len boot_len (qb (qH qK (jv 0) qh (λ_ _=>rfl)) qe)⟩)) qe)))
     (ql (qS (qv Ye (jv 1) (Jq (v:=.int 40) (by rfl) hmr ⟨_,rfl⟩) (qr _)) jH qA)),?_⟩
   refine⟨_,rfl,l,rfl,⟨_,.of g.at_⟩,λD hD=>?_⟩
   refine Qb (K:=K) (a:=l) (xs:=ps.map V.ref) (λi σ' H'=>∃v,σ'=[v]/\H'=upd H D (.lst (((rs.take i).map λr=>r.2.length).map λn=>V.int ((n:Nat):Int)))) ⟨none,rfl,rfl⟩ (λi σ' H' _ ⟨_,_,e⟩=>e▸.of (qi g.at_ hD)) ?_ ?_
   . rintro i x σ' H' hx ⟨v,rfl,rfl⟩
     obtain⟨p',q',r,rfl,er,hr',a,b⟩:=g.rows.item hx
     have hi:=(List.getElem?_eq_some_iff.mp er).1
     refine⟨_,rfl,p',_,1,_,rfl,rfl,.of (qi a hD),rfl,q',_,rfl,.inr (.of (qi b hD)),_,qd,?_,_,rfl,?_⟩
     . rw[List.length_map,List.length_map,List.length_take]
       have:=g.le
       exact qp (by omega)
     . rw[jP,List.take_add_one,er,List.map_append,List.map_append,List.length_map]
       rfl
   . rintro σ' H' ⟨v,rfl,rfl⟩
     have e:rs.take (ps.map V.ref).length=rs:=List.take_of_length_le (by rw[List.length_map,g.rows.1];exact Nat.le_refl _)
     rw[e]
     refine⟨D,_,rfl,.of qd,Nat.lt_of_le_of_lt g.good.few (by decide),?_⟩
     refine⟨_,rfl,_,_,rfl,rfl,_,rfl,?_⟩
     have:=g.good.few
     refine jL (λz=>absurd (of_decide_eq_true z) ?_) (λ_=>q _ (qj hD))
     show ¬(40:Int) < _
     omega
abbrev KU:List Str:=["rows","order","row"]
theorem We:qJ KU ["rows"] (qt Xs):=⟨rfl,rfl,rfl,by decide+kernel,rfl,by decide+kernel,by decide+kernel⟩
structure xX (K:PySem.W.Frag) (mg:Str->Option Value):Prop where
 nm:∃f fd,jT K mg "is_name" J2 ["thing"] f fd
 tn:∃f fd,jT K mg "is_tuple_of_names" Ya ["thing"] f fd
 rw:∃f fd,jT K mg "is_row" Z7 ["thing"] f fd
 fo:∃f fd,jT K mg "need_form" W1 ["rows"] f fd
 ow:∃f fd,jT K mg "need_own_names" yB ["order"] f fd
 en:∃f fd,jT K mg "need_ends" W2 ["ends","order"] f fd
 fw:∃f fd,jT K mg "need_few_roads" yC ["rows"] f fd
theorem yU {f:Addr} {fd:FuncData} (F:Qw K "need_rows" "need_rows" Xs f fd) (B:JU mg) (G:Q7 mg) (T:JQ K mg) (N:xX K mg):qI P w K mg base ji 5 f fd ["rows"] Zm:=by
 obtain⟨fN,fdN,hN⟩:=N.nm
 obtain⟨fP,fdP,hP⟩:=N.tn
 obtain⟨fR,fdR,hR⟩:=N.rw
 obtain⟨fF,fdF,hF⟩:=N.fo
 obtain⟨fO,fdO,hO⟩:=N.ow
 obtain⟨fE,fdE,hE⟩:=N.en
 obtain⟨fW,fdW,hW⟩:=N.fw
 have GF:qI P w K mg base ji 4 fF fdF ["rows"] Zm:=yV hF.fn B G T hN hP hR
 have GO:qI P w K mg base ji 1 fO fdO ["order"] wf:=uq hO.fn
 have GE:qI P w K mg base ji 1 fE fdE ["ends","order"] UQ:=yW hE.fn
 have GW:qI P w K mg base ji 1 fW fdW ["rows"] Zm:=uv hW.fn B T
 refine F.okJ We (λvs H Q E h=>?_) (λcdv A outer s H vs Q E hr h=>?_)
 . obtain⟨l,ps,rs,rfl,_⟩:=h
   rfl
 . obtain⟨l,ps,rs,rfl,g,q⟩:=h
   refine⟨_,qg (j5 (qX hF GF hr (by rfl) (qb (jv 0) qe)))
     (qg (Qr (i:=1) (N':=["row"]) (ix:=[none]) (te:=Ju (Q6 K) (qZ 0) (tC (.int 0))) We.nd rfl (Or.inl rfl) rfl ⟨rfl,rfl,rfl,rfl,rfl⟩ (qT (jv 0)) (λC s2 H2 fp pins=>
       ⟨qz (i:=0) (vQ _) rfl (Or.inl rfl),jQ,qH qK (jv 0) qh (λ_ _=>rfl)⟩))
     (qg (j5 (qX hO GO (hr.mono (by decide)) (by rfl) (qb (jv 1) qe)))
     (qg (jK PassesOwn.never rfl (qT (jv 0)) (qz (i:=2) We.nd rfl (Or.inl rfl))
       (ql (j5 (qX hE GE (hr.mono (by decide)) (by rfl) (qb (qH qK (jv 2) qh (λ_ _=>rfl)) (qb (jv 1) qe))))))
     (ql (j5 (qX hW GW (hr.mono (by decide)) (by rfl) (qb (jv 0) qe))))))),?_⟩
   refine⟨_,rfl,l,ps,rs,rfl,g,λH1 s1=>?_⟩
   have g1:=g.mono s1
   refine⟨_,rfl,l,rfl,⟨_,.of g1.at_⟩,λD hD=>?_⟩
   refine Qb (K:=K) (a:=l) (xs:=ps.map V.ref) (λi σ' H'=>∃v,σ'=[v]/\H'=upd H1 D (.lst (((rs.take i).map (·.1)).map V.str))) ⟨none,rfl,rfl⟩ (λi σ' H' _ ⟨_,_,e⟩=>e▸.of (qi g1.at_ hD)) ?_ ?_
   . rintro i x σ' H' hx ⟨v,rfl,rfl⟩
     obtain⟨p',q',r,rfl,er,hr',a,b⟩:=g1.rows.item hx
     have hi:=(List.getElem?_eq_some_iff.mp er).1
     refine⟨_,rfl,p',_,0,_,rfl,rfl,.of (qi a hD),rfl,_,qd,?_,_,rfl,?_⟩
     . rw[List.length_map,List.length_map,List.length_take]
       have:=g.le
       exact qp (by omega)
     . rw[jP,List.take_add_one,er,List.map_append,List.map_append]
       rfl
   . rintro σ' H' ⟨v,rfl,rfl⟩
     have e:rs.take (ps.map V.ref).length=rs:=List.take_of_length_le (by rw[List.length_map,g.rows.1];exact Nat.le_refl _)
     rw[e]
     refine⟨_,rfl,D,rs.map (·.1),rfl,qd,g.good.nd,by rw[List.length_map];have:=g.le;omega,λH2 s2=>?_⟩
     have sD:qu H1 H2:=(qj hD).trans s2
     have hD2:H2 D=some (.lst ((rs.map (·.1)).map V.str)):=s2 _ _ qd
     have g2:=g1.mono sD
     refine⟨_,rfl,l,rfl,⟨_,.of g2.at_⟩,?_⟩
     refine Qa (K:=K) (a:=l) (xs:=ps.map V.ref) (λi σ' H'=>∃v,σ'=[some (.ref l),some (.ref D),v]/\qu H2 H') ⟨none,rfl,qu.refl H2⟩ (λi σ' H' _ ⟨_,_,s⟩=>.of (s _ _ g2.at_)) ?_ ?_
     . rintro i x σ' H' hx ⟨v,rfl,s3⟩
       obtain⟨p',q',r,rfl,er,hr',a,b⟩:=(g2.mono s3).rows.item hx
       refine⟨_,rfl,p',_,1,_,rfl,rfl,.of a,rfl,_,rfl,q',D,r.2,rs.map (·.1),rfl,b,s3 _ _ hD2,g.good.rd r hr',g.good.to r hr',Nat.le_trans (g.good.len r hr') (by decide),λH4 s4=>⟨_,rfl,s3.trans s4⟩⟩
     . rintro σ' H' ⟨v,rfl,s3⟩
       exact⟨_,rfl,l,ps,rs,rfl,g2.mono s3,λH4 s4=>q H4 (((s1.trans sD).trans s3).trans s4)⟩
end
end Rh
set_option Elab.async false
set_option linter.all false
set_option maxRecDepth 100000
set_option maxHeartbeats 4000000
namespace Rh
open PySem L2 PyProof.Rows
abbrev Wh:Stmt:=Y0 (top 21) 0
abbrev J3:Stmt:=Y0 (top 21) 1
abbrev Z9:Stmt:=Y0 (top 21) 2
def jt (rs:List (Str×List Str)) (r:Str×List Str):List Str:=(rs.map (·.1)).filter λz=>YZ (.str z) (r.2.map V.str)
def Q8 (CG:Addr) (H:Hp) (a:Addr) (rs:List (Str×List Str)):Prop:=∃(dx lo rd:Addr) (kvs:List (qw×V)),H a=some (.ins CG dx [("order",.ref lo),("roads",.ref rd)])/\H lo=some (.lst ((rs.map (·.1)).map V.str))/\H rd=some (.dK kvs)/\
 ∀r∈rs,∃q,qD kvs (Sum.inr r.1)=some (.ref q)/\H q=some (.lst ((jt rs r).map V.str))
theorem Q8.mono {CG:Addr} {H H':Hp} {a:Addr} {rs:List (Str×List Str)} (h:Q8 CG H a rs) (s:qu H H'):Q8 CG H' a rs:=by
 obtain⟨dx,lo,rd,kvs,h1,h2,h3,h4⟩:=h
 exact⟨dx,lo,rd,kvs,s _ _ h1,s _ _ h2,s _ _ h3,λr hr=>let ⟨q,a,b⟩:=h4 r hr;⟨q,a,s _ _ b⟩⟩
theorem Jj.fr {H H':Hp} {l x C dx:Addr} {fs:List (Str×V)} {ps:List Addr} {rs:List (Str×List Str)} (h:Jj H l ps rs) (hx:H x=some (.ins C dx fs)) (s:Fr H x H'):Jj H' l ps rs:=by
 refine⟨s _ _ h.at_ (λe=>?_),⟨h.rows.1,λi p r e1 e2=>?_⟩,h.good,h.pos,h.le⟩
 . have:=h.at_
   rw[e,hx]at this
   cases this
 . obtain⟨q,a,b⟩:=h.rows.2 i p r e1 e2
   exact⟨q,s _ _ a (λe=>by rw[e,hx]at a;cases a),s _ _ b (λe=>by rw[e,hx]at b;cases b)⟩
structure Gy (K:PySem.W.Frag) (mg:Str->Option Value) (CG f:Addr) (fd:FuncData):Prop where
 cl:WE K CG
 mkr:Mk K CG f
 ns:mg "Ground"=some (.ref CG)
 no:Ji K CG "order"
 nr:Ji K CG "roads"
 fn:Qw K "__init__" "Ground.__init__" Wh f fd
 bi:Qv K fd ["self","rows"] []
theorem nor:¬(Str.ofString "order")=Str.ofString "roads":=by decide+kernel
theorem RA (v:V):QO (Str.ofString "order") v []=[(Str.ofString "order",v)]:=rfl
theorem Rz (v u:V):QO (Str.ofString "roads") u [(Str.ofString "order",v)]=[(Str.ofString "order",v),(Str.ofString "roads",u)]:=by
 unfold QO
 rw[if_neg nor]
 rfl
theorem lkO (v u:V):([(Str.ofString "order",v),(Str.ofString "roads",u)]:List (Str×V)).lookup (Str.ofString "order")=some v:=by simp [List.lookup]
theorem RI (v u:V):([(Str.ofString "order",v),(Str.ofString "roads",u)]:List (Str×V)).lookup (Str.ofString "roads")=some u:=by
 have e:((Str.ofString "roads")==(Str.ofString "order"))=false:=by decide+kernel
 simp [List.lookup,e]
def WW (CG:Addr):Sp:=λvs H Q _=>∃(x dx l:Addr) (ps:List Addr) (rs:List (Str×List Str)),vs=[.ref x,.ref l]/\Jj H l ps rs/\H x=some (.ins CG dx [])/\∀H',Q8 CG H' x rs->Fr H x H'->Q .non H'
def Jb (CG:Addr):Sp:=λvs H Q _=>∃(a:Addr) (rs:List (Str×List Str)),vs=[.ref a]/\Q8 CG H a rs/\∀l,H l=none->Q (.ref l) (upd H l (.lst ((rs.map (·.1)).map V.str)))
def YH (CG:Addr):Sp:=λvs H Q _=>∃(a:Addr) (rs:List (Str×List Str)) (r:Str×List Str),vs=[.ref a,.str r.1]/\Q8 CG H a rs/\r∈rs/\jo r.1=true/\∀H1 l,qu H H1->H1 l=none->Q (.ref l) (upd H1 l (.lst ((jt rs r).map V.str)))
section
variable {P:Program} {w:World} {K:PySem.W.Frag} {mg:Str->Option Value} {base:Heap}
abbrev nGI:List Str:=["self","rows","row"]
theorem KB:qJ nGI ["self","rows"] (qt Wh):=⟨rfl,rfl,rfl,by decide+kernel,rfl,by decide+kernel,by decide+kernel⟩
theorem vM {f fW CG:Addr} {fd fdW:FuncData} (C:Gy K mg CG f fd) (B:JU mg) (G:Q7 mg) (T:JQ K mg) (N:xX K mg) (hW:jT K mg "need_rows" Xs ["rows"] fW fdW):qI P w K mg base ji 6 f fd ["self","rows"] (WW CG):=by
 have GW:qI P w K mg base ji 5 fW fdW ["rows"] Zm:=yU hW.fn B G T N
 refine C.fn.okJ KB (λvs H Q E h=>?_) (λcdv A outer s H vs Q E hr h=>?_)
 . obtain⟨x,dx,l,ps,rs,rfl,_⟩:=h
   rfl
 . obtain⟨x,dx,l,ps,rs,rfl,g,hx,q⟩:=h
   have hu:=jN hr
   refine⟨_,qg (j5 (qX hW GW hr (by rfl) (qb (jv 1) qe)))
     (qg (kh (jv 0) (Qs (N':=["row"]) (ix:=[none]) (te:=Ju (Q6 K) (qZ 0) (tC (.int 0))) rfl ⟨rfl,rfl,rfl,rfl,rfl⟩ (qT (jv 1)) (λC s2 H2 fp pins=>
       ⟨qz (i:=0) (vQ _) rfl (Or.inl rfl),jQ,qH qK (jv 0) qh (λ_ _=>rfl)⟩)) rfl)
     (qg (kh (jv 0) j8 rfl)
     (ql (jK PassesOwn.never rfl (qT (jv 1)) (qz (i:=2) KB.nd rfl (Or.inr rfl))
       (ql (jz hu (zx (jv 0) rfl) (qH qK (jv 2) qh (λ_ _=>rfl))
         (Qs (N':=["name","row"]) (ix:=[none,some 2]) (tt:=Zy (Ju (Rx K false) (qZ 0) (Ju (Q6 K) (qZ 1) (tC (.int 1))))) rfl ⟨rfl,rfl,rfl,rfl,rfl⟩ (qT (zx (jv 0) rfl)) (λC s2 H2 fp pins=>
           ⟨qz (i:=0) (show (["name","row"]:List Str).Nodup by decide+kernel) rfl (Or.inl rfl),j4 (qv Yd (jv 0) (qH qK (jv 1) qh (λ_ _=>rfl)) (by with_unfolding_all rfl)),jv 0⟩)) rfl)))))),?_⟩
   refine⟨_,rfl,l,ps,rs,rfl,g,λH1 s1=>?_⟩
   have g1:=g.mono s1
   have fr1:Fr H x H1:=λb u h _=>s1 _ _ h
   have hx1:=s1 _ _ hx
   refine⟨_,rfl,l,rfl,⟨_,.of g1.at_⟩,λlo hlo=>?_⟩
   have nlx:lo≠x:=λe=>by rw[e,hx1]at hlo;cases hlo
   refine Qb (K:=K) (a:=l) (xs:=ps.map V.ref) (λi σ' H'=>∃v,σ'=[v]/\H'=upd H1 lo (.lst (((rs.take i).map (·.1)).map V.str))) ⟨none,rfl,rfl⟩ (λi σ' H' _ ⟨_,_,e⟩=>e▸.of (qi g1.at_ hlo)) ?_ ?_
   . rintro i y σ' H' hy ⟨v,rfl,rfl⟩
     obtain⟨p',q',r,rfl,er,hr',a,b⟩:=g1.rows.item hy
     have hi:=(List.getElem?_eq_some_iff.mp er).1
     refine⟨_,rfl,p',_,0,_,rfl,rfl,.of (qi a hlo),rfl,_,qd,?_,_,rfl,?_⟩
     . rw[List.length_map,List.length_map,List.length_take]
       have:=g.le
       exact qp (by omega)
     . rw[jP,List.take_add_one,er,List.map_append,List.map_append]
       rfl
   rintro σ' H' ⟨v,rfl,rfl⟩
   have e:rs.take (ps.map V.ref).length=rs:=List.take_of_length_le (by rw[List.length_map,g.rows.1];exact Nat.le_refl _)
   rw[e]
   have fr2:Fr H x (upd H1 lo (.lst ((rs.map (·.1)).map V.str))):=fr1.new hlo
   have hlo2:upd H1 lo (.lst ((rs.map (·.1)).map V.str)) lo=some (.lst ((rs.map (·.1)).map V.str)):=qd
   have hx2:upd H1 lo (.lst ((rs.map (·.1)).map V.str)) x=some (.ins CG dx []):=qi hx1 hlo
   generalize upd H1 lo (.lst ((rs.map (·.1)).map V.str))=H2 at fr2 hlo2 hx2
   refine⟨_,rfl,x,CG,dx,[],rfl,hx2,C.cl,C.no,by decide,?_⟩
   rw[RA]
   intro rd hrd
   have nrx:rd≠x:=λe=>by rw[e,qd]at hrd;cases hrd
   have hrd2:H2 rd=none:=by rw[qk nrx]at hrd;exact hrd
   have nrl:rd≠lo:=λe=>by rw[e,hlo2]at hrd2;cases hrd2
   have hHr:H rd=none:=fr2.fresh hx2 hrd2
   refine⟨_,rfl,x,CG,dx,_,rfl,qi qd hrd,C.cl,C.nr,by show 1 < 1000;decide,?_⟩
   rw[Rz]
   have fr5:Fr H x (upd (upd (upd H2 x (.ins CG dx [("order",.ref lo)])) rd (.dK [])) x (.ins CG dx [("order",.ref lo),("roads",.ref rd)])):=((fr2.at_d).own hHr).at_d
   have g5:=g.fr hx fr5
   refine⟨_,rfl,l,rfl,⟨_,.of g5.at_⟩,?_⟩
   refine Qa (K:=K) (a:=l) (xs:=ps.map V.ref) (λi σ' H'=>∃v kvs,σ'=[some (.ref x),some (.ref l),v]/\H' x=some (.ins CG dx [("order",.ref lo),("roads",.ref rd)])/\H' lo=some (.lst ((rs.map (·.1)).map V.str))/\H' rd=some (.dK kvs)/\
     kvs.map (·.1)=((rs.map (·.1)).take i).map Sum.inr/\(∀r∈rs.take i,∃q,qD kvs (Sum.inr r.1)=some (.ref q)/\H' q=some (.lst ((jt rs r).map V.str)))/\Fr H x H')
     ⟨none,[],rfl,qd,?_,?_,rfl,λr h=>(nomatch h),fr5⟩ (λi σ' H' _ ⟨_,_,_,_,_,_,_,_,fr⟩=>.of (g.fr hx fr).at_) ?_ ?_
   . rw[qk nlx,qk (Ne.symm nrl),qk nlx]
     exact hlo2
   . rw[qk nrx]
     exact qd
   . rintro i y σ' H' hy ⟨v,kvs,rfl,hx',hlo',hrd',ek,hv,fr⟩
     have g':=g.fr hx fr
     obtain⟨p,qq,r,rfl,er,hr',a,b⟩:=g'.rows.item hy
     have hi:=(List.getElem?_eq_some_iff.mp er).1
     have hle:=g.le
     refine⟨_,rfl,x,CG,dx,_,_,rfl,hx',C.cl,C.no,lkO _ _,lo,rfl,⟨_,.of hlo'⟩,λD hD=>?_⟩
     refine Qb (K:=K) (a:=lo) (xs:=(rs.map (·.1)).map V.str) (λj σ'' H''=>∃v0,σ''=[v0,some (.ref p)]/\H''=upd H' D (.lst ((((rs.map (·.1)).take j).filter λz=>YZ (.str z) (r.2.map V.str)).map V.str))) ⟨none,rfl,rfl⟩
       (λj σ'' H'' _ ⟨_,_,e⟩=>e▸.of (qi hlo' hD)) ?_ ?_
     . rintro j y σ'' H'' hy ⟨v0,rfl,rfl⟩
       rw[List.getElem?_map]at hy
       cases e:(rs.map (·.1))[j]? with
       | none=>rw[e]at hy;cases hy
       | some z=>
         rw[e]at hy
         obtain rfl:=(Option.some.inj hy).symm
         refine⟨_,rfl,_,rfl,p,_,1,_,rfl,rfl,.of (qi a hD),rfl,qq,_,rfl,.inr (.of (qi b hD)),rfl,Zv _,_,rfl,?_⟩
         have et:((rs.map (·.1)).take (j+1)).filter (λz=>YZ (.str z) (r.2.map V.str))=((rs.map (·.1)).take j).filter (λz=>YZ (.str z) (r.2.map V.str))++if YZ (.str z) (r.2.map V.str)=true then [z] else []:=by
           rw[List.take_add_one,e,List.filter_append]
           congr 1
           cases ei:YZ (.str z) (r.2.map V.str)
           . simp [ei]
           . simp [ei]
         rw[et]
         show if YZ (.str z) (r.2.map V.str)=true then _ else _
         cases ei:YZ (.str z) (r.2.map V.str) with
         | true=>
           refine j0 ⟨_,rfl,_,qd,?_,_,rfl,?_⟩
           . rw[List.length_map]
             refine qp (Nat.le_trans (List.length_filter_le _ _) ?_)
             rw[List.length_take,List.length_map]
             omega
           . rw[jP,if_pos rfl,List.map_append]
             rfl
         | false=>
           refine jm ⟨_,rfl,?_⟩
           rw[if_neg Bool.false_ne_true,List.append_nil]
     . rintro σ'' H'' ⟨v0,rfl,rfl⟩
       have ed:((rs.map (·.1)).take ((rs.map (·.1)).map V.str).length).filter (λz=>YZ (.str z) (r.2.map V.str))=jt rs r:=by
         rw[List.length_map,List.take_of_length_le (Nat.le_refl _)]
         rfl
       rw[ed]
       have nD:∀{c:Addr} {o:HO},H' c=some o->c≠D:=λh e=>by rw[e,hD]at h;cases h
       have en:(rs.map (·.1))[i]?=some r.1:=by rw[List.getElem?_map,er];rfl
       have ez:qD kvs (Sum.inr r.1:qw)=none:=j6 (by rw[ek];exact Ql g.good.nd en)
       have lk:kvs.length < sizeLine:=by
         have:=congrArg List.length ek
         rw[List.length_map,List.length_map,List.length_take,List.length_map]at this
         exact qp (by omega)
       refine⟨_,rfl,x,CG,dx,_,_,rfl,qi hx' hD,C.cl,C.nr,RI _ _,_,rfl,p,_,0,_,rfl,rfl,.of (qi a hD),rfl,rd,_,rfl,Qu.k (k:=(Sum.inr r.1:qw)) (qi hrd' hD) lk,?_⟩
       refine⟨_,jf kvs (Sum.inr r.1) (.ref D),rfl,?_,?_,qd,?_,λr' hr2=>?_,?_⟩
       . rw[qk (Ne.symm nrx)];exact qi hx' hD
       . rw[qk (Ne.symm nrl)];exact qi hlo' hD
       . rw[J5 _ ez,ek,List.take_add_one,en,List.map_append]
         rfl
       . rw[List.take_add_one,er]at hr2
         rcases List.mem_append.mp hr2 with h | h
         . obtain⟨q1,a1,b1⟩:=hv r' h
           refine⟨q1,?_,?_⟩
           . rw[Qp,if_neg]
             . exact a1
             . intro z
               rw[z,ez]at a1
               cases a1
           . have n1:q1≠rd:=λe=>by rw[e,hrd']at b1;cases b1
             rw[qk n1]
             exact qi b1 hD
         . have er':r'=r:=by simpa using h
           subst er'
           refine⟨D,?_,?_⟩
           . rw[Qp,if_pos rfl]
           . rw[qk (Ne.symm (nD hrd'))]
             exact qd
       . exact(fr.new hD).own hHr
   . rintro σ' H' ⟨v,kvs,rfl,hx',hlo',hrd',ek,hv,fr⟩
     have e:rs.take (ps.map V.ref).length=rs:=List.take_of_length_le (by rw[List.length_map,g.rows.1];exact Nat.le_refl _)
     rw[e]at hv
     exact q H' ⟨dx,lo,rd,kvs,hx',hlo',hrd',hv⟩ fr
theorem Rn:qJ ["self"] ["self"] (qt J3):=⟨rfl,rfl,rfl,by decide+kernel,rfl,by decide+kernel,by decide+kernel⟩
theorem Jo {f fI CG:Addr} {fd fdI:FuncData} (F:Qw K "names" "Ground.names" J3 f fd) (C:Gy K mg CG fI fdI) (G:Q7 mg):qI P w K mg base ji 1 f fd ["self"] (Jb CG):=by
 refine F.okJ Rn (λvs H Q E h=>?_) (λcdv A outer s H vs Q E hr h=>?_)
 . obtain⟨a,rs,rfl,_⟩:=h
   rfl
 . obtain⟨a,rs,rfl,⟨dx,lo,rd,kvs,h1,h2,h3,h4⟩,q⟩:=h
   refine⟨_,ql (qG (jE QX (by rfl) G.lst boot_list (qb (zx (jv 0) rfl) qe))),?_⟩
   exact⟨_,rfl,a,CG,dx,_,_,rfl,h1,C.cl,C.no,lkO _ _,lo,_,rfl,.inl (.of h2),q⟩
abbrev RG:List Str:=["self","name"]
theorem Ro:qJ RG RG (qt Z9):=⟨rfl,rfl,rfl,by decide+kernel,rfl,by decide+kernel,by decide+kernel⟩
theorem XC {f fI fN CG:Addr} {fd fdI fdN:FuncData} (F:Qw K "roads_from" "Ground.roads_from" Z9 f fd) (C:Gy K mg CG fI fdI) (B:JU mg) (G:Q7 mg) (T:JQ K mg) (hN:jT K mg "is_name" J2 ["thing"] fN fdN):qI P w K mg base ji 2 f fd RG (YH CG):=by
 have GN:qI P w K mg base ji 1 fN fdN ["thing"] yt:=YR hN.fn B T
 refine F.okJ Ro (λvs H Q E h=>?_) (λcdv A outer s H vs Q E hr h=>?_)
 . obtain⟨a,rs,r,rfl,_⟩:=h
   rfl
 . obtain⟨a,rs,r,rfl,gr,hr',hn,q⟩:=h
   have hu:=jN hr
   refine⟨_,qg (qS (Qi (jG (jr (qX hN GN hr (by rfl) (qb (jv 1) qe)))) (jR (zr (Ua hu (jv 1) (zx (jv 0) rfl))))).pt jH qA)
     (ql (qG (jE QX (by rfl) G.lst boot_list (qb (jA hu (zx (jv 0) rfl) (jv 1) (λ_ _=>rfl)) qe)))),?_⟩
   refine⟨_,rfl,r.1,rfl,hn,λH1 s1=>⟨_,rfl,jm ?_⟩⟩
   obtain⟨dx,lo,rd,kvs,h1,h2,h3,h4⟩:=gr.mono s1
   obtain⟨qq,hv,hq⟩:=h4 r hr'
   have gz:jC H1 rd (.str r.1) (some (.ref qq)):=by
     have:=jC.k (k:=(Sum.inr r.1:qw)) h3
     rw[hv]at this
     exact this
   refine⟨_,rfl,_,rfl,a,CG,dx,_,_,rfl,h1,C.cl,C.nr,RI _ _,rd,_,rfl,gz,_,rfl,jm ?_⟩
   exact⟨_,rfl,a,CG,dx,_,_,rfl,h1,C.cl,C.nr,RI _ _,_,rfl,rd,_,rfl,gz,qq,_,rfl,.inl (.of hq),λl hl=>q H1 l s1 hl⟩
end
end Rh
set_option Elab.async false
set_option linter.all false
set_option maxRecDepth 100000
set_option maxHeartbeats 4000000
namespace Rh
open PySem L2 PyProof.Rows MPlay
abbrev jF:=List (Str×List Str)
def zT (rs:jF) (z:Str):List Str:=match rs.find? (λr=>decide (r.1=z)) with
 | some r=>jt rs r
 | none=>[]
theorem XO:∀{rs:jF} {r:Str×List Str},(rs.map (·.1)).Nodup->r∈rs->rs.find? (λq=>decide (q.1=r.1))=some r
 | a::rs,r,hn,h=>by
   rw[List.map_cons,List.nodup_cons]at hn
   rcases List.mem_cons.mp h with rfl | h
   . simp [List.find?_cons]
   . have:¬a.1=r.1:=λe=>hn.1 (e▸List.mem_map.mpr ⟨r,h,rfl⟩)
     simp only[List.find?_cons,decide_eq_false this]
     exact XO hn.2 h
theorem Zc {rs:jF} {r:Str×List Str} (hn:(rs.map (·.1)).Nodup) (h:r∈rs):zT rs r.1=jt rs r:=by
 unfold zT
 rw[XO hn h]
theorem zc {rs:jF} {r:Str×List Str} {y:Str} (h:y∈jt rs r):∃r'∈rs,r'.1=y:=by
 obtain⟨r',h1,h2⟩:=List.mem_map.mp (List.mem_filter.mp h).1
 exact⟨r',h1,h2⟩
theorem xE {z:Str} {zs:List Str}:YZ (.str z) (zs.map V.str)=true↔z∈zs:=by
 refine⟨λh=>?_,Vc⟩
 unfold YZ at h
 obtain⟨y,hy,e⟩:=List.any_eq_true.mp h
 obtain⟨x,hx,rfl⟩:=List.mem_map.mp hy
 have e':(x==z)=true:=e
 rw[beq_iff_eq]at e'
 exact e'▸hx
theorem Xu {rs:jF} (g:qO rs) {r:Str×List Str} (h:r∈rs) {y:Str}:y∈jt rs r↔y∈r.2:=by
 unfold jt
 rw[List.mem_filter,xE]
 exact⟨λz=>z.2,λz=>⟨g.to r h y z,z⟩⟩
theorem zB {rs:jF} (hn:(rs.map (·.1)).Nodup):∀z∈rs.map (·.1),∀y∈zT rs z,y∈rs.map (·.1):=λz hz y hy=>by
 obtain⟨r,hr,rfl⟩:=List.mem_map.mp hz
 rw[Zc hn hr]at hy
 obtain⟨r',h1,rfl⟩:=zc hy
 exact List.mem_map.mpr ⟨r',h1,rfl⟩
abbrev lv (rs:jF) (k:Nat):Str->En:=Qe (zT rs) k
abbrev xY:=Str×(Bool×Int)
def Yf (rs:jF) (k:Nat) (r:Str×List Str):En:=if (lv rs k r.1).isSome=true then none else step (lv rs k) (jt rs r) k
def zS (rs:jF) (k:Nat) (qs:jF):List xY:=qs.filterMap λr=>(Yf rs k r).map λe=>(r.1,e)
def tb (rs:jF):Nat->List xY
 | 0=>[]
 | k+1=>tb rs k++zS rs k rs
theorem J8 (g:(Str×List Str)->En):∀{qs:jF},(qs.map (·.1)).Nodup->∀r∈qs,(qs.filterMap λr=>(g r).map λe=>(r.1,e)).lookup r.1=g r
 | a::qs,hn,r,h=>by
   rw[List.map_cons,List.nodup_cons]at hn
   have out:∀z,¬z∈qs.map (·.1)->(qs.filterMap λr=>(g r).map λe=>(r.1,e)).lookup z=none:=by
     intro z hz
     rw[List.lookup_eq_none_iff]
     intro p hp
     obtain⟨r',h1,h2⟩:=List.mem_filterMap.mp hp
     obtain⟨e,_,rfl⟩:=Option.map_eq_some_iff.mp h2
     simp only[beq_eq_false_iff_ne,ne_eq,bne_iff_ne]
     intro e'
     exact hz (e'▸List.mem_map.mpr ⟨r',h1,rfl⟩)
   rw[List.filterMap_cons]
   rcases List.mem_cons.mp h with rfl | h
   . cases e:g r with
     | none=>exact out _ hn.1
     | some p=>simp [List.lookup_cons]
   . have ne:¬r.1=a.1:=λe=>hn.1 (e▸List.mem_map.mpr ⟨r,h,rfl⟩)
     cases e:g a with
     | none=>exact J8 g hn.2 r h
     | some p=>
       simp only[Option.map_some,List.lookup_cons]
       rw[beq_eq_false_iff_ne.mpr ne]
       exact J8 g hn.2 r h
theorem ZN {rs:jF} (hn:(rs.map (·.1)).Nodup):∀k,∀r∈rs,(tb rs k).lookup r.1=lv rs k r.1
 | 0,r,h=>rfl
 | k+1,r,h=>by
   have ih:=ZN hn k r h
   show (tb rs k++zS rs k rs).lookup r.1=_
   rw[List.lookup_append,ih]
   cases e:lv rs k r.1 with
   | some p=>exact(jc _ e).symm
   | none=>
     have h1:lv rs (k+1) r.1=step (lv rs k) (zT rs r.1) k:=jY _ e
     rw[h1,Zc hn h,zS,J8 _ hn r h]
     show Yf rs k r=_
     unfold Yf
     rw[e]
     rfl
theorem Jp (rs:jF) (k:Nat):∀qs:jF,((zS rs k qs).map (·.1)).Sublist (qs.map (·.1))
 | []=>.slnil
 | a::qs=>by
   have ih:=Jp rs k qs
   unfold zS at ih ⊢
   rw[List.filterMap_cons]
   cases e:Yf rs k a with
   | none=>exact ih.cons _
   | some p=>exact ih.cons₂ _
theorem x9 (rs:jF):∀k,∀z∈(tb rs k).map (·.1),z∈rs.map (·.1)
 | 0,z,h=>(nomatch h)
 | k+1,z,h=>by
   rw[tb,List.map_append]at h
   rcases List.mem_append.mp h with h | h
   . exact x9 rs k z h
   . exact(Jp rs k rs).subset h
theorem xb {rs:jF} {k:Nat} {qs:jF} {z:Str} (h:z∈(zS rs k qs).map (·.1)):lv rs k z=none:=by
 obtain⟨x,hx,rfl⟩:=List.mem_map.mp h
 obtain⟨r,_,e⟩:=List.mem_filterMap.mp hx
 obtain⟨p,hp,rfl⟩:=Option.map_eq_some_iff.mp e
 unfold Yf at hp
 show lv rs k r.1=none
 cases q:lv rs k r.1 with
 | none=>rfl
 | some y=>rw[q]at hp;cases hp
theorem UD {rs:jF} (hn:(rs.map (·.1)).Nodup) {k:Nat} {z:Str} (h:z∈(zS rs k rs).map (·.1)):¬z∈(tb rs k).map (·.1):=λm=>by
 obtain⟨r,hr,rfl⟩:=List.mem_map.mp ((Jp rs k rs).subset h)
 have e:=ZN hn k r hr
 rw[xb h,List.lookup_eq_none_iff]at e
 obtain⟨x,hx,ex⟩:=List.mem_map.mp m
 have:=e x hx
 simp only[beq_eq_false_iff_ne,ne_eq,bne_iff_ne]at this
 exact this ex.symm
theorem x8 {rs:jF} (hn:(rs.map (·.1)).Nodup):∀k,((tb rs k).map (·.1)).Nodup
 | 0=>List.nodup_nil
 | k+1=>by
   rw[tb,List.map_append,List.nodup_append]
   refine⟨x8 hn k,hn.sublist (Jp rs k rs),λa ha b hb e=>?_⟩
   subst e
   exact UD hn hb ha
theorem YT {α:Type}:∀{l m:List α},l.Nodup->(∀z∈l,z∈m)->l.length<=m.length
 | [],m,_,_=>Nat.zero_le _
 | a::l,m,hn,h=>by
   classical
   rw[List.nodup_cons]at hn
   have ha:=h a List.mem_cons_self
   have:=YT (m:=m.erase a) hn.2 λz hz=>(List.mem_erase_of_ne (λ(e:z=a)=>hn.1 (e▸hz))).mpr (h z (List.mem_cons_of_mem _ hz))
   rw[List.length_erase_of_mem ha]at this
   have:=List.length_pos_of_mem ha
   rw[List.length_cons]
   omega
theorem UE {rs:jF} (hn:(rs.map (·.1)).Nodup) (k:Nat):(tb rs k).length<=rs.length:=by
 have:=YT (x8 hn k) (x9 rs k)
 rwa [List.length_map,List.length_map]at this
theorem UF {rs:jF} (hn:(rs.map (·.1)).Nodup) {k:Nat} (h:zS rs k rs=[]):∀z∈rs.map (·.1),lv rs k z=none->step (lv rs k) (zT rs z) k=none:=λz hz e=>by
 obtain⟨r,hr,rfl⟩:=List.mem_map.mp hz
 have q:=J8 (Yf rs k) hn r hr
 have h':(rs.filterMap λr=>(Yf rs k r).map λe=>(r.1,e))=[]:=h
 rw[h']at q
 have q':Yf rs k r=none:=q.symm
 unfold Yf at q'
 rw[e]at q'
 rw[Zc hn hr]
 exact q'
abbrev tF (rs:jF):Str->En:=lv rs 14
theorem Kl {rs:jF} (hn:(rs.map (·.1)).Nodup) {k:Nat} (hk:k<=14) (h:zS rs k rs=[]):Tab (zT rs) (rs.map (·.1)) (tF rs)/\∀r∈rs,tF rs r.1=lv rs k r.1:=by
 have e:=vU (zT rs) (zB hn) (UF hn h) 14 hk
 refine⟨wL (zT rs) (zB hn) λz hz e'=>?_,λr hr=>e _ (List.mem_map.mpr ⟨r,hr,rfl⟩)⟩
 rw[e z hz]at e'
 obtain⟨h1,y,hy,h2⟩:=QF (UF hn h z hz e')
 refine ZA (λy' hy' m q=>?_) ⟨y,hy,?_⟩
 . rw[e y' (zB hn z hz y' hy')]at q
   exact h1 y' hy' m q
 . rw[e y (zB hn z hz y hy)]
   exact h2
def qY (b:Bool):Str:=if b=true then "won" else "lost"
def Y4:En->List V
 | none=>[.str "drawn",.non]
 | some e=>[.str (qY e.1),.int e.2]
def qM (K:PySem.W.Frag) (H:Hp) (v:V) (e:En):Prop:=∃p,v=.ref p/\SqT K H p (Y4 e)
theorem _root_.L2.SqT.mono {K:PySem.W.Frag} {H H':Hp} {p:Addr} {xs:List V} (h:SqT K H p xs) (s:qu H H'):SqT K H' p xs:=by
 rcases h with (h | ⟨o,h⟩) | h
 . exact .inl (.inl (s _ _ h))
 . exact .inl (.inr ⟨o,s _ _ h⟩)
 . exact .inr h
theorem _root_.L2.SqT.put {K:PySem.W.Frag} {H:Hp} {p D:Addr} {xs:List V} {kvs:List (qw×V)} {o:HO} (h:SqT K H p xs) (hD:H D=some (.dK kvs)):SqT K (upd H D o) p xs:=by
 rcases h with (h | ⟨u,h⟩) | h
 . exact .inl (.inl (by rw[qk (λe=>by rw[e,hD]at h;cases h)];exact h))
 . exact .inl (.inr ⟨u,by rw[qk (λe=>by rw[e,hD]at h;cases h)];exact h⟩)
 . exact .inr h
theorem qM.mono {K:PySem.W.Frag} {H H':Hp} {v:V} {e:En} (h:qM K H v e) (s:qu H H'):qM K H' v e:=let ⟨p,a,b⟩:=h;⟨p,a,L2.SqT.mono b s⟩
theorem qM.put {K:PySem.W.Frag} {H:Hp} {D:Addr} {v:V} {e:En} {kvs:List (qw×V)} {o:HO} (h:qM K H v e) (hD:H D=some (.dK kvs)):qM K (upd H D o) v e:=let ⟨p,a,b⟩:=h;⟨p,a,L2.SqT.put b hD⟩
def jp (K:PySem.W.Frag) (H:Hp) (kvs:List (qw×V)) (t:List xY):Prop:=Paired (λ(kv:qw×V) (x:xY)=>kv.1=Sum.inr x.1/\qM K H kv.2 (some x.2)) kvs t
theorem jp.imp {K:PySem.W.Frag} {H H':Hp} (f:∀v e,qM K H v e->qM K H' v e):∀{kvs:List (qw×V)} {t:List xY},jp K H kvs t->jp K H' kvs t
 | _,_,.nil=>.nil
 | _,_,.cons h r=>.cons ⟨h.1,f _ _ h.2⟩ (jp.imp f r)
theorem jp.append {K:PySem.W.Frag} {H:Hp}:∀{kvs more:List (qw×V)} {t u:List xY},jp K H kvs t->jp K H more u->jp K H (kvs++more) (t++u)
 | _,_,_,_,.nil,k=>k
 | _,_,_,_,.cons h r,k=>.cons h (jp.append r k)
theorem jp.keys {K:PySem.W.Frag} {H:Hp}:∀{kvs:List (qw×V)} {t:List xY},jp K H kvs t->kvs.map (·.1)=(t.map (·.1)).map Sum.inr
 | _,_,.nil=>rfl
 | _,_,.cons h r=>by rw[List.map_cons,List.map_cons,List.map_cons,h.1,jp.keys r]
theorem jp.len {K:PySem.W.Frag} {H:Hp} {kvs:List (qw×V)} {t:List xY} (h:jp K H kvs t):kvs.length=t.length:=by
 have:=congrArg List.length h.keys
 simpa using this
theorem jp.look {K:PySem.W.Frag} {H:Hp} (z:Str):∀{kvs:List (qw×V)} {t:List xY},jp K H kvs t->(t.lookup z=none/\qD kvs (Sum.inr z)=none)\/∃e v,t.lookup z=some e/\qD kvs (Sum.inr z)=some v/\qM K H v (some e)
 | _,_,.nil=>.inl ⟨rfl,rfl⟩
 | _,_,.cons (a:=kv) (b:=(xk,xe)) h r=>by
   by_cases e:xk=z
   . subst e
     exact .inr ⟨xe,kv.2,by simp [List.lookup_cons],jd h.1,h.2⟩
   . have e1:¬kv.1=Sum.inr z:=λq=>e (Sum.inr.inj (h.1.symm.trans q))
     have e2:(z==xk)=false:=beq_eq_false_iff_ne.mpr λq=>e q.symm
     rw[je e1,List.lookup_cons,e2]
     exact jp.look z r
theorem Yi:∀{more kvs:List (qw×V)},(more.map (·.1)).Nodup->(∀k∈more.map (·.1),¬k∈kvs.map (·.1))->Qd kvs more=kvs++more
 | [],kvs,_,_=>(List.append_nil _).symm
 | p::more,kvs,hn,h=>by
   rw[List.map_cons,List.nodup_cons]at hn
   have e:qD kvs p.1=none:=j6 (h p.1 (by simp))
   show Qd (jf kvs p.1 p.2) more=_
   rw[J6 p.2 e,Yi hn.2]
   . rw[List.append_assoc]
     rfl
   . intro k hk m
     rw[List.map_append]at m
     rcases List.mem_append.mp m with m | m
     . exact h k (by rw[List.map_cons];exact List.mem_cons_of_mem _ hk) m
     . have:k=p.1:=by simpa using m
       subst this
       exact hn.1 hk
def Xi (f:Str->En) (es:List Str):List Str:=es.filterMap λy=>(f y).map λe=>qY e.1
theorem Xh (f:Str->En):∀es:List Str,YZ (.str "lost") ((Xi f es).map V.str)=es.any λy=>(f y).any λe=> !e.1
 | []=>rfl
 | y::es=>by
   have ih:=Xh f es
   unfold Xi YZ at ih ⊢
   rw[List.filterMap_cons,List.any_cons]
   cases e:f y with
   | none=>simpa using ih
   | some p=>
     obtain⟨b,n⟩:=p
     rw[Option.map_some,List.map_cons,List.any_cons,ih]
     congr 1
     cases b
     . show (Str.ofString "lost"==Str.ofString "lost")=true
       simp
     . show (Str.ofString "won"==Str.ofString "lost")=false
       decide+kernel
theorem Uz (f:Str->En) (es:List Str):(Xi f es).length<=es.length:=List.length_filterMap_le _ _
theorem WH (f:Str->En):∀es:List Str,decide ((Xi f es).length=es.length)=es.all λy=>(f y).isSome
 | []=>rfl
 | y::es=>by
   have ih:=WH f es
   have le:=Uz f es
   unfold Xi at ih le ⊢
   rw[List.filterMap_cons,List.all_cons]
   cases e:f y with
   | none=>
     simp only[Option.map_none,Option.isSome_none,Bool.false_and,List.length_cons]
     exact decide_eq_false (by omega)
   | some p=>
     rw[<-ih]
     simp only[Option.map_some,Option.isSome_some,Bool.true_and,List.length_cons]
     exact decide_eq_decide.mpr (by omega)
end Rh
set_option Elab.async false
set_option linter.all false
set_option maxRecDepth 100000
set_option maxHeartbeats 4000000
namespace Rh
open PySem L2 PyProof.Rows MPlay
abbrev Zo:Stmt:=top 25
abbrev Z1:Stmt:=top 26
abbrev YK:Stmt:=top 27
structure Kb (K:PySem.W.Frag) (C:Addr) (m qual:Str) (st:Stmt) (ps:List Str) (f:Addr) (fd:FuncData):Prop where
 fn:Qw K m qual st f fd
 me:Ux K C m f
 bi:Qv K fd ps []
theorem XI {X:Cx} {C f:Addr} {fd:FuncData} {m qual:Str} {st:Stmt} {ps:List Str} {k:Nat} {sp:Sp} {o:Expr} {ta:TE} {apos pos:Pos} {pl:Sem Bool} (h:Kb X.K C m qual st ps f fd) (c:WE X.K C) (G:qI X.prog X.w X.K X.mg X.base ji k f fd ps sp) (hr:jq k X.A) (he:JE X o ta)
   (ht:eval (.Call (.Attribute o m apos) [] [] pos) X.env=(do
     let ov <-eval o X.env
     standAt apos.atName
     let (f,first) <-holding [ov] (getMethod ov m pl)
     callWith pos f first (backTo pos (starEach [] X.env)) (backToKw pos (keywordEach [] X.env))):=by rfl):
   JE X (.Call (.Attribute o m apos) [] [] pos) (z7 C m sp [] E0 ta QN):=kl he c h.me G hr h.bi .nil W6 ht
theorem wB {X:Cx} {C f:Addr} {fd:FuncData} {m qual:Str} {st:Stmt} {ps:List Str} {k:Nat} {sp:Sp} {o e:Expr} {es:List Expr} {ta:TE} {t:TA} {apos pos:Pos} {pl:Sem Bool} (h:Kb X.K C m qual st ps f fd) (c:WE X.K C) (G:qI X.prog X.w X.K X.mg X.base ji k f fd ps sp) (hr:jq k X.A) (he:JE X o ta) (ha:JA X (e::es) t)
   (hst:starEach (e::es) X.env=(false,eval e X.env)::starEach es X.env:=by rfl) (hpl:(backTo pos (starEach es X.env)).any (·.1)=false:=by rfl)
   (ht:eval (.Call (.Attribute o m apos) (e::es) [] pos) X.env=(do
     let ov <-eval o X.env
     standAt apos.atName
     let (f,first) <-holding [ov] (getMethod ov m pl)
     callWith pos f first (backTo pos (starEach (e::es) X.env)) (backToKw pos (keywordEach [] X.env))):=by rfl):
   JE X (.Call (.Attribute o m apos) (e::es) [] pos) (z7 C m sp [] E0 ta t):=xv he c h.me G hr h.bi .nil W6 ha hst hpl ht
structure GM (K:PySem.W.Frag) (mg:Str->Option Value) (CG:Addr):Prop where
 cls:∃f fd,Gy K mg CG f fd
 nm:∃f fd,Kb K CG "names" "Ground.names" J3 ["self"] f fd
 fr:∃f fd,Kb K CG "roads_from" "Ground.roads_from" Z9 ["self","name"] f fd
 isn:∃f fd,jT K mg "is_name" J2 ["thing"] f fd
 dr:∃a,mg "DRAWN"=some (.ref a)/\∃(o:Obj) (its:Array Value) (n:Nat),K.lookup a=some o/\o.cls=.type "tuple"/\o.data=.seq its n/\its.size<=sizeLine/\qL (Y4 none) its.toList
theorem Q8.ins {CG:Addr} {H:Hp} {a:Addr} {rs:jF} (h:Q8 CG H a rs):∃dx fs,H a=some (.ins CG dx fs)/\fs.lookup (Str.ofString "names")=none/\fs.lookup (Str.ofString "roads_from")=none:=by
 obtain⟨dx,lo,rd,kvs,h1,_⟩:=h
 refine⟨dx,_,h1,?_,?_⟩
 . have e1:((Str.ofString "names")==(Str.ofString "order"))=false:=by decide+kernel
   have e2:((Str.ofString "names")==(Str.ofString "roads"))=false:=by decide+kernel
   simp only[List.lookup]
   rw[e1,e2]
 . have e1:((Str.ofString "roads_from")==(Str.ofString "order"))=false:=by decide+kernel
   have e2:((Str.ofString "roads_from")==(Str.ofString "roads"))=false:=by decide+kernel
   simp only[List.lookup]
   rw[e1,e2]
theorem XE {rs:jF} {i:Nat} {y:V} (h:((rs.map (·.1)).map V.str)[i]?=some y):∃r,rs[i]?=some r/\r∈rs/\y=.str r.1:=by
 rw[List.getElem?_map,List.getElem?_map]at h
 cases e:rs[i]? with
 | none=>rw[e]at h;cases h
 | some r=>rw[e]at h;exact⟨r,rfl,List.mem_of_getElem? e,(Option.some.inj h).symm⟩
theorem yq {zs:List Str} {i:Nat} {y:V} (h:(zs.map V.str)[i]?=some y):∃z,zs[i]?=some z/\z∈zs/\y=.str z:=by
 rw[List.getElem?_map]at h
 cases e:zs[i]? with
 | none=>rw[e]at h;cases h
 | some z=>rw[e]at h;exact⟨z,rfl,List.mem_of_getElem? e,(Option.some.inj h).symm⟩
theorem Wj {rs:jF} (r:Str×List Str):(jt rs r).length<=rs.length:=by
 have:=List.length_filter_le (λz=>YZ (.str z) (r.2.map V.str)) (rs.map (·.1))
 rwa [List.length_map]at this
theorem zi {rs:jF} {k i:Nat} {r:Str×List Str} (e:rs[i]?=some r):zS rs k (rs.take (i+1))=zS rs k (rs.take i)++(match Yf rs k r with | some x=>[(r.1,x)] | none=>[]):=by
 unfold zS
 rw[List.take_add_one,e,List.filterMap_append]
 congr 1
 show List.filterMap _ [r]=_
 rw[List.filterMap_cons,List.filterMap_nil]
 cases Yf rs k r<;>rfl
theorem xc (rs:jF) (k:Nat) (qs:jF):(zS rs k qs).length<=qs.length:=List.length_filterMap_le _ _
theorem yI {K:PySem.W.Frag} {H:Hp} {D p:Addr} {more:List (qw×V)} {rs:jF} {k i:Nat} {r:Str×List Str} {e:Bool×Int} (hn:(rs.map (·.1)).Nodup) (hD:H D=some (.dK more)) (tab:jp K H more (zS rs k (rs.take i))) (er:rs[i]?=some r) (he:Yf rs k r=some e) (hp:H p=some (.tup (Y4 (some e)))):
   jp K (upd H D (.dK (jf more (Sum.inr r.1) (.ref p)))) (jf more (Sum.inr r.1) (.ref p)) (zS rs k (rs.take (i+1))):=by
 have ez:qD more (Sum.inr r.1:qw)=none:=by
   refine j6 λm=>?_
   rw[tab.keys]at m
   obtain⟨z,hz,e'⟩:=List.mem_map.mp m
   obtain rfl:=Sum.inr.inj e'
   have h1:=(Jp rs k (rs.take i)).subset hz
   rw[List.map_take]at h1
   have en:(rs.map (·.1))[i]?=some r.1:=by rw[List.getElem?_map,er];rfl
   exact Ql hn en (List.mem_map.mpr ⟨_,h1,rfl⟩)
 rw[J6 _ ez,zi er,he]
 refine jp.append (tab.imp λv e h=>h.put hD) (.cons ⟨rfl,qM.put ⟨p,rfl,.of hp⟩ hD⟩ .nil)
def WS (K:PySem.W.Frag) (CG:Addr):Sp:=λvs H Q _=>∃(g d:Addr) (rs:jF) (k:Nat) (kvs:List (qw×V)),vs=[.ref g,.ref d,.int k]/\Q8 CG H g rs/\qO rs/\rs.length<=14/\H d=some (.dK kvs)/\jp K H kvs (tb rs k)/\
 ∀H' D more,qu H H'->H D=none->H' D=some (.dK more)->jp K H' more (zS rs k rs)->Q (.ref D) H'
section
variable {P:Program} {w:World} {K:PySem.W.Frag} {mg:Str->Option Value} {base:Heap}
abbrev nSI:List Str:=["ground","table","number","settled","name","ends","words"]
abbrev u5:List Str:=["ground","table","number"]
theorem UY:qJ nSI u5 (qt Zo):=⟨rfl,rfl,rfl,by decide+kernel,rfl,by decide+kernel,by decide+kernel⟩
theorem vD {f CG:Addr} {fd:FuncData} (F:Qw K "settled_in" "settled_in" Zo f fd) (B:JU mg) (G:Q7 mg) (T:JQ K mg) (M:GM K mg CG):qI P w K mg base ji 3 f fd u5 (WS K CG):=by
 obtain⟨fI,fdI,C⟩:=M.cls
 obtain⟨fM,fdM,hM⟩:=M.nm
 obtain⟨fR,fdR,hR⟩:=M.fr
 obtain⟨fN,fdN,hN⟩:=M.isn
 have GM:qI P w K mg base ji 1 fM fdM ["self"] (Jb CG):=Jo hM.fn C G
 have GR:qI P w K mg base ji 2 fR fdR ["self","name"] (YH CG):=XC hR.fn C B G T hN
 refine F.okJ UY (λvs H Q E h=>?_) (λcdv A outer s H vs Q E hr h=>?_)
 . obtain⟨g,d,rs,k,kvs,rfl,_⟩:=h
   rfl
 . obtain⟨g,d,rs,k,kvs,rfl,gr,good,le14,hd,tab,q⟩:=h
   have hu:=jN hr
   have r1:jq 1 _:=hr.mono (by decide)
   refine⟨_,qg (qC (i:=3) UY.nd rfl (Or.inl rfl) j8)
     (qg (jK PassesOwn.never rfl (qT (XI hM C.cl GM r1 (jv 0))) (qz (i:=4) UY.nd rfl (Or.inl rfl))
       (qg (qS (zr (YY hu (jv 4) (jv 1))) (ql XH) qA)
       (qg (qC (i:=5) UY.nd rfl (Or.inl rfl) (wB hR C.cl GR hr (jv 0) (qb (jv 4) qe)))
       (qg (Qr (i:=6) (N':=["end","table"]) (ix:=[none,some 1]) (tt:=tB (Kq (qZ 0) (qZ 1))) (te:=Ju (Q6 K) (Xo (qZ 1) (qZ 0)) (tC (.int 0))) UY.nd rfl (Or.inl rfl) rfl ⟨rfl,rfl,rfl,rfl,rfl⟩ (qT (jv 5)) (λC s2 H2 fp pins=>
         ⟨qz (i:=0) (show (["end","table"]:List Str).Nodup by decide+kernel) rfl (Or.inl rfl),j4 (zr (YY hu (jv 0) (jv 1))),qH qK (jA hu (jv 1) (jv 0) (λ_ _=>rfl)) qh (λ_ _=>rfl)⟩))
       (ql (qS (qv Yd qB (jv 6) (by with_unfolding_all rfl))
         (ql (jz hu (jv 3) (jv 4) (qW (qb qB (qb (jv 2) qe))) rfl))
         (ql (qS (qv jg (qo qx (by rfl) B.len boot_len (qb (jv 6) qe)) (qo qx (by rfl) B.len boot_len (qb (jv 5) qe)) (qr _))
           (ql (jz hu (jv 3) (jv 4) (qW (qb qB (qb (jv 2) qe))) rfl)) qA))))))))
     (ql (qG (jv 3)))),?_⟩
   intro D hD
   obtain⟨dx,fs,hg,l1,l2⟩:=gr.ins
   have nDd:D≠d:=λe=>by rw[e,hd]at hD;cases hD
   refine⟨_,rfl,g,dx,fs,rfl,qi hg hD,l1,g,rs,rfl,gr.mono (qj hD),λln hln=>⟨ln,rfl,⟨_,.of qd⟩,?_⟩⟩
   have nlD:ln≠D:=λe=>by rw[e,qd]at hln;cases hln
   refine Qa (K:=K) (a:=ln) (xs:=(rs.map (·.1)).map V.str) (λi σ' H'=>∃v4 v5 v6 more,σ'=[some (.ref g),some (.ref d),some (.int k),some (.ref D),v4,v5,v6]/\qu H H'/\H' ln=some (.lst ((rs.map (·.1)).map V.str))/\H' D=some (.dK more)/\jp K H' more (zS rs k (rs.take i)))
     ⟨none,none,none,[],rfl,(qj hD).trans (qj hln),qd,?_,.nil⟩ (λi σ' H' _ ⟨_,_,_,_,_,_,h,_⟩=>.of h) ?_ ?_
   . rw[qk (Ne.symm nlD)]
     exact qd
   . rintro i y σ' H' hy ⟨v4,v5,v6,more,rfl,s1,hln1,hD1,tb1⟩
     obtain⟨r,er,hr',rfl⟩:=XE hy
     have hi:=(List.getElem?_eq_some_iff.mp er).1
     have wM:=tab.imp λv e h=>h.mono s1
     have hd1:=s1 _ _ hd
     have lks:∀r∈rs,(tb rs k).lookup r.1=lv rs k r.1:=ZN good.nd k
     have gz:=jC.k (k:=(Sum.inr r.1:qw)) hd1
     refine⟨_,rfl,_,rfl,d,_,rfl,gz,_,rfl,?_⟩
     rcases wM.look r.1 with ⟨e1,e2⟩ | ⟨e,v,e1,e2,e3⟩
     . rw[lks r hr']at e1
       rw[e2]
       refine jm ?_
       refine⟨_,rfl,g,dx,fs,rfl,s1 _ _ hg,l2,_,rfl,g,rs,r,rfl,gr.mono s1,hr',good.nm r hr',λH2 le s2 hle=>?_⟩
       have nW:Yf rs k r=step (lv rs k) (jt rs r) k:=by
         unfold Yf
         rw[e1]
         rfl
       have s3:qu H' (upd H2 le (.lst ((jt rs r).map V.str))):=s2.trans (qj hle)
       have hle3:upd H2 le (.lst ((jt rs r).map V.str)) le=some (.lst ((jt rs r).map V.str)):=qd
       generalize upd H2 le (.lst ((jt rs r).map V.str))=H3 at s3 hle3
       have hd3:=s3 _ _ hd1
       have tab3:=wM.imp λv e h=>h.mono s3
       have lR:=Wj (rs:=rs) r
       refine⟨_,rfl,le,rfl,⟨_,.of hle3⟩,λW hW=>?_⟩
       refine Qb (K:=K) (a:=le) (xs:=(jt rs r).map V.str) (λj σ'' H''=>∃v0,σ''=[v0,some (.ref d)]/\H''=upd H3 W (.lst ((Xi (lv rs k) ((jt rs r).take j)).map V.str))) ⟨none,rfl,rfl⟩ (λj σ'' H'' _ ⟨_,_,e⟩=>e▸.of (qi hle3 hW)) ?_ ?_
       . rintro j y σ'' H'' hy ⟨v0,rfl,rfl⟩
         obtain⟨z,ez,hz,rfl⟩:=yq hy
         have hd4:=qi (o':=HO.lst ((Xi (lv rs k) ((jt rs r).take j)).map V.str)) hd3 hW
         have gz:=jC.k (k:=(Sum.inr z:qw)) hd4
         obtain⟨r',hrr,rfl⟩:=zc hz
         have et:Xi (lv rs k) ((jt rs r).take (j+1))=Xi (lv rs k) ((jt rs r).take j)++(match lv rs k r'.1 with | some e=>[qY e.1] | none=>[]):=by
           unfold Xi
           rw[List.take_add_one,ez,List.filterMap_append]
           congr 1
           show List.filterMap _ [r'.1]=_
           rw[List.filterMap_cons,List.filterMap_nil]
           cases lv rs k r'.1<;>rfl
         refine⟨_,rfl,_,rfl,d,_,rfl,gz,_,rfl,?_⟩
         rw[et]
         rcases tab3.look r'.1 with ⟨f1,f2⟩ | ⟨e,v,f1,f2,f3⟩
         . rw[lks r' hrr]at f1
           rw[f1]
           show if (qD kvs (Sum.inr r'.1)).isSome=true then _ else _
           rw[f2]
           refine jm ⟨_,rfl,?_⟩
           rw[List.append_nil]
         . rw[lks r' hrr]at f1
           rw[f1]
           show if (qD kvs (Sum.inr r'.1)).isSome=true then _ else _
           rw[f2]
           rw[f2]at gz
           obtain⟨p,rfl,sq⟩:=f3
           refine j0 ⟨_,rfl,_,rfl,d,_,rfl,gz,p,_,0,.str (qY e.1),rfl,rfl,sq.mono (qj hW),rfl,_,qd,?_,_,rfl,?_⟩
           . rw[List.length_map]
             refine qp (Nat.le_trans (Uz _ _) ?_)
             rw[List.length_take]
             omega
           . rw[jP,List.map_append]
             rfl
       . rintro σ'' H'' ⟨v0,rfl,rfl⟩
         rw[List.length_map,List.take_of_length_le (Nat.le_refl _)]
         have s4:qu H' (upd H3 W (.lst ((Xi (lv rs k) (jt rs r)).map V.str))):=s3.trans (qj hW)
         have hle4:=qi (o':=HO.lst ((Xi (lv rs k) (jt rs r)).map V.str)) hle3 hW
         have hW4:upd H3 W (.lst ((Xi (lv rs k) (jt rs r)).map V.str)) W=some (.lst ((Xi (lv rs k) (jt rs r)).map V.str)):=qd
         generalize upd H3 W (.lst ((Xi (lv rs k) (jt rs r)).map V.str))=H4 at s4 hle4 hW4
         have hD4:=s4 _ _ hD1
         have tb4:=tb1.imp λv e h=>h.mono s4
         have lk:more.length < sizeLine:=by
           rw[tb1.len]
           refine qp (Nat.le_trans (xc _ _ _) ?_)
           rw[List.length_take]
           omega
         refine⟨_,rfl,W,_,rfl,.inl (.of hW4),rfl,Zv _,_,rfl,?_⟩
         have wl:=Xh (lv rs k) (jt rs r)
         have wa:=WH (lv rs k) (jt rs r)
         have fin:∀e p,Yf rs k r=some e->H4 p=none->(upd H4 p (.tup (Y4 (some e)))) p=some (.tup (Y4 (some e)))->
             qu H (upd (upd H4 p (.tup (Y4 (some e)))) D (.dK (jf more (Sum.inr r.1) (.ref p))))/\upd (upd H4 p (.tup (Y4 (some e)))) D (.dK (jf more (Sum.inr r.1) (.ref p))) ln=some (.lst ((rs.map (·.1)).map V.str))/\
             jp K (upd (upd H4 p (.tup (Y4 (some e)))) D (.dK (jf more (Sum.inr r.1) (.ref p)))) (jf more (Sum.inr r.1) (.ref p)) (zS rs k (rs.take (i+1))):=λe p he hp hp'=>by
           refine⟨qu.upd ((s1.trans s4).trans (qj hp)) hD,?_,yI good.nd (qi hD4 hp) (tb4.imp λv e h=>h.mono (qj hp)) er he hp'⟩
           rw[qk nlD]
           exact qi (s4 _ _ hln1) hp
         show if YZ (.str (Str.ofString "lost")) ((Xi (lv rs k) (jt rs r)).map V.str)=true then _ else _
         rw[wl]
         refine jL (λc=>?_) (λc=>?_)
         . have he:Yf rs k r=some (true,(k:Int)):=by
             rw[nW]
             unfold MPlay.step
             rw[if_pos c]
           refine⟨_,rfl,by show 2<=sizeLine;decide,λp hp=>⟨_,rfl,_,rfl,D,_,rfl,Qu.k (k:=(Sum.inr r.1:qw)) (qi hD4 hp) lk,?_⟩⟩
           obtain⟨f1,f2,f3⟩:=fin _ p he hp qd
           exact⟨_,_,_,_,rfl,f1,f2,qd,f3⟩
         . refine⟨_,rfl,W,_,rfl,.inl (.of hW4),_,rfl,le,_,rfl,.inl (.of hle4),rfl,_,rfl,?_⟩
           have ed:decide (V.int ((((Xi (lv rs k) (jt rs r)).map V.str).length:Nat):Int)=V.int ((((jt rs r).map V.str).length:Nat):Int))=(jt rs r).all λy=>(lv rs k y).isSome:=by
             rw[<-wa,List.length_map,List.length_map]
             refine decide_eq_decide.mpr ⟨λh=>?_,λh=>by rw[h]⟩
             have:=V.int.inj h
             omega
           rw[ed]
           refine jL (λc2=>?_) (λc2=>?_)
           . have he:Yf rs k r=some (false,(k:Int)):=by
               rw[nW]
               unfold MPlay.step
               rw[if_neg c,if_pos c2]
             refine⟨_,rfl,by show 2<=sizeLine;decide,λp hp=>⟨_,rfl,_,rfl,D,_,rfl,Qu.k (k:=(Sum.inr r.1:qw)) (qi hD4 hp) lk,?_⟩⟩
             obtain⟨f1,f2,f3⟩:=fin _ p he hp qd
             exact⟨_,_,_,_,rfl,f1,f2,qd,f3⟩
           . have he:Yf rs k r=none:=by
               rw[nW]
               unfold MPlay.step
               rw[if_neg c,if_neg c2]
             refine⟨_,_,_,_,rfl,s1.trans s4,s4 _ _ hln1,hD4,?_⟩
             rw[zi er,he]
             rw[List.append_nil]
             exact tb4
     . rw[lks r hr']at e1
       rw[e2]
       refine j0 ⟨_,_,_,more,rfl,s1,hln1,hD1,?_⟩
       have he:Yf rs k r=none:=by
         unfold Yf
         rw[e1]
         rfl
       rw[zi er,he,List.append_nil]
       exact tb1
   . rintro σ' H' ⟨v4,v5,v6,more,rfl,s1,hln1,hD1,tb1⟩
     rw[List.length_map,List.length_map,List.take_of_length_le (Nat.le_refl _)]at tb1
     exact⟨_,rfl,q H' D more s1 hD hD1 tb1⟩
end
end Rh
set_option Elab.async false
set_option linter.all false
set_option maxRecDepth 100000
set_option maxHeartbeats 4000000
namespace Rh
open PySem L2 PyProof.Rows MPlay
def WR (K:PySem.W.Frag) (CG:Addr):Sp:=λvs H Q _=>∃(g:Addr) (rs:jF),vs=[.ref g]/\Q8 CG H g rs/\qO rs/\rs.length<=14/\
 ∀H' D kvs t,qu H H'->H D=none->H' D=some (.dK kvs)->jp K H' kvs t->(∀r∈rs,t.lookup r.1=tF rs r.1)->Tab (zT rs) (rs.map (·.1)) (tF rs)->Q (.ref D) H'
def Jk (K:PySem.W.Frag) (H:Hp) (kvs:List (qw×V)) (rs:jF):Prop:=∀r∈rs,∃v,qD kvs (Sum.inr r.1:qw)=some v/\qM K H v (tF rs r.1)
theorem Jk.mono {K:PySem.W.Frag} {H H':Hp} {kvs:List (qw×V)} {rs:jF} (h:Jk K H kvs rs) (s:qu H H'):Jk K H' kvs rs:=λr hr=>let ⟨v,a,b⟩:=h r hr;⟨v,a,b.mono s⟩
def WQ (K:PySem.W.Frag) (CG:Addr):Sp:=λvs H Q _=>∃(g:Addr) (rs:jF),vs=[.ref g]/\Q8 CG H g rs/\qO rs/\rs.length<=14/\
 ∀H' D kvs,qu H H'->H D=none->H' D=some (.dK kvs)->Jk K H' kvs rs->kvs.map (·.1)=(rs.map (·.1)).map Sum.inr->Tab (zT rs) (rs.map (·.1)) (tF rs)->Q (.ref D) H'
def dE:En->PyData
 | none=>.tuple [.str "drawn",.none]
 | some e=>.tuple [.str (qY e.1),.int e.2]
theorem k8 {K:PySem.W.Frag} {H:Hp} {v:V} {e:En} (h:qM K H v e):DV K H v (dE e):=by
 obtain⟨p,rfl,sq⟩:=h
 cases e with
 | none=>exact .tup sq (.cons (.str _) (.cons .non .nil))
 | some e=>exact .tup sq (.cons (.str _) (.cons (.int _) .nil))
theorem RB (b:Bool):PyData.strOk (qY b)=true:=by cases b<;>decide+kernel
theorem okD:PyData.strOk (Str.ofString "drawn")=true:=by decide+kernel
theorem Ky (e:En):PySem.SeqAt.shaped (dE e)=true:=by
 unfold PySem.SeqAt.shaped
 cases e with
 | none=>
   show ((PyData.strOk (Str.ofString "drawn")&&(true&&true))&&_)=true
   rw[okD]
   exact decide_eq_true (by show 1<=64;decide)
 | some e=>
   show ((PyData.strOk (qY e.1)&&(true&&true))&&_)=true
   rw[RB]
   exact decide_eq_true (by show 1<=64;decide)
theorem UA (b:Bool):(qY b==Str.ofString "drawn")=false:=by cases b<;>decide+kernel
theorem wD (b:Bool):(Str.ofString "drawn"==qY b)=false:=by cases b<;>decide+kernel
theorem x5 (a b:Bool):(qY a==qY b)=decide (a=b):=by cases a<;>cases b<;>decide+kernel
theorem wC (a b:En):PyData.eqv (dE a) (dE b)=decide (a=b):=by
 cases a with
 | none=>
   cases b with
   | none=>show ((Str.ofString "drawn"==Str.ofString "drawn")&&(true&&true))=_;simp
   | some e=>
     show ((Str.ofString "drawn"==qY e.1)&&_)=_
     rw[wD]
     simp
 | some e=>
   cases b with
   | none=>
     show ((qY e.1==Str.ofString "drawn")&&_)=_
     rw[UA]
     simp
   | some u=>
     obtain⟨a,n⟩:=e
     obtain⟨b,m⟩:=u
     show ((qY a==qY b)&&((n==m)&&true))=_
     rw[x5,Bool.and_true]
     rw[Bool.eq_iff_iff]
     simp
theorem QU {c:Bool} {A B:Prop} (hc:c=false) (h:B):if c=true then A else B:=by
 rw[hc]
 exact jm h
theorem ZR {c:Bool} {A B:Prop} (hc:c=true) (h:A):if c=true then A else B:=by
 rw[if_pos hc]
 exact h
section
variable {P:Program} {w:World} {K:PySem.W.Frag} {mg:Str->Option Value} {base:Heap}
abbrev nSP:List Str:=["ground","table","number","settled"]
theorem VF:qJ nSP ["ground"] (qt Z1):=⟨rfl,rfl,rfl,by decide+kernel,rfl,by decide+kernel,by decide+kernel⟩
theorem vC {f fI CG:Addr} {fd fdI:FuncData} (F:Qw K "settled_places" "settled_places" Z1 f fd) (B:JU mg) (G:Q7 mg) (T:JQ K mg) (M:GM K mg CG) (hI:jT K mg "settled_in" Zo u5 fI fdI):qI P w K mg base ji 4 f fd ["ground"] (WR K CG):=by
 have GI:qI P w K mg base ji 3 fI fdI u5 (WS K CG):=vD hI.fn B G T M
 refine F.okJ VF (λvs H Q E h=>?_) (λcdv A outer s H vs Q E hr h=>?_)
 . obtain⟨g,rs,rfl,_⟩:=h
   rfl
 . obtain⟨g,rs,rfl,gr,good,le14,q⟩:=h
   have hu:=jN hr
   refine⟨_,qg (qC (i:=1) VF.nd rfl (Or.inl rfl) j8)
     (qg (qC (i:=2) VF.nd rfl (Or.inl rfl) qh)
     (qg (qC (i:=3) VF.nd rfl (Or.inl rfl) (qX hI GI hr (by rfl) (qb (jv 0) (qb (jv 1) (qb (jv 2) qe)))))
     (qg (ke PassesOwn.never (qv Ye (qo Uv (by rfl) B.len boot_len (qb (jv 3) qe)) qh (qr _))
       (qg (j5 (xz (jv 1) (jv 3) ⟨rfl,rfl,rfl,rfl⟩))
       (qg (uI (i:=2) VF.nd rfl (Or.inl rfl) qh uP)
       (ql (qC (i:=3) VF.nd rfl (Or.inl rfl) (qX hI GI hr (by rfl) (qb (jv 0) (qb (jv 1) (qb (jv 2) qe)))))))))
     (ql (qG (jv 1)))))),?_⟩
   intro T0 hT0
   refine⟨_,rfl,_,rfl,_,rfl,g,T0,rs,0,[],rfl,gr.mono (qj hT0),good,le14,qd,.nil,λH1 D1 more1 s1 hD1 hD1' tb1=>?_⟩
   have nT:∀{c:Addr} {o:HO},H c=some o->c≠T0:=λh e=>by rw[e,hT0]at h;cases h
   refine Uy (λσ H'=>∃(k:Nat) (D:Addr) (kvs more:List (qw×V)),σ=[some (.ref g),some (.ref T0),some (.int k),some (.ref D)]/\qu H H'/\H' T0=some (.dK kvs)/\jp K H' kvs (tb rs k)/\H' D=some (.dK more)/\jp K H' more (zS rs k rs)/\k<=(tb rs k).length/\T0≠D)
     (λσ _=>match σ with | [_,_,some (.int k),_]=>15 - k.toNat | _=>0)
     ⟨0,D1,[],more1,rfl,(qj hT0).trans s1,s1 _ _ qd,.nil,hD1',tb1,Nat.zero_le _,λe=>by rw[<-e,qd]at hD1;cases hD1⟩ ?_ ?_
   . rintro σ H' ⟨k,D,kvs,more,rfl,sH,hT,tabT,hD,tabD,hk,ne⟩
     have hlen:=UE good.nd k
     have hlen1:=UE good.nd (k+1)
     refine⟨_,rfl,D,more,rfl,hD,_,_,rfl,rfl,_,rfl,?_⟩
     refine jL (λc=>?_) (λc=>?_)
     . have c':(0:Int) < ((more.length:Nat):Int):=of_decide_eq_true c
       have eM:Qd kvs more=kvs++more:=by
         refine Yi ?_ λz hz m=>?_
         . rw[tabD.keys]
           exact jD (good.nd.sublist (Jp rs k rs)) λa _ b _ e=>Sum.inr.inj e
         . rw[tabD.keys]at hz
           rw[tabT.keys]at m
           obtain⟨x,hx,rfl⟩:=List.mem_map.mp hz
           obtain⟨y,hy,e⟩:=List.mem_map.mp m
           obtain rfl:=Sum.inr.inj e
           exact UD good.nd hx hy
       have lk:kvs.length+more.length<=sizeLine:=by
         have h1:(tb rs (k+1)).length=(tb rs k).length+(zS rs k rs).length:=by rw[tb,List.length_append]
         rw[tabT.len,tabD.len]
         exact Nat.le_of_lt (qp (by omega))
       refine⟨_,rfl,T0,rfl,.inl ⟨_,.inl hT⟩,_,rfl,D,kvs,more,rfl,hT,hD,ne,lk,?_⟩
       rw[eM]
       refine⟨_,rfl,_,_,rfl,rfl,?_⟩
       have tabT':jp K (upd H' T0 (.dK (kvs++more))) (kvs++more) (tb rs (k+1)):=(tabT.append tabD).imp λv e h=>h.put hT
       have sT:qu H (upd H' T0 (.dK (kvs++more))):=qu.upd sH hT0
       refine⟨_,rfl,_,rfl,_,rfl,g,T0,rs,k+1,_,rfl,gr.mono sT,good,le14,qd,tabT',λH2 D2 more2 s2 hD2 hD2' tb2=>?_⟩
       refine⟨⟨k+1,D2,_,more2,rfl,sT.trans s2,s2 _ _ qd,tabT'.imp λv e h=>h.mono s2,hD2',tb2,?_,λe=>by rw[<-e,qd]at hD2;cases hD2⟩,?_⟩
       . have h1:(tb rs (k+1)).length=(tb rs k).length+(zS rs k rs).length:=by rw[tb,List.length_append]
         have:=tabD.len
         omega
       . show 15 - ((k:Int)+1).toNat < 15 - (k:Int).toNat
         omega
     . have c':¬(0:Int) < ((more.length:Nat):Int):=λz=>c (decide_eq_true z)
       have e0:zS rs k rs=[]:=List.eq_nil_of_length_eq_zero (by rw[<-tabD.len];omega)
       obtain⟨t1,t2⟩:=Kl good.nd (k:=k) (by omega) e0
       refine⟨_,rfl,q H' T0 kvs _ sH hT0 hT tabT (λr hr=>?_) t1⟩
       rw[t2 r hr]
       exact ZN good.nd k r hr
   . rintro σ H' Q Q' f ⟨v,e,a,kvs,e1,h1,i,j,e2,e3,b,e4,h2⟩
     exact⟨v,e,a,kvs,e1,h1,i,j,e2,e3,b,e4,f _ _ h2⟩
abbrev nTO:List Str:=["ground","settled","table","name"]
theorem yy:qJ nTO ["ground"] (qt YK):=⟨rfl,rfl,rfl,by decide+kernel,rfl,by decide+kernel,by decide+kernel⟩
theorem vz {f fI fP CG:Addr} {fd fdI fdP:FuncData} (F:Qw K "table_of" "table_of" YK f fd) (B:JU mg) (G:Q7 mg) (T:JQ K mg) (M:GM K mg CG) (hI:jT K mg "settled_in" Zo u5 fI fdI) (hP:jT K mg "settled_places" Z1 ["ground"] fP fdP):qI P w K mg base ji 5 f fd ["ground"] (WQ K CG):=by
 have GP:qI P w K mg base ji 4 fP fdP ["ground"] (WR K CG):=vC hP.fn B G T M hI
 obtain⟨fC,fdC,C⟩:=M.cls
 obtain⟨fM,fdM,hM⟩:=M.nm
 obtain⟨aD,hmD,oD⟩:=M.dr
 have GM:qI P w K mg base ji 1 fM fdM ["self"] (Jb CG):=Jo hM.fn C G
 refine F.okJ yy (λvs H Q E h=>?_) (λcdv A outer s H vs Q E hr h=>?_)
 . obtain⟨g,rs,rfl,_⟩:=h
   rfl
 . obtain⟨g,rs,rfl,gr,good,le14,q⟩:=h
   have hu:=jN hr
   refine⟨_,qg (qC (i:=1) yy.nd rfl (Or.inl rfl) (qX hP GP hr (by rfl) (qb (jv 0) qe)))
     (qg (qC (i:=2) yy.nd rfl (Or.inl rfl) j8)
     (qg (jK PassesOwn.never rfl (qT (XI hM C.cl GM (hr.mono (by decide)) (jv 0))) (qz (i:=3) yy.nd rfl (Or.inl rfl))
       (ql (jz hu (jv 2) (jv 3) (kt hu (jv 1) (jv 3) (Jq (v:=.ref aD) (by rfl) hmD rfl) ⟨rfl,rfl,rfl,rfl⟩) rfl)))
     (ql (qG (jv 2))))),?_⟩
   refine⟨_,rfl,g,rs,rfl,gr,good,le14,λH1 S kvs t s1 hS hS1 tab lk tt=>?_⟩
   intro D hD
   obtain⟨dx,fs,hg,l1,l2⟩:=gr.ins
   refine⟨_,rfl,g,dx,fs,rfl,qi (s1 _ _ hg) hD,l1,g,rs,rfl,(gr.mono s1).mono (qj hD),λln hln=>⟨ln,rfl,⟨_,.of qd⟩,?_⟩⟩
   have nlD:ln≠D:=λe=>by rw[e,qd]at hln;cases hln
   have hHD:H D=none:=by
     cases z:H D with
     | none=>rfl
     | some u=>rw[s1 _ _ z]at hD;cases hD
   refine Qa (K:=K) (a:=ln) (xs:=(rs.map (·.1)).map V.str) (λi σ' H'=>∃v3 kv',σ'=[some (.ref g),some (.ref S),some (.ref D),v3]/\qu H1 H'/\H' ln=some (.lst ((rs.map (·.1)).map V.str))/\H' D=some (.dK kv')/\
     kv'.map (·.1)=((rs.map (·.1)).take i).map Sum.inr/\∀r∈rs.take i,∃v,qD kv' (Sum.inr r.1:qw)=some v/\qM K H' v (tF rs r.1))
     ⟨none,[],rfl,(qj hD).trans (qj hln),qd,?_,rfl,λr h=>(nomatch h)⟩ (λi σ' H' _ ⟨_,_,_,_,h,_⟩=>.of h) ?_ ?_
   . rw[qk (Ne.symm nlD)]
     exact qd
   . rintro i y σ' H' hy ⟨v3,kv',rfl,s2,hln2,hD2,ek,hv⟩
     obtain⟨r,er,hr',rfl⟩:=XE hy
     have hi:=(List.getElem?_eq_some_iff.mp er).1
     have hS2:=s2 _ _ hS1
     have tab2:=tab.imp λv e h=>h.mono s2
     have gz:=jC.k (k:=(Sum.inr r.1:qw)) hS2
     have en:(rs.map (·.1))[i]?=some r.1:=by rw[List.getElem?_map,er];rfl
     have ez:qD kv' (Sum.inr r.1:qw)=none:=j6 (by rw[ek];exact Ql good.nd en)
     have lk':kv'.length < sizeLine:=by
       have:=congrArg List.length ek
       rw[List.length_map,List.length_map,List.length_take,List.length_map]at this
       exact qp (by omega)
     have hE:qM K H' ((qD kvs (Sum.inr r.1:qw)).getD (.ref aD)) (tF rs r.1):=by
       rcases tab2.look r.1 with ⟨f1,f2⟩ | ⟨e,v,f1,f2,f3⟩
       . rw[lk r hr']at f1
         rw[f2,f1]
         exact⟨aD,rfl,.inr oD⟩
       . rw[lk r hr']at f1
         rw[f2,f1]
         exact f3
     refine⟨_,rfl,S,rfl,.inl ⟨_,.inl hS2⟩,_,rfl,_,gz,_,rfl,_,rfl,D,_,rfl,Qu.k (k:=(Sum.inr r.1:qw)) hD2 lk',?_⟩
     refine⟨_,_,rfl,qu.upd s2 hD,?_,qd,?_,λr' hr2=>?_⟩
     . rw[qk nlD]
       exact hln2
     . rw[J5 _ ez,ek,List.take_add_one,en,List.map_append]
       rfl
     . rw[List.take_add_one,er]at hr2
       rcases List.mem_append.mp hr2 with h | h
       . obtain⟨v1,a1,b1⟩:=hv r' h
         refine⟨v1,?_,b1.put hD2⟩
         rw[Qp,if_neg]
         . exact a1
         . intro z
           rw[z,ez]at a1
           cases a1
       . have er':r'=r:=by simpa using h
         subst er'
         refine⟨_,?_,hE.put hD2⟩
         rw[Qp,if_pos rfl]
   . rintro σ' H' ⟨v3,kv',rfl,s2,hln2,hD2,ek,hv⟩
     rw[List.length_map,List.length_map,List.take_of_length_le (Nat.le_refl _)]at hv
     rw[List.length_map,List.take_of_length_le (by rw[List.length_map];exact Nat.le_refl _)]at ek
     exact⟨_,rfl,q H' D kv' (s1.trans s2) hHD hD2 hv ek tt⟩
end
end Rh
set_option Elab.async false
set_option linter.all false
set_option maxRecDepth 100000
set_option maxHeartbeats 4000000
namespace Rh
open PySem L2 PyProof.Rows MPlay
abbrev Zn:Stmt:=top 9
abbrev U1:Stmt:=top 22
abbrev Z8:Stmt:=top 28
abbrev Zp:Stmt:=top 29
abbrev Z3:Stmt:=top 30
abbrev Z0:Stmt:=top 31
structure ZL (K:PySem.W.Frag) (mg:Str->Option Value):Prop where
 isi:mg "isinstance"=none
 bool:mg "bool"=none
 tup:mg "tuple"=none
 dict:mg "dict"=none
 kit:∀t∈X4,∀c∈["int","bool","tuple","dict"],PySem.W.kitOne K (.type t) (.type c)=some (XJ t c)
theorem ZL.at {K:PySem.W.Frag} {mg:Str->Option Value} (T:ZL K mg) (d:PyData) {c:String} (h:c∈["int","bool","tuple","dict"]:=by simp):PySem.W.kitOne K (.type (yh d)) (.type c)=some (XJ (yh d) c):=T.kit _ (wK d) _ h
def RL:PyData->Bool
 | .int _=>true
 | _=>false
theorem uO (d:PyData):(if XJ (yh d) "int"=true then !XJ (yh d) "bool" else false)=RL d:=by
 cases d<;>simp [XJ,yh,RL]
def WK (w:Str):Option Bool:=if w=Str.ofString "won" then some true else if w=Str.ofString "lost" then some false else none
def jO:PyData->Option En
 | .tuple [.str w,x]=>if w=Str.ofString "drawn" then (match x with | .none=>some none | _=>none) else match WK w,x with
   | some b,.int n=>if 0<=n then some (some (b,n)) else none
   | _,_=>none
 | _=>none
theorem wJ (b:Bool):WK (qY b)=some b:=by cases b<;>decide+kernel
theorem WJ {w:Str} {b:Bool} (h:WK w=some b):w=qY b:=by
 unfold WK at h
 split at h
 . cases h
   rename_i e
   exact e
 . split at h
   . cases h
     rename_i e
     exact e
   . cases h
theorem uT {e:En} (h:∀b n,e=some (b,n)->0<=n):jO (dE e)=some e:=by
 cases e with
 | none=>rfl
 | some p=>
   obtain⟨b,n⟩:=p
   have ne:¬qY b=Str.ofString "drawn":=by have:=UA b;exact λz=>by rw[z]at this;simp at this
   show (if qY b=Str.ofString "drawn" then _ else _)=_
   rw[if_neg ne,wJ]
   show (if 0<=n then _ else _)=_
   rw[if_pos (h b n rfl)]
theorem Jf {d:PyData} {e:En} (h:jO d=some e):d=dE e/\∀b n,e=some (b,n)->0<=n:=by
 unfold jO at h
 split at h
 . rename_i w x
   split at h
   . rename_i ew
     cases x<;>first | cases h | skip
     subst ew
     exact⟨rfl,λb n z=>nomatch z⟩
   . split at h
     . rename_i b n ew
       split at h
       . rename_i h0
         cases h
         rw[WJ ew]
         exact⟨rfl,λb' n' z=>by cases z;exact h0⟩
       . cases h
     . cases h
 . cases h
def WP (K:PySem.W.Frag):Sp:=λvs H Q _=>∃v d,vs=[v]/\DV K H v d/\Q (.bl (RL d)) H
def Jl (K:PySem.W.Frag):Sp:=λvs H Q _=>∃v d,vs=[v]/\DV K H v d/\d.canLay0=true/\d.depth<=40/\∀H',qu H H'->Q (.bl (jO d).isSome) H'
mutual
theorem _root_.L2.DV.mono {K:PySem.W.Frag} {H H':Hp} (s:qu H H'):∀{x:V} {d:PyData},DV K H x d->DV K H' x d
 | _,_,.non=>.non
 | _,_,.bl b=>.bl b
 | _,_,.int i=>.int i
 | _,_,.str x=>.str x
 | _,_,.lst q hs=>.lst (match q with
   | .inl (.inl e)=>.inl (.inl (s _ _ e))
   | .inl (.inr ⟨o,e⟩)=>.inl (.inr ⟨o,s _ _ e⟩)
   | .inr e=>.inr e) (L2.DVs.mono s hs)
 | _,_,.tup q hs=>.tup (L2.SqT.mono q s) (L2.DVs.mono s hs)
theorem _root_.L2.DVs.mono {K:PySem.W.Frag} {H H':Hp} (s:qu H H'):∀{xs:List V} {ds:List PyData},DVs K H xs ds->DVs K H' xs ds
 | _,_,.nil=>.nil
 | _,_,.cons h hs=>.cons (L2.DV.mono s h) (L2.DVs.mono s hs)
end
theorem Vf (d:PyData) (x:Str):PyData.eqv d (.str x)=match d with | .str w=>w==x | _=>false:=by cases d<;>rfl
theorem Je (d:PyData) (x:Str):PyData.eqv (.str x) d=match d with | .str w=>x==w | _=>false:=by cases d<;>rfl
theorem UN (d:PyData):(∃w,d=.str w)\/∀y,(jO (.tuple [d,y])).isSome=false:=by
 cases d<;>first | exact .inl ⟨_,rfl⟩ | exact .inr λ_=>rfl
theorem K6 (d:PyData):(if false=true then !([PyData.str (Str.ofString "lost"),.str (Str.ofString "won")].any λz=>PyData.eqv z d) else [PyData.str (Str.ofString "lost"),.str (Str.ofString "won")].any λz=>PyData.eqv z d)=match d with | .str w=>(WK w).isSome | _=>false:=by
 rw[if_neg (by decide),List.any_cons,List.any_cons,List.any_nil,Je,Je]
 cases d<;>first | rfl | skip
 rename_i w
 show ((Str.ofString "lost"==w) || ((Str.ofString "won"==w) || false))=(WK w).isSome
 unfold WK
 by_cases e1:w=Str.ofString "won"
 . subst e1;decide+kernel
 . by_cases e2:w=Str.ofString "lost"
   . subst e2;decide+kernel
   . rw[if_neg e1,if_neg e2,beq_eq_false_iff_ne.mpr (Ne.symm e1),beq_eq_false_iff_ne.mpr (Ne.symm e2)]
     rfl
theorem Y6 {K:PySem.W.Frag} {H:Hp}:∀{xs:List V} {ds:List PyData},DVs K H xs ds->xs.length=ds.length
 | _,_,.nil=>rfl
 | _,_,.cons _ hs=>by rw[List.length_cons,List.length_cons,Y6 hs]
section
variable {P:Program} {w:World} {K:PySem.W.Frag} {mg:Str->Option Value} {base:Heap}
theorem yx:qJ ["thing"] ["thing"] (qt Zn):=⟨rfl,rfl,rfl,by decide+kernel,rfl,by decide+kernel,by decide+kernel⟩
theorem vw {f:Addr} {fd:FuncData} (F:Qw K "is_whole" "is_whole" Zn f fd) (B:JU mg) (T:ZL K mg):qI P w K mg base ji 1 f fd ["thing"] (WP K):=by
 refine F.okJ yx (λvs H Q E h=>?_) (λcdv A outer s H vs Q E hr h=>?_)
 . obtain⟨v,d,rfl,_⟩:=h
   rfl
 . obtain⟨v,d,rfl,dv,q⟩:=h
   refine⟨_,ql (qG (jS (qo jB (by rfl) T.isi boot_isinstance (qb (jv 0) (qb (jI (v:=.ty "int") (by rfl) B.int boot_int rfl) qe)))
     (Qh (kj (qo jB (by rfl) T.isi boot_isinstance (qb (jv 0) (qb (jI (v:=.ty "bool") (by rfl) T.bool boot_bool rfl) qe))))))),?_⟩
   refine⟨_,rfl,_,_,d,_,rfl,dv,T.at d,_,rfl,?_⟩
   have e:=uO d
   refine jL (λc=>?_) (λc=>?_)
   . rw[c,if_pos rfl]at e
     refine⟨_,rfl,_,_,d,_,rfl,dv,T.at d,_,rfl,?_⟩
     rw[e]
     exact q
   . rw[if_neg c]at e
     rw[e]
     exact q
theorem yA:qJ ["thing"] ["thing"] (qt Z8):=⟨rfl,rfl,rfl,by decide+kernel,rfl,by decide+kernel,by decide+kernel⟩
theorem vK {f fW:Addr} {fd fdW:FuncData} (F:Qw K "is_entry" "is_entry" Z8 f fd) (B:JU mg) (T:ZL K mg) (hW:jT K mg "is_whole" Zn ["thing"] fW fdW):qI P w K mg base ji 2 f fd ["thing"] (Jl K):=by
 have GW:qI P w K mg base ji 1 fW fdW ["thing"] (WP K):=vw hW.fn B T
 refine F.okJ yA (λvs H Q E h=>?_) (λcdv A outer s H vs Q E hr h=>?_)
 . obtain⟨v,d,rfl,_⟩:=h
   rfl
 . obtain⟨v,d,rfl,dv,cl,dp,q⟩:=h
   have hu:=jN hr
   refine⟨_,qg (qS (JW.pt (Qi (jG (jr (qo jB (by rfl) T.isi boot_isinstance (qb (jv 0) (qb (jI (v:=.ty "tuple") (by rfl) T.tup boot_tuple rfl) qe)))))
       (jR (qv Xz (qo qx (by rfl) B.len boot_len (qb (jv 0) qe)) qh (qr _))))) (ql (qG jw)) qA)
     (qg (qS (qv (YQ hr.units) (qH qK (jv 0) qh (λ_ _=>rfl)) qB (qr _)) (ql (qG (qP vt (qH qK (jv 0) qh (λ_ _=>rfl)) QT (qr _)))) qA)
     (ql (qG (jS (qP (yO hr.units) (qH qK (jv 0) qh (λ_ _=>rfl)) (qW (qb qB (qb qB qe))) (by with_unfolding_all rfl))
       (jS (qX hW GW hr (by rfl) (qb (qH qK (jv 0) qh (λ_ _=>rfl)) qe)) (Qh (qP XA (qH qK (jv 0) qh (λ_ _=>rfl)) qh (qr _)))))))),?_⟩
   refine⟨_,rfl,_,_,d,_,rfl,dv,T.at d,_,rfl,?_⟩
   have no:∀{H':Hp},qu H H'->(jO d).isSome=false->Q (.bl false) H':=λs e=>by have:=q _ s;rwa [e]at this
   have sr:qu H H:=λ_ _ z=>z
   cases dv with
   | tup hq hs=>
     rename_i a xs ds
     refine jm ?_
     refine⟨_,rfl,a,xs,rfl,.inr hq,?_⟩
     have lx:xs.length=ds.length:=Y6 hs
     refine⟨rfl,_,rfl,?_⟩
     refine jL (λc=>?_) (λc=>?_)
     . refine no sr ?_
       cases e:jO (.tuple ds) with
       | none=>rfl
       | some en=>
         have e2:ds.length=2:=by
           have z:=(Jf e).1
           cases en with
           | none=>cases z;rfl
           | some p=>cases z;rfl
         rw[lx,e2]at c
         exact absurd c (by decide)
     . have l2:ds.length=2:=by
         rw[<-lx]
         exact Classical.byContradiction λz=>c (by rw[decide_eq_false (λq=>z (by have:=V.int.inj q;omega))];rfl)
       match ds,l2 with
       | [d0,d1],_=>
         cases hs with
         | cons h0 hs=>
           cases hs with
           | cons h1 hs=>
             cases hs
             rename_i x0 x1
             have c0:d0.canLay0=true:=(Bool.and_eq_true_iff.mp cl).1
             have c1:d1.canLay0=true:=(Bool.and_eq_true_iff.mp (Bool.and_eq_true_iff.mp cl).2).1
             have dd:max d0.depth (max d1.depth 0)+1<=40:=by
               have:=dp
               simp only[PyData.depth,PyData.depthAll]at this
               omega
             have p0:d0.depth<=40:=by omega
             have s0:PySem.SeqAt.shaped d0=true:=by unfold PySem.SeqAt.shaped;rw[c0];exact decide_eq_true (by omega)
             refine⟨_,rfl,a,[x0,x1],0,x0,rfl,rfl,hq,rfl,d0,_,h0,.str _,s0,(by decide+kernel),_,rfl,?_⟩
             rw[Vf]
             refine jL (λc=>?_) (λc=>?_)
             . obtain⟨w0,rfl⟩:∃w0,d0=.str w0:=by cases d0<;>first | exact⟨_,rfl⟩ | exact absurd c Bool.false_ne_true
               obtain rfl:w0=Str.ofString "drawn":=by simpa using c
               refine⟨_,rfl,a,[x0,x1],1,x1,rfl,rfl,hq,rfl,rfl,?_⟩
               have:=q H sr
               rw[show (jO (.tuple [.str (Str.ofString "drawn"),d1])).isSome=decide (x1=.non) from ?_]at this
               . exact this
               . cases h1<;>rfl
             . refine⟨_,rfl,a,[x0,x1],0,x0,rfl,rfl,hq,rfl,by decide,λp hp=>?_⟩
               have sp:=qj (o:=.tup [.str (Str.ofString "lost"),.str (Str.ofString "won")]) hp
               refine⟨d0,[.str (Str.ofString "lost"),.str (Str.ofString "won")],h0.mono sp,.tup (.of qd) (.cons (.str _) (.cons (.str _) .nil)),c0,by decide+kernel,p0,_,rfl,?_⟩
               rw[K6]
               refine jL (λc2=>?_) (λc2=>?_)
               . refine⟨_,rfl,a,[x0,x1],1,x1,rfl,rfl,hq.mono sp,rfl,x1,d1,rfl,h1.mono sp,_,rfl,?_⟩
                 obtain⟨w0,rfl⟩:∃w0,d0=.str w0:=by cases d0<;>first | exact⟨_,rfl⟩ | exact absurd c2 Bool.false_ne_true
                 obtain⟨b,eb⟩:=Option.isSome_iff_exists.mp c2
                 have ew:=WJ eb
                 have ne:¬w0=Str.ofString "drawn":=λz=>c (by rw[z];simp)
                 have eq:(jO (.tuple [.str w0,d1])).isSome=match d1 with | .int n=>decide (0<=n) | _=>false:=by
                   show Option.isSome (α:=En) (if w0=Str.ofString "drawn" then _ else _)=_
                   rw[if_neg ne,eb]
                   cases d1 with
                   | int n=>
                     show Option.isSome (α:=En) (if 0<=n then _ else _)=decide (0<=n)
                     by_cases h:0<=n
                     . rw[if_pos h,decide_eq_true h];rfl
                     . rw[if_neg h,decide_eq_false h];rfl
                   | _=>rfl
                 have q':=q _ sp
                 rw[eq]at q'
                 cases h1 with
                 | int n=>exact j0 ⟨_,rfl,a,[x0,.int n],1,.int n,rfl,rfl,hq.mono sp,rfl,_,_,rfl,rfl,q'⟩
                 | _=>exact jm q'
               . refine no sp ?_
                 rcases UN d0 with ⟨w0,rfl⟩ | e
                 case inr=>exact e _
                 have ne:¬w0=Str.ofString "drawn":=λz=>c (by rw[z];simp)
                 have e0:WK w0=none:=by simpa using c2
                 show Option.isSome (α:=En) (if w0=Str.ofString "drawn" then _ else _)=_
                 rw[if_neg ne,e0]
                 rfl
   | _=>exact j0 (j0 (no sr rfl))
end
end Rh
set_option Elab.async false
set_option linter.all false
set_option maxRecDepth 100000
set_option maxHeartbeats 4000000
namespace Rh
open PySem L2 PyProof.Rows MPlay
def wx (b:Bool):En->Option Int
 | some (c,n)=>if b=c then some n else none
 | none=>none
def QH (b:Bool) (es:List En):List Int:=es.filterMap (wx b)
theorem J7 {b:Bool} {e:En} {n:Int}:wx b e=some n↔e=some (b,n):=by
 cases e with
 | none=>exact⟨λz=>(nomatch z),λz=>(nomatch z)⟩
 | some p=>
   obtain⟨c,m⟩:=p
   show (if b=c then some m else none)=some n↔_
   by_cases h:b=c
   . subst h
     rw[if_pos rfl]
     exact⟨λz=>by cases z;rfl,λz=>by cases z;rfl⟩
   . rw[if_neg h]
     exact⟨λz=>(nomatch z),λz=>by cases z;exact absurd rfl h⟩
theorem jx {b:Bool} {es:List En} {n:Int}:n∈QH b es↔some (b,n)∈es:=by
 unfold QH
 rw[List.mem_filterMap]
 exact⟨λ⟨e,h1,h2⟩=>by rw[J7]at h2;exact h2▸h1,λh=>⟨_,h,J7.mpr rfl⟩⟩
theorem zj {b:Bool}:∀{es:List En},(QH b es).length=es.length↔∀x∈es,∃m,x=some (b,m)
 | []=>⟨λ_ x h=>(nomatch h),λ_=>rfl⟩
 | e::es=>by
   have ih:=zj (b:=b) (es:=es)
   have le:(QH b es).length<=es.length:=List.length_filterMap_le _ _
   unfold QH at ih le ⊢
   rw[List.filterMap_cons]
   cases h:wx b e with
   | none=>
     refine⟨λz=>?_,λz=>?_⟩
     . rw[List.length_cons]at z
       have z:(List.filterMap (wx b) es).length=es.length+1:=z
       omega
     . obtain⟨m,q⟩:=z e List.mem_cons_self
       rw[J7.mpr q]at h
       cases h
   | some n=>
     rw[List.length_cons,List.length_cons]
     refine⟨λz x hx=>?_,λz=>?_⟩
     . rcases List.mem_cons.mp hx with rfl | hx
       . exact⟨n,J7.mp h⟩
       . exact ih.mp (by omega) x hx
     . have:=ih.mpr λx hx=>z x (List.mem_cons_of_mem _ hx)
       omega
theorem yd {us:List V} {es:List En} (h:us.length=es.length):(us.zip es).map (·.1)=us:=by
 rw[List.map_fst_zip (by omega)]
theorem WF (b:Bool):∀{us:List V} {es:List En},us.length=es.length->(us.zip es).filterMap (λx=>(wx b x.2).map V.int)=(QH b es).map V.int
 | [],[],_=>rfl
 | [],_::_,h=>by cases h
 | _::_,[],h=>by cases h
 | u::us,e::es,h=>by
   have ih:=WF b (us:=us) (es:=es) (Nat.succ.inj h)
   unfold QH at ih ⊢
   rw[List.zip_cons_cons,List.filterMap_cons,List.filterMap_cons,ih]
   cases wx b e<;>rfl
theorem zf {α β:Type} {R:α->β->Prop}:∀{xs:List α} {ys:List β},Paired R xs ys->∀x∈xs.zip ys,R x.1 x.2
 | _,_,.nil,x,h=>(nomatch h)
 | _,_,.cons r t,x,h=>by
   rw[List.zip_cons_cons]at h
   rcases List.mem_cons.mp h with rfl | h
   . exact r
   . exact zf t x h
def WI:En->Str
 | none=>"drawn"
 | some e=>qY e.1
theorem Qo (b:Bool) (e:En):decide (V.str (WI e)=V.str (qY b))=(wx b e).isSome:=by
 cases e with
 | none=>
   have:=wD b
   rw[decide_eq_false (λz=>by have z':=V.str.inj z;have z'':Str.ofString "drawn"=qY b:=z';rw[z'']at this;simp at this)]
   rfl
 | some p=>
   obtain⟨c,n⟩:=p
   show decide (V.str (qY c)=V.str (qY b))=Option.isSome (if b=c then some n else none)
   have:=x5 c b
   by_cases h:b=c
   . subst h
     rw[if_pos rfl]
     exact decide_eq_true rfl
   . rw[if_neg h]
     refine decide_eq_false λz=>?_
     rw[V.str.inj z,decide_eq_false (Ne.symm h)]at this
     simp at this
theorem qM.two {K:PySem.W.Frag} {H:Hp} {v:V} {e:En} (h:qM K H v e):∃p y,v=.ref p/\SqT K H p [.str (WI e),y]/\∀b n,e=some (b,n)->y=.int n:=by
 obtain⟨p,rfl,sq⟩:=h
 cases e with
 | none=>exact⟨p,.non,rfl,sq,λb n z=>nomatch z⟩
 | some e=>exact⟨p,.int e.2,rfl,sq,λb n z=>by cases z;rfl⟩
def WX (K:PySem.W.Frag):Sp:=λvs H Q _=>∃(v:V) (l:Addr) (e:En) (us:List V) (es:List En),vs=[v,.ref l]/\qM K H v e/\H l=some (.lst us)/\Paired (qM K H) us es/\us.length<=14/\
 ∀H' b,qu H H'->(b=true↔zX e es)->Q (.bl b) H'
theorem wE {K:PySem.W.Frag} {H:Hp}:∀{us:List V} {es:List En},Paired (qM K H) us es->DVs K H us (es.map dE)
 | _,_,.nil=>.nil
 | _,_,.cons h r=>.cons (k8 h) (wE r)
theorem wA:∀es:List En,PyData.canLayAll0 (es.map dE)=true
 | []=>rfl
 | e::es=>by
   show ((dE e).canLay0&&PyData.canLayAll0 (es.map dE))=true
   rw[wA es,PySem.SeqAt.canLay_of_shaped (Ky e)]
   rfl
theorem Gq (es:List En):((es.map dE).any λz=>PyData.eqv z (dE none))=decide ((none:En)∈es):=by
 rw[Bool.eq_iff_iff,List.any_eq_true,decide_eq_true_iff]
 constructor
 . rintro⟨z,hz,e⟩
   obtain⟨y,hy,rfl⟩:=List.mem_map.mp hz
   rw[wC]at e
   exact of_decide_eq_true e▸hy
 . intro h
   exact⟨_,List.mem_map.mpr ⟨_,h,rfl⟩,by rw[wC];exact decide_eq_true rfl⟩
section
variable {P:Program} {w:World} {K:PySem.W.Frag} {mg:Str->Option Value} {base:Heap}
abbrev nEF:List Str:=["entry","behind","lost","won"]
theorem w4:qJ nEF ["entry","behind"] (qt Zp):=⟨rfl,rfl,rfl,by decide+kernel,rfl,by decide+kernel,by decide+kernel⟩
theorem Zg {b:Bool} {l D:Addr} {us:List V} {es:List En} {H:Hp} {Q:Hp->Prop} (hD:H D=none) (hl:H l=some (.lst us)) (pr:Paired (qM K H) us es) (len:us.length<=40) (k:∀G,qu H G->G D=some (.lst ((QH b es).map V.int))->Q G):
   ZI (xW K l) (j9 0) (Zy (Ju wu (Ju (Q6 K) (qZ 0) (tC (.int 0))) (tC (.str (qY b))))) (Ju (Q6 K) (qZ 0) (tC (.int 1))) D [none] H Q:=by
 have le:=Paired.length pr
 refine QZ (K:=K) (a:=l) (xs:=us.zip es) (enc:=λx=>x.1) (out:=λx=>(wx b x.2).map V.int) (rest:=[]) hD (by rw[yd le];exact hl) (qp (by rw[List.length_zip];omega)) (λx hx Y sY Rr hR=>?_) (λx hx v ev Y sY Rr hR=>?_) (λG s hG=>k G s (by rw[WF b le]at hG;exact hG))
 . obtain⟨p,y,e1,sq,_⟩:=qM.two ((zf pr x hx).mono sY)
   rw[e1]
   refine⟨_,rfl,p,_,0,_,rfl,rfl,sq,rfl,rfl,_,rfl,?_⟩
   rw[Qo]
   have:=hR Y (qu.refl Y)
   rwa [Option.isSome_map]at this
 . obtain⟨p,y,e1,sq,hy⟩:=qM.two ((zf pr x hx).mono sY)
   rw[e1]
   obtain⟨n,en,rfl⟩:=Option.map_eq_some_iff.mp ev
   have:=hy _ _ (J7.mp en)
   subst this
   exact⟨_,rfl,p,_,1,_,rfl,rfl,sq,rfl,hR Y (qu.refl Y)⟩
theorem vN {f CG:Addr} {fd:FuncData} (F:Qw K "entry_fits" "entry_fits" Zp f fd) (B:JU mg) (M:GM K mg CG):qI P w K mg base ji 1 f fd ["entry","behind"] (WX K):=by
 obtain⟨aD,hmD,oD⟩:=M.dr
 refine F.okJ w4 (λvs H Q E h=>?_) (λcdv A outer s H vs Q E hr h=>?_)
 . obtain⟨v,l,e,us,es,rfl,_⟩:=h
   rfl
 . obtain⟨v,l,e,us,es,rfl,ev,hl,pr,len,q⟩:=h
   have hu:=jN hr
   have vQ:(["other"]:List Str).Nodup:=by decide+kernel
   refine⟨_,qg (Qr (i:=2) (N':=["other"]) (ix:=[none]) (tt:=Zy (Ju wu (Ju (Q6 K) (qZ 0) (tC (.int 0))) (tC (.str (qY false))))) (te:=Ju (Q6 K) (qZ 0) (tC (.int 1))) w4.nd rfl (Or.inl rfl) rfl ⟨rfl,rfl,rfl,rfl,rfl⟩ (qT (jv 1)) (λC s2 H2 fp pins=>
         ⟨qz (i:=0) vQ rfl (Or.inl rfl),j4 (qv jg (qH qK (jv 0) qh (λ_ _=>rfl)) qB (qr _)),qH qK (jv 0) qh (λ_ _=>rfl)⟩))
     (qg (Qr (i:=3) (N':=["other"]) (ix:=[none]) (tt:=Zy (Ju wu (Ju (Q6 K) (qZ 0) (tC (.int 0))) (tC (.str (qY true))))) (te:=Ju (Q6 K) (qZ 0) (tC (.int 1))) w4.nd rfl (Or.inl rfl) rfl ⟨rfl,rfl,rfl,rfl,rfl⟩ (qT (jv 1)) (λC s2 H2 fp pins=>
         ⟨qz (i:=0) vQ rfl (Or.inl rfl),j4 (qv jg (qH qK (jv 0) qh (λ_ _=>rfl)) qB (qr _)),qH qK (jv 0) qh (λ_ _=>rfl)⟩))
     (qg (qS (qv jg (qH qK (jv 0) qh (λ_ _=>rfl)) qB (qr _))
       (ql (qG (jS (qP jg (qo qx (by rfl) B.len boot_len (qb (jv 3) qe)) (qo qx (by rfl) B.len boot_len (qb (jv 1) qe)) (qr _))
         (Qh (qP jg (qH qK (jv 0) qh (λ_ _=>rfl)) (qQ jX qh (xw rfl (by rfl) B.max (jv 3) (Yl Zk qh))) (qr _)))))) qA)
     (qg (qS (qv jg (qH qK (jv 0) qh (λ_ _=>rfl)) qB (qr _))
       (ql (qG (jS (qP Ye (qo qx (by rfl) B.len boot_len (qb (jv 2) qe)) qh (qr _))
         (Qh (qP jg (qH qK (jv 0) qh (λ_ _=>rfl)) (qQ jX qh (qo (Ut rfl) (by rfl) B.min boot_min (qb (jv 2) qe))) (qr _)))))) qA)
     (ql (qG (jS (qP jg (qo qx (by rfl) B.len boot_len (qb (jv 2) qe)) qh (qr _))
         (Qh (qP (um hr.units) (Jq (v:=.ref aD) (by rfl) hmD rfl) (jv 1) (by with_unfolding_all rfl))))))))),?_⟩
   obtain⟨p,y,rfl,sq,hy⟩:=ev.two
   refine⟨_,rfl,l,rfl,⟨_,.of hl⟩,λD1 hD1=>?_⟩
   refine Zg hD1 hl pr (by omega) λG1 s1 hG1=>?_
   have pm:∀{G:Hp},qu H G->Paired (qM K G) us es:=λs=>Paired.mapP pr λ_ _ h=>h.mono s
   refine⟨_,rfl,l,rfl,⟨_,.of (s1 _ _ hl)⟩,λD2 hD2=>Zg hD2 (s1 _ _ hl) (pm s1) (by omega) λG2 s2 hG2=>?_⟩
   have s12:=s1.trans s2
   have hL:=s2 _ _ hG1
   have hl2:=s12 _ _ hl
   have sq2:=sq.mono s12
   have le:=Paired.length pr
   refine⟨_,rfl,p,_,0,_,rfl,rfl,sq2,rfl,rfl,_,rfl,?_⟩
   have eqI:∀i j:Int,decide (V.int i=V.int j)=decide (i=j):=λi j=>decide_eq_decide.mpr ⟨V.int.inj,λz=>by rw[z]⟩
   rcases e with _ | ⟨b,n⟩
   . refine QU (Qo false none) ⟨_,rfl,p,_,0,_,rfl,rfl,sq2,rfl,rfl,_,rfl,QU (Qo true none) ?_⟩
     refine⟨_,rfl,D1,_,rfl,.inl (.of hL),rfl,_,rfl,?_⟩
     rw[eqI,List.length_map]
     have z0:(((QH false es).length:Nat):Int)=0↔∀m,some (false,m)∉es:=by
       refine⟨λz m hm=>?_,λz=>?_⟩
       . have:=jx.mpr hm
         rw[List.eq_nil_of_length_eq_zero (by omega:(QH false es).length=0)]at this
         cases this
       . have:QH false es=[]:=List.eq_nil_iff_forall_not_mem.mpr λm hm=>z m (jx.mp hm)
         rw[this]
         rfl
     refine jL (λc=>?_) (λc=>?_)
     . refine⟨_,rfl,dE none,es.map dE,k8 ⟨aD,rfl,.inr oD⟩,.lst (.of hl2) (wE (pm s12)),PySem.SeqAt.canLay_of_shaped (Ky none),wA es,by show 1<=40;decide,?_⟩
       refine q _ _ s12 ?_
       rw[if_neg (by decide),Gq,decide_eq_true_iff]
       exact⟨λh=>⟨z0.mp (of_decide_eq_true c),h⟩,λh=>h.2⟩
     . refine q _ _ s12 ⟨λz=>(nomatch z),λh=>absurd (decide_eq_true (z0.mpr h.1)) c⟩
   . cases hy b n rfl
     cases b with
     | false=>
       refine ZR (Qo false _) ⟨_,rfl,D2,_,rfl,.inl (.of hG2),_,rfl,l,_,rfl,.inl (.of hl2),rfl,_,rfl,?_⟩
       rw[eqI,List.length_map]
       have z1:(((QH true es).length:Nat):Int)=(us.length:Nat)↔∀x∈es,∃m,x=some (true,m):=by
         rw[<-zj]
         omega
       refine jL (λc=>?_) (λc=>?_)
       . have c:=z1.mp (of_decide_eq_true c)
         refine⟨_,rfl,p,_,1,_,rfl,rfl,sq2,rfl,_,rfl,1,rfl,D2,QH true es,-1,rfl,rfl,.of hG2,λnil=>⟨_,_,rfl,rfl,rfl,?_⟩,λm hm mx=>⟨_,_,rfl,rfl,rfl,?_⟩⟩
         . refine q _ _ s12 ?_
           rw[eqI,decide_eq_true_iff]
           have e0:es=[]:=by
             refine List.eq_nil_iff_forall_not_mem.mpr λx hx=>?_
             obtain⟨m,rfl⟩:=c x hx
             have:=jx.mpr hx
             rw[nil]at this
             cases this
           subst e0
           exact⟨λz=>⟨λx hx=>(nomatch hx),.inl ⟨by omega,rfl⟩⟩,λh=>h.2.elim (λh=>by omega) λh=>(nomatch h)⟩
         . refine q _ _ s12 ?_
           rw[eqI,decide_eq_true_iff]
           refine⟨λz=>⟨λx hx=>?_,.inr ?_⟩,λh=>?_⟩
           . obtain⟨k,rfl⟩:=c x hx
             exact⟨k,rfl,by have:=mx k (jx.mpr hx);omega⟩
           . rw[show n - 1=m by omega]
             exact jx.mp hm
           . obtain⟨k,ek,le'⟩:=h.1 _ (jx.mp hm)
             cases ek
             rcases h.2 with ⟨_,h2⟩ | h2
             . have:=jx.mp hm
               rw[h2]at this
               cases this
             . have:=mx _ (jx.mpr h2)
               omega
       . exact q _ _ s12 ⟨λz=>(nomatch z),λh=>absurd (decide_eq_true (z1.mpr λx hx=>let ⟨m,e,_⟩:=h.1 x hx;⟨m,e⟩)) c⟩
     | true=>
       refine QU (Qo false _) ⟨_,rfl,p,_,0,_,rfl,rfl,sq2,rfl,rfl,_,rfl,ZR (Qo true _) ?_⟩
       refine⟨_,rfl,D1,_,rfl,.inl (.of hL),_,_,rfl,rfl,_,rfl,?_⟩
       rw[List.length_map]
       refine jL (λc=>?_) (λc=>?_)
       . have c:=of_decide_eq_true c
         refine⟨_,rfl,p,_,1,_,rfl,rfl,sq2,rfl,_,rfl,D1,QH false es,rfl,.of hL,by omega,λm hm mn=>⟨_,_,rfl,rfl,rfl,?_⟩⟩
         refine q _ _ s12 ?_
         rw[eqI,decide_eq_true_iff]
         refine⟨λz=>⟨?_,λk hk=>?_⟩,λh=>?_⟩
         . rw[show n - 1=m by omega]
           exact jx.mp hm
         . have:=mn k (jx.mpr hk)
           omega
         . have a:=h.2 _ (jx.mp hm)
           have b:=mn _ (jx.mpr h.1)
           omega
       . refine q _ _ s12 ⟨λz=>(nomatch z),λh=>absurd (decide_eq_true ?_) c⟩
         have:=List.length_pos_of_mem (jx.mpr h.1)
         omega
end
end Rh
set_option Elab.async false
set_option linter.all false
set_option maxRecDepth 100000
set_option maxHeartbeats 4000000
namespace Rh
open PySem L2 PyProof.Rows MPlay
theorem Yg {z:Str} (h:jo z=true):PyData.strOk z=true:=by
 unfold jo at h
 simp only[Bool.and_eq_true]at h
 unfold PyData.strOk
 have h2:=h.2
 rw[<-Array.all_toList,List.all_eq_true]at*
 intro c hc
 have:=h2 c hc
 unfold jy at this
 simp only[Bool.and_eq_true,decide_eq_true_eq]at this ⊢
 omega
inductive Pl (P:Program) (w:World) (K:PySem.W.Frag) (H:Hp) (rs:jF):V->Bool->Prop
 | dat {v:V} {d:PyData}:DV K H v d->Pl P w K H rs v false
 | dk {D:Addr} {kvs:List (qw×V)}:Rd H D (.dK kvs)->Pl P w K H rs (.ref D) (decide (kvs.length=rs.length)&&rs.all λr=>(qD kvs (Sum.inr r.1)).isSome)
 | odd {D:Addr} {ks:List OV}:OddAt P w K H D ks->Pl P w K H rs (.ref D) (decide (ks.length=rs.length)&&rs.all λr=>QV ks (.s r.1))
def wj (P:Program) (w:World) (K:PySem.W.Frag) (CG:Addr):Sp:=λvs H Q _=>∃(g:Addr) (v:V) (rs:jF) (b:Bool),vs=[.ref g,v]/\Q8 CG H g rs/\qO rs/\rs.length<=14/\Pl P w K H rs v b/\∀H',qu H H'->Q (.bl b) H'
theorem _root_.L2.OddAt.mono {P:Program} {w:World} {K:PySem.W.Frag} {H H':Hp} {a:Addr} {ks:List OV} (h:OddAt P w K H a ks) (s:qu H H'):OddAt P w K H' a ks:=⟨s _ _ h.1,λx hx=>(h.2 x hx).mono λb o e _=>s b o e⟩
theorem Ge {K:PySem.W.Frag} {H:Hp} {v:V} {d:PyData} (h:DV K H v d):XJ (yh d) "dict"=false:=by cases h<;>rfl
theorem Jr {α β:Type} (f:α->β) (l:List α):l.filterMap (λx=>some (f x))=l.map f:=by
 exact congrFun (List.filterMap_eq_map (f:=f)) l
theorem K4:XJ "dict" "dict"=true:=by decide
section
variable {P:Program} {w:World} {K:PySem.W.Frag} {mg:Str->Option Value} {base:Heap}
abbrev nID:List Str:=["ground","thing","order"]
theorem KA:qJ nID ["ground","thing"] (qt U1):=⟨rfl,rfl,rfl,by decide+kernel,rfl,by decide+kernel,by decide+kernel⟩
abbrev KH (P:Program) (w:World) (K:PySem.W.Frag) (neg:Bool):R2:=λx y H Q=>uc neg x y H Q\/ub P w K neg x y H Q
theorem ut {f CG:Addr} {fd:FuncData} (F:Qw K "is_dict_of_places" "is_dict_of_places" U1 f fd) (B:JU mg) (G:Q7 mg) (T:ZL K mg) (A':mg "all"=none) (M:GM K mg CG):qI P w K mg base ji 2 f fd ["ground","thing"] (wj P w K CG):=by
 obtain⟨fI,fdI,C⟩:=M.cls
 obtain⟨fM,fdM,hM⟩:=M.nm
 have GM:qI P w K mg base ji 1 fM fdM ["self"] (Jb CG):=Jo hM.fn C G
 refine F.okJ KA (λvs H Q E h=>?_) (λcdv A outer s H vs Q E hr h=>?_)
 . obtain⟨g,v,rs,b,rfl,_⟩:=h
   rfl
 . obtain⟨g,v,rs,b,rfl,gr,good,le14,pl,q⟩:=h
   have hu:=jN hr
   refine⟨_,qg (qC (i:=2) KA.nd rfl (Or.inl rfl) (XI hM C.cl GM hr (jv 0)))
     (qg (qS (JW.pt (Qi (jG (jr (qo (jB.or (zN.or zO)) (by rfl) T.isi boot_isinstance (qb (jv 1) (qb (jI (v:=.ty "dict") (by rfl) T.dict boot_dict rfl) qe)))))
       (jR (qv Xz (qo (Yt.or Yu) (by rfl) B.len boot_len (qb (jv 1) qe)) (qo qx (by rfl) B.len boot_len (qb (jv 2) qe)) (qr _))))) (ql (qG jw)) qA)
     (ql (qG (qo (QL rfl) (by rfl) A' boot_all (qb (Qs (N':=["name","thing"]) (ix:=[none,some 1]) (te:=Ju (KH P w K false) (qZ 0) (qZ 1)) rfl ⟨rfl,rfl,rfl,rfl,rfl⟩ (qT (jv 2)) (λC s2 H2 fp pins=>
       ⟨qz (i:=0) (show (["name","thing"]:List Str).Nodup by decide+kernel) rfl (Or.inl rfl),jQ,qP ((ul hu).or (uk hr.units)) (jv 0) (jv 1) (by with_unfolding_all rfl)⟩)) qe))))),?_⟩
   obtain⟨dx,fs,hg,l1,l2⟩:=gr.ins
   refine⟨_,rfl,g,dx,fs,rfl,hg,l1,g,rs,rfl,gr,λln hln=>?_⟩
   have s1:qu H (upd H ln (.lst ((rs.map (·.1)).map V.str))):=qj hln
   have hl1:upd H ln (.lst ((rs.map (·.1)).map V.str)) ln=some (.lst ((rs.map (·.1)).map V.str)):=qd
   generalize upd H ln (.lst ((rs.map (·.1)).map V.str))=H1 at s1 hl1
   have lnN:((rs.map (·.1)).map V.str).length=rs.length:=by rw[List.length_map,List.length_map]
   have kd:=T.kit "dict" (by simp [X4]) "dict" (by simp)
   rw[K4]at kd
   refine⟨_,rfl,?_⟩
   cases pl with
   | dat dv=>
     rename_i d
     refine .inl ⟨_,_,d,_,rfl,dv.mono s1,T.at d,_,rfl,?_⟩
     rw[Ge dv]
     exact j0 (j0 (q _ s1))
   | dk hD=>
     rename_i D kvs
     refine .inr (.inl ⟨D,kvs,_,_,rfl,hD.mono s1,kd,_,rfl,jm ⟨_,rfl,.inl ⟨D,kvs,rfl,hD.mono s1,_,rfl,ln,_,rfl,.inl (.of hl1),rfl,_,rfl,?_⟩⟩⟩)
     rw[lnN]
     refine jL (λc=>?_) (λc=>?_)
     . have ne:¬kvs.length=rs.length:=λz=>by rw[z]at c;simp at c
       have:=q _ s1
       rw[decide_eq_false ne]at this
       exact this
     . have eq:kvs.length=rs.length:=Classical.byContradiction λz=>c (by rw[decide_eq_false (λy=>z (by have:=V.int.inj y;omega))];rfl)
       refine⟨_,rfl,ln,rfl,⟨_,.of hl1⟩,λD2 hD2=>?_⟩
       refine QZ (K:=K) (a:=ln) (xs:=rs.map (·.1)) (enc:=V.str) (out:=λz=>some (V.bl ((qD kvs (Sum.inr z)).isSome))) (rest:=[some (.ref D)]) hD2 hl1 (qp (by rw[List.length_map];omega)) (λz hz Y sY Rr hR=>hR Y (qu.refl Y)) (λz hz v ev Y sY Rr hR=>?_) (λG sG hG=>?_)
       . cases ev
         exact⟨_,rfl,_,rfl,.inl ⟨D,_,rfl,jC.r (k:=(Sum.inr z:qw)) ((hD.mono s1).mono sY),hR Y (qu.refl Y)⟩⟩
       . refine⟨D2,rs.map λr=>(qD kvs (Sum.inr r.1)).isSome,rfl,.of (by rw[hG,Jr,List.map_map,List.map_map];rfl),?_⟩
         have:=q _ (s1.trans sG)
         rw[decide_eq_true eq,Bool.true_and]at this
         rw[List.all_map]
         exact this
   | odd od=>
     rename_i D ks
     refine .inr (.inr ⟨D,ks,_,_,rfl,od.mono s1,kd,_,rfl,jm ⟨_,rfl,.inr ⟨D,ks,rfl,od.mono s1,_,rfl,ln,_,rfl,.inl (.of hl1),rfl,_,rfl,?_⟩⟩⟩)
     rw[lnN]
     refine jL (λc=>?_) (λc=>?_)
     . have ne:¬ks.length=rs.length:=λz=>by rw[z]at c;simp at c
       have:=q _ s1
       rw[decide_eq_false ne]at this
       exact this
     . have eq:ks.length=rs.length:=Classical.byContradiction λz=>c (by rw[decide_eq_false (λy=>z (by have:=V.int.inj y;omega))];rfl)
       refine⟨_,rfl,ln,rfl,⟨_,.of hl1⟩,λD2 hD2=>?_⟩
       refine QZ (K:=K) (a:=ln) (xs:=rs.map (·.1)) (enc:=V.str) (out:=λz=>some (V.bl (QV ks (.s z)))) (rest:=[some (.ref D)]) hD2 hl1 (qp (by rw[List.length_map];omega)) (λz hz Y sY Rr hR=>hR Y (qu.refl Y)) (λz hz v ev Y sY Rr hR=>?_) (λG sG hG=>?_)
       . cases ev
         exact⟨_,rfl,_,rfl,.inr ⟨D,z,ks,rfl,rfl,Yg (let ⟨r,hr',e⟩:=List.mem_map.mp hz;e▸good.nm r hr'),(od.mono s1).mono sY,hR Y (qu.refl Y)⟩⟩
       . refine⟨D2,rs.map λr=>QV ks (.s r.1),rfl,.of (by rw[hG,Jr,List.map_map,List.map_map];rfl),?_⟩
         have:=q _ (s1.trans sG)
         rw[decide_eq_true eq,Bool.true_and]at this
         rw[List.all_map]
         exact this
end
end Rh
set_option Elab.async false
set_option linter.all false
set_option maxRecDepth 100000
set_option maxHeartbeats 4000000
namespace Rh
open PySem L2 PyProof.Rows MPlay
def wU (K:PySem.W.Frag) (CG:Addr):Sp:=λvs H Q _=>∃(g D:Addr) (rs:jF) (r:Str×List Str) (kvs:List (qw×V)) (f:Str->En),vs=[.ref g,.ref D,.str r.1]/\Q8 CG H g rs/\qO rs/\rs.length<=14/\r∈rs/\Rd H D (.dK kvs)/\(∀r'∈rs,∃v,qD kvs (Sum.inr r'.1)=some v/\qM K H v (f r'.1))/\
 ∀H' b,qu H H'->(b=true↔zX (f r.1) ((zT rs r.1).map f))->Q (.bl b) H'
def Jg (f:Str->PyData) (z:Str):En:=(jO (f z)).getD none
def kZ (rs:jF) (f:Str->PyData):Prop:=(∀r∈rs,(jO (f r.1)).isSome=true)/\∀r∈rs,zX (Jg f r.1) ((zT rs r.1).map (Jg f))
def zR (K:PySem.W.Frag) (H:Hp) (kvs:List (qw×V)) (rs:jF) (f:Str->PyData):Prop:=∀r∈rs,∃v,qD kvs (Sum.inr r.1)=some v/\DV K H v (f r.1)/\(f r.1).canLay0=true/\(f r.1).depth<=40
theorem kM {K:PySem.W.Frag} {H:Hp} {v:V} {d:PyData} {e:En} (h:DV K H v d) (ed:jO d=some e):qM K H v e:=by
 obtain⟨rfl,_⟩:=Jf ed
 cases e with
 | none=>
   cases h with
   | tup sq hs=>
     cases hs with
     | cons h0 hs=>cases hs with
       | cons h1 hs=>cases hs;cases h0;cases h1;exact⟨_,rfl,sq⟩
 | some p=>
   cases h with
   | tup sq hs=>
     cases hs with
     | cons h0 hs=>cases hs with
       | cons h1 hs=>cases hs;cases h0;cases h1;exact⟨_,rfl,sq⟩
def YG (P:Program) (w:World) (K:PySem.W.Frag) (CG:Addr):Sp:=λvs H Q _=>∃(g:Addr) (v:V) (rs:jF),vs=[.ref g,v]/\Q8 CG H g rs/\qO rs/\rs.length<=14/\((Pl P w K H rs v false/\∀H',qu H H'->Q (.bl false) H')\/
 ∃D kvs f,v=.ref D/\Rd H D (.dK kvs)/\kvs.length=rs.length/\zR K H kvs rs f/\∀H' b,qu H H'->(b=true↔kZ rs f)->Q (.bl b) H')
section
variable {P:Program} {w:World} {K:PySem.W.Frag} {mg:Str->Option Value} {base:Heap}
abbrev u6:List Str:=["ground","told","name"]
theorem Rl:qJ u6 u6 (qt Z3):=⟨rfl,rfl,rfl,by decide+kernel,rfl,by decide+kernel,by decide+kernel⟩
theorem vF {f CG fE:Addr} {fd fdE:FuncData} (F:Qw K "place_fits" "place_fits" Z3 f fd) (B:JU mg) (G:Q7 mg) (T:JQ K mg) (M:GM K mg CG) (hE:jT K mg "entry_fits" Zp ["entry","behind"] fE fdE):qI P w K mg base ji 3 f fd u6 (wU K CG):=by
 obtain⟨fI,fdI,C⟩:=M.cls
 obtain⟨fR,fdR,hR⟩:=M.fr
 obtain⟨fN,fdN,hN⟩:=M.isn
 have GR:qI P w K mg base ji 2 fR fdR ["self","name"] (YH CG):=XC hR.fn C B G T hN
 have GE:qI P w K mg base ji 1 fE fdE ["entry","behind"] (WX K):=vN hE.fn B M
 refine F.okJ Rl (λvs H Q E h=>?_) (λcdv A outer s H vs Q E hr h=>?_)
 . obtain⟨g,D,rs,r,kvs,f,rfl,_⟩:=h
   rfl
 . obtain⟨g,D,rs,r,kvs,f,rfl,gr,good,le14,hr',hD,ent,q⟩:=h
   have hu:=jN hr
   refine⟨_,ql (qG (qX hE GE (hr.mono (by decide)) (by rfl) (qb (jA hu (jv 1) (jv 2) (λ_ _=>rfl)) (qb (Qs (N':=["end","told"]) (ix:=[none,some 1]) (te:=Xo (qZ 1) (qZ 0)) rfl ⟨rfl,rfl,rfl,rfl,rfl⟩ (qT (wB hR C.cl GR hr (jv 0) (qb (jv 2) qe))) (λC s2 H2 fp pins=>
       ⟨qz (i:=0) (show (["end","told"]:List Str).Nodup by decide+kernel) rfl (Or.inl rfl),jQ,jA hu (jv 1) (jv 0) (λ_ _=>rfl)⟩)) qe)))),?_⟩
   obtain⟨v0,e0,E0'⟩:=ent r hr'
   have g0:=jC.r (k:=(Sum.inr r.1:qw)) hD
   rw[e0]at g0
   obtain⟨dx,fs,hg,l1,l2⟩:=gr.ins
   refine⟨_,rfl,_,rfl,D,v0,rfl,g0,_,rfl,g,dx,fs,rfl,hg,l2,_,rfl,g,rs,r,rfl,gr,hr',good.nm r hr',λH1 le s1 hle=>?_⟩
   have s2:qu H (upd H1 le (.lst ((jt rs r).map V.str))):=s1.trans (qj hle)
   have hl2:upd H1 le (.lst ((jt rs r).map V.str)) le=some (.lst ((jt rs r).map V.str)):=qd
   generalize upd H1 le (.lst ((jt rs r).map V.str))=H2 at s2 hl2
   refine⟨le,rfl,⟨_,.of hl2⟩,λW hW=>?_⟩
   have vf:∃vf:Str->V,∀z∈jt rs r,qD kvs (Sum.inr z)=some (vf z)/\qM K H (vf z) (f z):=by
     refine⟨λz=>(qD kvs (Sum.inr z)).getD .non,λz hz=>?_⟩
     obtain⟨r1,h1,rfl⟩:=zc hz
     obtain⟨v1,e1,E1⟩:=ent r1 h1
     have e2:(qD kvs (Sum.inr r1.1)).getD .non=v1:=by rw[e1];rfl
     exact⟨by show _=some ((qD kvs (Sum.inr r1.1)).getD .non);rw[e2];exact e1,by show qM K H ((qD kvs (Sum.inr r1.1)).getD .non) _;rw[e2];exact E1⟩
   obtain⟨vf,hvf⟩:=vf
   refine QZ (K:=K) (a:=le) (xs:=jt rs r) (enc:=V.str) (out:=λz=>some (vf z)) (rest:=[some (.ref D)]) hW hl2 (qp (Nat.le_trans (Wj r) (by omega))) (λz hz Y sY Rr hR=>hR Y (qu.refl Y)) (λz hz v ev Y sY Rr hR=>?_) (λG sG hG=>?_)
   . cases ev
     have gz:=jC.r (k:=(Sum.inr z:qw)) ((hD.mono s2).mono sY)
     rw[(hvf z hz).1]at gz
     exact⟨_,rfl,_,rfl,D,vf z,rfl,gz,hR Y (qu.refl Y)⟩
   . rw[Jr]at hG
     refine⟨v0,W,f r.1,(jt rs r).map vf,(jt rs r).map f,rfl,E0'.mono (s2.trans sG),hG,?_,by rw[List.length_map];exact Nat.le_trans (Wj r) le14,λH' b s' hb=>q _ b ((s2.trans sG).trans s') ?_⟩
     . have:∀l:List Str,(∀z∈l,qM K H (vf z) (f z))->Paired (qM K G) (l.map vf) (l.map f):=λl=>by
         induction l with
         | nil=>exact λ_=>.nil
         | cons z l ih=>exact λh=>.cons ((h z List.mem_cons_self).mono (s2.trans sG)) (ih λy hy=>h y (List.mem_cons_of_mem _ hy))
       exact this _ λz hz=>(hvf z hz).2
     . rw[Zc good.nd hr']
       exact hb
abbrev uz:List Str:=["ground","told"]
theorem Rk:qJ uz uz (qt Z0):=⟨rfl,rfl,rfl,by decide+kernel,rfl,by decide+kernel,by decide+kernel⟩
theorem vB {f CG fD fE fF fP fW:Addr} {fd fdD fdE fdF fdP fdW:FuncData} (F:Qw K "shows_single" "shows_single" Z0 f fd) (B:JU mg) (G:Q7 mg) (T:JQ K mg) (TI:ZL K mg) (M:GM K mg CG) (hD:jT K mg "is_dict_of_places" U1 ["ground","thing"] fD fdD)
   (hW:jT K mg "is_whole" Zn ["thing"] fW fdW) (hE:jT K mg "is_entry" Z8 ["thing"] fE fdE) (hF:jT K mg "entry_fits" Zp ["entry","behind"] fF fdF) (hP:jT K mg "place_fits" Z3 u6 fP fdP):qI P w K mg base ji 4 f fd uz (YG P w K CG):=by
 obtain⟨fI,fdI,C⟩:=M.cls
 obtain⟨fM,fdM,hM⟩:=M.nm
 have GM:qI P w K mg base ji 1 fM fdM ["self"] (Jb CG):=Jo hM.fn C G
 have GD:qI P w K mg base ji 2 fD fdD ["ground","thing"] (wj P w K CG):=ut hD.fn B G TI T.all M
 have GE:qI P w K mg base ji 2 fE fdE ["thing"] (Jl K):=vK hE.fn B TI hW
 have GP:qI P w K mg base ji 3 fP fdP u6 (wU K CG):=vF hP.fn B G T M hF
 refine F.okJ Rk (λvs H Q E h=>?_) (λcdv A outer s H vs Q E hr h=>?_)
 . obtain⟨g,v,rs,rfl,_⟩:=h
   rfl
 . obtain⟨g,v,rs,rfl,gr,good,le14,h⟩:=h
   have hu:=jN hr
   have r1:jq 1 _:=hr.mono (by decide)
   have r2:jq 2 _:=hr.mono (by decide)
   refine⟨_,qg (qS (jG (jr (qX hD GD r2 (by rfl) (qb (jv 0) (qb (jv 1) qe))))) (ql (qG jw)) qA)
     (qg (qS (jG (jr (qo (QL rfl) (by rfl) T.all boot_all (qb (Qs (N':=["name","told"]) (ix:=[none,some 1]) (te:=z8 (Jl K) [] E0 (ju (Xo (qZ 1) (qZ 0)) QN)) rfl ⟨rfl,rfl,rfl,rfl,rfl⟩ (qT (XI hM C.cl GM r1 (jv 0))) (λC s2 H2 fp pins=>
       ⟨qz (i:=0) (show (["name","told"]:List Str).Nodup by decide+kernel) rfl (Or.inl rfl),jQ,qX hE GE r2 (by rfl) (qb (jA hu (jv 1) (jv 0) (λ_ _=>rfl)) qe)⟩)) qe)))) (ql (qG jw)) qA)
     (ql (qG (qo (QL rfl) (by rfl) T.all boot_all (qb (Qs (N':=["name","ground","told"]) (ix:=[none,some 0,some 1]) (te:=z8 (wU K CG) [] E0 (ju (qZ 1) (ju (qZ 2) (ju (qZ 0) QN)))) rfl ⟨rfl,rfl,rfl,rfl,rfl⟩ (qT (XI hM C.cl GM r1 (jv 0))) (λC s2 H2 fp pins=>
       ⟨qz (i:=0) (show (["name","ground","told"]:List Str).Nodup by decide+kernel) rfl (Or.inl rfl),jQ,qX hP GP hr (by rfl) (qb (jv 1) (qb (jv 2) (qb (jv 0) qe)))⟩)) qe))))),?_⟩
   rcases h with ⟨pl,q⟩ | ⟨D,kvs,f,rfl,hDk,len,dat,q⟩
   . exact⟨_,rfl,_,rfl,g,v,rs,false,rfl,gr,good,le14,pl,λH' s'=>⟨_,rfl,j0 (q _ s')⟩⟩
   . have eb:(decide (kvs.length=rs.length)&&rs.all λr=>(qD kvs (Sum.inr r.1)).isSome)=true:=by
       rw[decide_eq_true len,Bool.true_and,List.all_eq_true]
       intro r hr'
       obtain⟨v,e,_⟩:=dat r hr'
       rw[e]
       rfl
     have pl:Pl P w K H rs (.ref D) true:=by
       have:=Pl.dk (P:=P) (w:=w) (K:=K) (rs:=rs) hDk
       rwa [eb]at this
     refine⟨_,rfl,_,rfl,g,.ref D,rs,true,rfl,gr,good,le14,pl,λH1 s1=>⟨_,rfl,jm ?_⟩⟩
     obtain⟨dx,fs,hg,l1,l2⟩:=gr.ins
     have fz:∀z∈rs.map (·.1),∃v,qD kvs (Sum.inr z)=some v/\DV K H v (f z)/\(f z).canLay0=true/\(f z).depth<=40:=λz hz=>by
       obtain⟨r,hr',rfl⟩:=List.mem_map.mp hz
       exact dat r hr'
     refine⟨_,rfl,g,dx,fs,rfl,s1 _ _ hg,l1,g,rs,rfl,gr.mono s1,λln hln=>⟨ln,rfl,⟨_,.of qd⟩,λW hW=>?_⟩⟩
     have s2:qu H (upd H1 ln (.lst ((rs.map (·.1)).map V.str))):=s1.trans (qj hln)
     have hl2:upd H1 ln (.lst ((rs.map (·.1)).map V.str)) ln=some (.lst ((rs.map (·.1)).map V.str)):=qd
     generalize upd H1 ln (.lst ((rs.map (·.1)).map V.str))=H2 at s2 hl2 hW
     refine QZ (K:=K) (a:=ln) (xs:=rs.map (·.1)) (enc:=V.str) (out:=λz=>some (V.bl (jO (f z)).isSome)) (rest:=[some (.ref D)]) hW hl2 (qp (by rw[List.length_map];omega)) (λz hz Y sY Rr hR=>hR Y (qu.refl Y)) (λz hz v ev Y sY Rr hR=>?_) (λG3 s3 hG=>?_)
     . cases ev
       obtain⟨v,e,dv,c1,c2⟩:=fz z hz
       have gz:=jC.r (k:=(Sum.inr z:qw)) ((hDk.mono s2).mono sY)
       rw[e]at gz
       exact⟨_,rfl,_,rfl,D,v,rfl,gz,v,f z,rfl,dv.mono (s2.trans sY),c1,c2,λH' s'=>hR H' s'⟩
     . have s3:=s2.trans s3
       refine⟨W,rs.map λr=>(jO (f r.1)).isSome,rfl,.of (by rw[hG,Jr,List.map_map,List.map_map];rfl),_,rfl,?_⟩
       rw[List.all_map]
       refine jL (λc=>?_) (λc=>?_)
       . refine q _ false s3 ⟨λz=>(nomatch z),λgd=>?_⟩
         have:(rs.all (id ∘ λr=>(jO (f r.1)).isSome))=true:=List.all_eq_true.mpr λr hr'=>gd.1 r hr'
         rw[this]at c
         cases c
       . have all:∀r∈rs,(jO (f r.1)).isSome=true:=by
           cases z:rs.all (id ∘ λr=>(jO (f r.1)).isSome) with
           | true=>exact λr hr'=>List.all_eq_true.mp z r hr'
           | false=>exact absurd (by rw[z];rfl) c
         have ez:∀r∈rs,∃v,qD kvs (Sum.inr r.1)=some v/\qM K H v (Jg f r.1):=λr hr'=>by
           obtain⟨v,e,dv,_⟩:=dat r hr'
           obtain⟨en,ee⟩:=Option.isSome_iff_exists.mp (all r hr')
           refine⟨v,e,?_⟩
           unfold Jg
           rw[ee]
           exact kM dv ee
         refine⟨_,rfl,g,dx,fs,rfl,s3 _ _ hg,l1,g,rs,rfl,gr.mono s3,λln' hln'=>⟨ln',rfl,⟨_,.of qd⟩,λW' hW'=>?_⟩⟩
         have s4:qu H (upd G3 ln' (.lst ((rs.map (·.1)).map V.str))):=s3.trans (qj hln')
         have hl4:upd G3 ln' (.lst ((rs.map (·.1)).map V.str)) ln'=some (.lst ((rs.map (·.1)).map V.str)):=qd
         generalize upd G3 ln' (.lst ((rs.map (·.1)).map V.str))=H4 at s4 hl4 hW'
         classical
         refine QZ (K:=K) (a:=ln') (xs:=rs) (enc:=λr=>V.str r.1) (out:=λr=>some (V.bl (decide (zX (Jg f r.1) ((zT rs r.1).map (Jg f)))))) (rest:=[some (.ref g),some (.ref D)]) hW' (by rw[hl4,List.map_map];rfl) (qp (by omega)) (λz hz Y sY Rr hR=>hR Y (qu.refl Y)) (λr hr' v ev Y sY Rr hR=>?_) (λG5 s5 hG=>?_)
         . cases ev
           refine⟨_,rfl,_,rfl,_,rfl,g,D,rs,r,kvs,Jg f,rfl,gr.mono (s4.trans sY),good,le14,hr',(hDk.mono s4).mono sY,λr' h'=>let ⟨v,a,b⟩:=ez r' h';⟨v,a,b.mono (s4.trans sY)⟩,λH' b s' hb=>?_⟩
           have:=hR H' s'
           rwa [show decide (zX (Jg f r.1) ((zT rs r.1).map (Jg f)))=b from by rw[Bool.eq_iff_iff,decide_eq_true_iff];exact hb.symm]at this
         . refine⟨W',rs.map λr=>decide (zX (Jg f r.1) ((zT rs r.1).map (Jg f))),rfl,.of (by rw[hG,Jr,List.map_map];rfl),q _ _ (s4.trans s5) ?_⟩
           rw[List.all_map,List.all_eq_true]
           exact⟨λh=>⟨all,λr hr'=>of_decide_eq_true (h r hr')⟩,λh r hr'=>decide_eq_true (h.2 r hr')⟩
end
end Rh
set_option Elab.async false
set_option linter.all false
set_option maxRecDepth 100000
set_option maxHeartbeats 4000000
namespace Rh
open PySem L2 PyProof.Rows MPlay
abbrev ZZ:Stmt:=top 39
abbrev Z2:Stmt:=top 40
abbrev ZP:Stmt:=top 41
abbrev Z4:Stmt:=top 42
abbrev YL:Stmt:=top 43
abbrev YN:Stmt:=top 44
abbrev WZ:Stmt:=top 45
def GV:List PyData:=[.str (Str.ofString "lost"),.str (Str.ofString "won"),.str (Str.ofString "drawn")]
def GY:PyData->Bool
 | .str w=>(WK w).isSome || decide (w=Str.ofString "drawn")
 | _=>false
theorem xD {d:PyData} (h:GY d=true):∃w,d=.str w:=by cases d<;>first | exact⟨_,rfl⟩ | cases h
theorem uS {d e:PyData} (h:GY d=false):(jO (.tuple [d,e])).isSome=false:=by
 rcases UN d with ⟨w,rfl⟩ | z
 . have h:((WK w).isSome || decide (w=Str.ofString "drawn"))=false:=h
   rw[Bool.or_eq_false_iff]at h
   have e0:WK w=none:=by simpa using h.1
   show Option.isSome (α:=En) (if w=Str.ofString "drawn" then _ else _)=_
   rw[if_neg (of_decide_eq_false h.2),e0]
   rfl
 . exact z _
theorem uQ (d:PyData):(if true=true then !(GV.any λz=>PyData.eqv z d) else GV.any λz=>PyData.eqv z d)= !GY d:=by
 rw[if_pos rfl]
 congr 1
 unfold GV
 rw[List.any_cons,List.any_cons,List.any_cons,List.any_nil,Je,Je,Je]
 cases d<;>first | rfl | skip
 rename_i w
 show ((Str.ofString "lost"==w) || ((Str.ofString "won"==w) || ((Str.ofString "drawn"==w) || false)))=((WK w).isSome || decide (w=Str.ofString "drawn"))
 by_cases e0:w=Str.ofString "drawn"
 . subst e0;decide+kernel
 . unfold WK
   by_cases e1:w=Str.ofString "won"
   . subst e1;decide+kernel
   . by_cases e2:w=Str.ofString "lost"
     . subst e2;decide+kernel
     . rw[if_neg e1,if_neg e2,beq_eq_false_iff_ne.mpr (Ne.symm e1),beq_eq_false_iff_ne.mpr (Ne.symm e2),beq_eq_false_iff_ne.mpr (Ne.symm e0),decide_eq_false e0]
       rfl
section
variable {P:Program} {w:World} {K:PySem.W.Frag} {mg:Str->Option Value} {base:Heap}
theorem Rj:qJ ["_law_thing"] ["_law_thing"] (qt ZZ):=⟨rfl,rfl,rfl,by decide+kernel,rfl,by decide+kernel,by decide+kernel⟩
theorem vx {f:Addr} {fd:FuncData} (F:Qw K "_law_tuple_good" "_law_tuple_good" ZZ f fd) (B:JU mg) (T:ZL K mg):qI P w K mg base ji 1 f fd ["_law_thing"] (Jl K):=by
 refine F.okJ Rj (λvs H Q E h=>?_) (λcdv A outer s H vs Q E hr h=>?_)
 . obtain⟨v,d,rfl,_⟩:=h
   rfl
 . obtain⟨v,d,rfl,dv,cl,dp,q⟩:=h
   have hu:=jN hr
   refine⟨_,qg (qS (JW.pt (Qi (jG (jr (qo jB (by rfl) T.isi boot_isinstance (qb (jv 0) (qb (jI (v:=.ty "tuple") (by rfl) T.tup boot_tuple rfl) qe)))))
       (Qi (qv Xz (qo qx (by rfl) B.len boot_len (qb (jv 0) qe)) qh (qr _))
       (jR (qv (Wl hr.units) (qH qK (jv 0) qh (λ_ _=>rfl)) (qW (qb qB (qb qB (qb qB qe)))) (by with_unfolding_all rfl)))))) (ql (qG jw)) qA)
     (qg (qS (qv (YQ hr.units) (qH qK (jv 0) qh (λ_ _=>rfl)) qB (qr _)) (ql (qG (qP vt (qH qK (jv 0) qh (λ_ _=>rfl)) QT (qr _)))) qA)
     (ql (qG (jS (qo jB (by rfl) T.isi boot_isinstance (qb (qH qK (jv 0) qh (λ_ _=>rfl)) (qb (jI (v:=.ty "int") (by rfl) B.int boot_int rfl) qe)))
       (jS (kj (qo jB (by rfl) T.isi boot_isinstance (qb (qH qK (jv 0) qh (λ_ _=>rfl)) (qb (jI (v:=.ty "bool") (by rfl) T.bool boot_bool rfl) qe))))
       (Qh (qP XA (qH qK (jv 0) qh (λ_ _=>rfl)) qh (qr _)))))))),?_⟩
   refine⟨_,rfl,_,_,d,_,rfl,dv,T.at d,_,rfl,?_⟩
   have no:∀{H':Hp},qu H H'->(jO d).isSome=false->Q (.bl false) H':=λs e=>by have:=q _ s;rwa [e]at this
   have sr:qu H H:=λ_ _ z=>z
   cases dv with
   | tup hq hs=>
     rename_i a xs ds
     refine jm ?_
     refine⟨_,rfl,a,xs,rfl,.inr hq,?_⟩
     have lx:xs.length=ds.length:=Y6 hs
     refine⟨rfl,_,rfl,?_⟩
     refine jL (λc=>?_) (λc=>?_)
     . refine j0 (no sr ?_)
       cases e:jO (.tuple ds) with
       | none=>rfl
       | some en=>
         have e2:ds.length=2:=by
           have z:=(Jf e).1
           cases en with
           | none=>cases z;rfl
           | some p=>cases z;rfl
         rw[lx,e2]at c
         exact absurd c (by decide)
     . have l2:ds.length=2:=by
         rw[<-lx]
         exact Classical.byContradiction λz=>c (by rw[decide_eq_false (λq=>z (by have:=V.int.inj q;omega))];rfl)
       match ds,l2 with
       | [d0,d1],_=>
         cases hs with
         | cons h0 hs=>
           cases hs with
           | cons h1 hs=>
             cases hs
             rename_i x0 x1
             have c0:d0.canLay0=true:=(Bool.and_eq_true_iff.mp cl).1
             have dd:max d0.depth (max d1.depth 0)+1<=40:=by
               have:=dp
               simp only[PyData.depth,PyData.depthAll]at this
               omega
             have p0:d0.depth<=40:=by omega
             have s0:PySem.SeqAt.shaped d0=true:=by unfold PySem.SeqAt.shaped;rw[c0];exact decide_eq_true (by omega)
             refine⟨_,rfl,a,[x0,x1],0,x0,rfl,rfl,hq,rfl,by decide,λp hp=>?_⟩
             have sp:=qj (o:=.tup [.str (Str.ofString "lost"),.str (Str.ofString "won"),.str (Str.ofString "drawn")]) hp
             refine⟨d0,GV,h0.mono sp,.tup (.of qd) (.cons (.str _) (.cons (.str _) (.cons (.str _) .nil))),c0,by decide+kernel,p0,_,rfl,?_⟩
             rw[uQ]
             cases hw:GY d0 with
             | false=>exact j0 (no sp (uS hw))
             | true=>
               obtain⟨w0,rfl⟩:=xD hw
               refine jm ?_
               refine⟨_,rfl,a,[x0,x1],0,x0,rfl,rfl,hq.mono sp,rfl,.str w0,_,h0.mono sp,.str _,s0,(by decide+kernel),_,rfl,?_⟩
               rw[Vf]
               refine jL (λc=>?_) (λc=>?_)
               . obtain rfl:w0=Str.ofString "drawn":=by simpa using c
                 refine⟨_,rfl,a,[x0,x1],1,x1,rfl,rfl,hq.mono sp,rfl,rfl,?_⟩
                 have:=q _ sp
                 rw[show (jO (.tuple [.str (Str.ofString "drawn"),d1])).isSome=decide (x1=.non) from ?_]at this
                 . exact this
                 . cases h1<;>rfl
               . have ne:¬w0=Str.ofString "drawn":=λz=>c (by rw[z];simp)
                 have hw':((WK w0).isSome || decide (w0=Str.ofString "drawn"))=true:=hw
                 rw[decide_eq_false ne,Bool.or_false]at hw'
                 obtain⟨b,eb⟩:=Option.isSome_iff_exists.mp hw'
                 have eq:(jO (.tuple [.str w0,d1])).isSome=match d1 with | .int n=>decide (0<=n) | _=>false:=by
                   show Option.isSome (α:=En) (if w0=Str.ofString "drawn" then _ else _)=_
                   rw[if_neg ne,eb]
                   cases d1 with
                   | int n=>
                     show Option.isSome (α:=En) (if 0<=n then _ else _)=decide (0<=n)
                     by_cases h:0<=n
                     . rw[if_pos h,decide_eq_true h];rfl
                     . rw[if_neg h,decide_eq_false h];rfl
                   | _=>rfl
                 have q':=q _ sp
                 rw[eq]at q'
                 refine⟨_,rfl,a,[x0,x1],1,x1,rfl,rfl,hq.mono sp,rfl,x1,_,d1,_,rfl,h1.mono sp,T.at d1,_,rfl,?_⟩
                 cases h1 with
                 | int n=>exact j0 ⟨_,rfl,a,[x0,.int n],1,.int n,rfl,rfl,hq.mono sp,rfl,.int n,_,.int n,_,rfl,.int n,T.at (.int n),_,rfl,_,rfl,j0 ⟨_,rfl,a,[x0,.int n],1,.int n,rfl,rfl,hq.mono sp,rfl,_,_,rfl,rfl,q'⟩⟩
                 | bl y=>exact j0 ⟨_,rfl,a,[x0,.bl y],1,.bl y,rfl,rfl,hq.mono sp,rfl,.bl y,_,.bool y,_,rfl,.bl y,T.at (.bool y),_,rfl,_,rfl,jm q'⟩
                 | _=>exact jm q'
   | _=>exact j0 (j0 (no sr rfl))
end
end Rh
set_option Elab.async false
set_option linter.all false
set_option maxRecDepth 100000
set_option maxHeartbeats 4000000
namespace Rh
open PySem L2 PyProof.Rows MPlay
theorem xS {ms:List Int} (pw:ms.Pairwise (·<=·)):∃m,JJ (V.int (-1)::ms.map V.int) (-1)=some (.int m)/\(ms=[]->m=-1)/\(ms≠[]->m∈ms/\∀x∈ms,x<=m):=by
 have e:JJ (V.int (-1)::ms.map V.int) (-1)=(V.int (-1)::ms.map V.int)[ms.length]?:=by
   unfold JJ ky
   rw[if_neg (by decide)]
   have l:(V.int (-1)::ms.map V.int).length=ms.length+1:=by rw[List.length_cons,List.length_map]
   rw[l]
   split
   . show (V.int (-1)::ms.map V.int)[_]?=_
     congr 1
     omega
   . rename_i h
     exact absurd (by omega) h
 rcases List.eq_nil_or_concat ms with rfl | ⟨l,m,rfl⟩
 . exact⟨-1,rfl,λ_=>rfl,λh=>absurd rfl h⟩
 . refine⟨m,?_,λh=>by simp at h,λ_=>⟨by simp,λx hx=>?_⟩⟩
   . rw[e]
     simp
   . rw[List.concat_eq_append]at pw hx
     rw[List.pairwise_append]at pw
     rcases List.mem_append.mp hx with h | h
     . exact pw.2.2 x h m (by simp)
     . have:x=m:=by simpa using h
       omega
theorem kS {ms:List Int} (pw:ms.Pairwise (·<=·)):∃m,JJ (ms.map V.int++[V.int (-1)]) 0=some (.int m)/\(ms≠[]->m∈ms/\∀x∈ms,m<=x):=by
 cases ms with
 | nil=>exact⟨-1,rfl,λh=>absurd rfl h⟩
 | cons m ms=>
   refine⟨m,?_,λ_=>⟨List.mem_cons_self,λx hx=>?_⟩⟩
   . unfold JJ ky
     rw[if_pos (by decide),if_pos (by simp;omega)]
     rfl
   rcases List.mem_cons.mp hx with rfl | h
   . omega
   . exact(List.pairwise_cons.mp pw).1 x h
theorem Vk {K:PySem.W.Frag} {H:Hp}:∀ns:List Int,DVs K H (ns.map V.int) (ns.map PyData.int)
 | []=>.nil
 | _::ns=>.cons (.int _) (Vk ns)
theorem yv (ns:List Int):PySem.SeqAt.shaped (.list (ns.map PyData.int))=true:=by
 have a:∀ns:List Int,PyData.canLayAll0 (ns.map PyData.int)=true/\PyData.depthAll (ns.map PyData.int)<=0:=λns=>by
   induction ns with
   | nil=>exact⟨rfl,Nat.le_refl _⟩
   | cons n ns ih=>
     refine⟨?_,?_⟩
     . show (true&&PyData.canLayAll0 (ns.map PyData.int))=true
       rw[ih.1]
       rfl
     . have:=ih.2
       simp only[List.map_cons,PyData.depthAll,PyData.depth]
       omega
 unfold PySem.SeqAt.shaped
 rw[show (PyData.list (ns.map PyData.int)).canLay0=true from(a ns).1]
 have:=(a ns).2
 exact decide_eq_true (by simp only[PyData.depth];omega)
theorem xL (ns:List Int):PyData.eqv (.list (ns.map PyData.int)) (.list [])=decide (ns=[]):=by cases ns<;>rfl
theorem ux (ns:List Int):neL (ns.map V.int) []=decide (ns≠[]):=by
 cases ns with
 | nil=>rfl
 | cons n ns=>
   unfold neL
   rw[if_neg (by simp)]
   exact(decide_eq_true (p:=n::ns≠[]) (λh=>nomatch h)).symm
theorem Uk (ns:List Int):(ns.map V.int).all Q4=true:=by
 rw[List.all_map,List.all_eq_true]
 exact λ_ _=>rfl
def wT (K:PySem.W.Frag):Sp:=λvs H Q _=>∃(D p:Addr) (zs:List Str) (z:Str) (kvs:List (qw×V)) (f:Str->En),vs=[.ref D,.ref p,.str z]/\Rd H D (.dK kvs)/\H p=some (.tup (zs.map V.str))/\zs.length<=40/\(∀y∈z::zs,∃v,qD kvs (Sum.inr y)=some v/\qM K H v (f y))/\
 ∀H' b,qu H H'->(b=true↔zX (f z) (zs.map f))->Q (.bl b) H'
section
variable {P:Program} {w:World} {K:PySem.W.Frag} {mg:Str->Option Value} {base:Heap}
abbrev nPG:List Str:=["_law_told_here","_law_leads_here","_law_place","_law_word","_law_moves","_law_beside","_law_lost","_law_won"]
abbrev KN:List Str:=["_law_told_here","_law_leads_here","_law_place"]
theorem VG:qJ nPG KN (qt Z2):=⟨rfl,rfl,rfl,by decide+kernel,rfl,by decide+kernel,by decide+kernel⟩
theorem vE {f:Addr} {fd:FuncData} (F:Qw K "_law_place_good" "_law_place_good" Z2 f fd) (B:JU mg) (G:Q7 mg):qI P w K mg base ji 1 f fd KN (wT K):=by
 refine F.okJ VG (λvs H Q E h=>?_) (λcdv A outer s H vs Q E hr h=>?_)
 . obtain⟨D,p,zs,z,kvs,f,rfl,_⟩:=h
   rfl
 . obtain⟨D,p,zs,z,kvs,f,rfl,hD,hp,len,ent,q⟩:=h
   have hu:=jN hr
   have vQ:(["_law_one"]:List Str).Nodup:=by decide+kernel
   refine⟨_,qg (uJ (jA hu (jv 0) (jv 2) (λ_ _=>rfl)) (zu rfl (jM (qz (i:=3) VG.nd rfl (Or.inl rfl)) (jM (qz (i:=4) VG.nd rfl (Or.inl rfl)) Zb))))
     (qg (Qr (i:=5) (N':=["_law_other_here","_law_told_here"]) (ix:=[none,some 0]) (tt:=Kd) (te:=Xo (qZ 1) (qZ 0)) VG.nd rfl (Or.inl rfl) rfl ⟨rfl,rfl,rfl,rfl,rfl⟩ (Wp (jv 1)) (λC s2 H2 fp pins=>
         ⟨qz (i:=0) (show (["_law_other_here","_law_told_here"]:List Str).Nodup by decide+kernel) rfl (Or.inl rfl),jQ,jA hu (jv 1) (jv 0) (λ_ _=>rfl)⟩))
     (qg (qC (i:=6) VG.nd rfl (Or.inl rfl) (qo zK (by rfl) G.srt boot_sorted (qb (Qs (N':=["_law_one"]) (ix:=[none]) (tt:=Zy (Ju wu (Ju (Q6 K) (qZ 0) (tC (.int 0))) (tC (.str (qY false))))) (te:=Ju (Q6 K) (qZ 0) (tC (.int 1))) rfl ⟨rfl,rfl,rfl,rfl,rfl⟩ (qT (jv 5)) (λC s2 H2 fp pins=>
         ⟨qz (i:=0) vQ rfl (Or.inl rfl),j4 (qv jg (qH qK (jv 0) qh (λ_ _=>rfl)) qB (qr _)),qH qK (jv 0) qh (λ_ _=>rfl)⟩)) qe)))
     (qg (qC (i:=7) VG.nd rfl (Or.inl rfl) (qo zK (by rfl) G.srt boot_sorted (qb (Qs (N':=["_law_one"]) (ix:=[none]) (tt:=Zy (Ju wu (Ju (Q6 K) (qZ 0) (tC (.int 0))) (tC (.str (qY true))))) (te:=Ju (Q6 K) (qZ 0) (tC (.int 1))) rfl ⟨rfl,rfl,rfl,rfl,rfl⟩ (qT (jv 5)) (λC s2 H2 fp pins=>
         ⟨qz (i:=0) vQ rfl (Or.inl rfl),j4 (qv jg (qH qK (jv 0) qh (λ_ _=>rfl)) qB (qr _)),qH qK (jv 0) qh (λ_ _=>rfl)⟩)) qe)))
     (qg (qS (qv jg (jv 3) qB (qr _)) (ql (qG (jS (qP jg (qo qx (by rfl) B.len boot_len (qb (jv 7) qe)) (qo qx (by rfl) B.len boot_len (qb (jv 5) qe)) (qr _))
       (Qh (qP jg (jv 4) (qQ jX (qH jl (qQ Jn (jk (qb (Yl Zk qh) qe)) (jv 7)) (Yl Zk qh) (λ_ _=>rfl)) qh) (qr _)))))) qA)
     (qg (qS (qv jg (jv 3) qB (qr _)) (ql (qG (jS (qP (uj (Nat.lt_of_le_of_lt (Nat.le_add_right _ 64) hr.units)) (jv 6) (jk qe) (qr _))
       (Qh (qP jg (jv 4) (qQ jX (qH jl (qQ Jn (jv 6) (jk (qb (Yl Zk qh) qe))) qh (λ_ _=>rfl)) qh) (qr _)))))) qA)
     (ql (qG (jS (qP (YQ hr.units) (jv 6) (jk qe) (qr _)) (Qh (qP j7 (qo qx (by rfl) B.len boot_len (qb (jv 7) qe)) (qo qx (by rfl) B.len boot_len (qb (jv 5) qe)) (qr _))))))))))),?_⟩
   obtain⟨v0,e0,E0'⟩:=ent z List.mem_cons_self
   have g0:=jC.r (k:=(Sum.inr z:qw)) hD
   rw[e0]at g0
   obtain⟨pv,y,rfl,sq,hy⟩:=E0'.two
   refine⟨_,rfl,_,rfl,D,.ref pv,rfl,g0,pv,_,rfl,sq,rfl,_,_,rfl,_,_,rfl,rfl,?_⟩
   have vf:∃vf:Str->V,∀x∈zs,qD kvs (Sum.inr x)=some (vf x)/\qM K H (vf x) (f x):=by
     refine⟨λx=>(qD kvs (Sum.inr x)).getD .non,λx hx=>?_⟩
     obtain⟨v1,e1,E1⟩:=ent x (List.mem_cons_of_mem _ hx)
     have e2:(qD kvs (Sum.inr x)).getD .non=v1:=by rw[e1];rfl
     exact⟨by show _=some ((qD kvs (Sum.inr x)).getD .non);rw[e2];exact e1,by show qM K H ((qD kvs (Sum.inr x)).getD .non) _;rw[e2];exact E1⟩
   obtain⟨vf,hvf⟩:=vf
   refine⟨_,rfl,p,rfl,⟨_,.of hp⟩,λD1 hD1=>?_⟩
   refine xP (K:=K) (a:=p) (xs:=zs) (enc:=V.str) (out:=λx=>some (vf x)) (rest:=[some (.ref D)]) hD1 hp (qp (by omega)) (λx hx Y sY Rr hR=>hR Y (qu.refl Y)) (λx hx v ev Y sY Rr hR=>?_) (λG1 s1 hG1=>?_)
   . cases ev
     have gz:=jC.r (k:=(Sum.inr x:qw)) (hD.mono sY)
     rw[(hvf x hx).1]at gz
     exact⟨_,rfl,_,rfl,D,vf x,rfl,gz,hR Y (qu.refl Y)⟩
   rw[Jr]at hG1
   have pr:∀{G:Hp},qu H G->Paired (qM K G) (zs.map vf) (zs.map f):=λ{G} sG=>by
     have:∀l:List Str,(∀x∈l,qM K H (vf x) (f x))->Paired (qM K G) (l.map vf) (l.map f):=λl=>by
       induction l with
       | nil=>exact λ_=>.nil
       | cons x l ih=>exact λh=>.cons ((h x List.mem_cons_self).mono sG) (ih λy hy=>h y (List.mem_cons_of_mem _ hy))
     exact this _ λx hx=>(hvf x hx).2
   generalize hes:zs.map f=es at pr q
   have lz:(zs.map vf).length=zs.length:=List.length_map ..
   have le:zs.length=es.length:=by rw[<-hes,List.length_map]
   refine⟨_,rfl,D1,rfl,⟨_,.of hG1⟩,λD2 hD2=>Zg hD2 hG1 (pr s1) (by rw[lz];exact len) λG2 s2 hG2=>?_⟩
   have nle:∀b,(QH b es).length < 64:=λb=>by
     have:(QH b es).length<=es.length:=List.length_filterMap_le _ _
     omega
   refine⟨D2,QH false es,rfl,.of hG2,nle false,λlL ml hlL pml pwl=>?_⟩
   have s3:qu H (upd G2 lL (.lst (ml.map V.int))):=(s1.trans s2).trans (qj hlL)
   have hb3:upd G2 lL (.lst (ml.map V.int)) D1=some (.lst (zs.map vf)):=qi (s2 _ _ hG1) hlL
   have hL3:upd G2 lL (.lst (ml.map V.int)) lL=some (.lst (ml.map V.int)):=qd
   generalize upd G2 lL (.lst (ml.map V.int))=H3 at s3 hb3 hL3
   refine⟨_,rfl,D1,rfl,⟨_,.of hb3⟩,λD3 hD3=>Zg hD3 hb3 (pr s3) (by rw[lz];exact len) λG4 s4 hG4=>?_⟩
   refine⟨D3,QH true es,rfl,.of hG4,nle true,λlW mw hlW pmw pww=>?_⟩
   have s5:qu H (upd G4 lW (.lst (mw.map V.int))):=(s3.trans s4).trans (qj hlW)
   have hb5:upd G4 lW (.lst (mw.map V.int)) D1=some (.lst (zs.map vf)):=qi (s4 _ _ hb3) hlW
   have hL5:upd G4 lW (.lst (mw.map V.int)) lL=some (.lst (ml.map V.int)):=qi (s4 _ _ hL3) hlW
   have hW5:upd G4 lW (.lst (mw.map V.int)) lW=some (.lst (mw.map V.int)):=qd
   generalize upd G4 lW (.lst (mw.map V.int))=H5 at s5 hb5 hL5 hW5
   have inL:∀m,m∈ml↔some (false,m)∈es:=λm=>by rw[pml.mem_iff];exact jx
   have inW':∀m,m∈mw↔some (true,m)∈es:=λm=>by rw[pmw.mem_iff];exact jx
   have lw:mw.length=(QH true es).length:=pmw.length_eq
   have eqI:∀i j:Int,decide (V.int i=V.int j)=decide (i=j):=λi j=>decide_eq_decide.mpr ⟨V.int.inj,λz=>by rw[z]⟩
   have wl:(((mw.map V.int).length:Nat):Int)=((zs.map vf).length:Nat)↔∀x∈es,∃m,x=some (true,m):=by
     rw[<-zj,lz,List.length_map,lw]
     omega
   have ll:(QH true es).length<=es.length:=List.length_filterMap_le _ _
   refine⟨_,rfl,rfl,_,rfl,?_⟩
   generalize ez:f z=e at*
   rcases e with _ | ⟨b,n⟩
   . refine QU (Qo false none) ⟨_,rfl,rfl,_,rfl,QU (Qo true none) ?_⟩
     refine⟨_,rfl,by decide,λl0 h0=>?_⟩
     have s6:=s5.trans (qj (o:=.lst []) h0)
     refine⟨.list (ml.map PyData.int),.list [],.lst (.of (qi hL5 h0)) (Vk ml),.lst (.of qd) .nil,yv ml,by decide+kernel,_,rfl,?_⟩
     rw[xL]
     refine jL (λc=>?_) (λc=>?_)
     . have e0:ml=[]:=of_decide_eq_true c
       refine⟨_,rfl,lW,_,rfl,.inl (.of (qi hW5 h0)),_,rfl,D1,_,rfl,.inl (.of (qi hb5 h0)),_,_,rfl,rfl,q _ _ s6 ?_⟩
       rw[decide_eq_true_iff]
       constructor
       . intro lt
         refine⟨λm hm=>?_,?_⟩
         . have:=(inL m).mpr hm
           rw[e0]at this
           cases this
         . refine Classical.byContradiction λno=>?_
           have:∀x∈es,∃m,x=some (true,m):=λx hx=>by
             rcases x with _ | ⟨b,m⟩
             . exact absurd hx no
             . cases b
               . have:=(inL m).mpr hx
                 rw[e0]at this
                 cases this
               . exact⟨m,rfl⟩
           have:=wl.mpr this
           omega
       . intro h
         refine Classical.byContradiction λno=>?_
         have:(((mw.map V.int).length:Nat):Int)=((zs.map vf).length:Nat):=by
           rw[lz,List.length_map]at no ⊢
           omega
         obtain⟨m,em⟩:=wl.mp this none h.2
         cases em
     . refine q _ _ s6 ⟨λz=>(nomatch z),λh=>absurd (decide_eq_true (List.eq_nil_iff_forall_not_mem.mpr λm hm=>h.1 m ((inL m).mp hm))) c⟩
   . cases hy b n rfl
     cases b with
     | false=>
       refine ZR (Qo false _) ⟨_,rfl,lW,_,rfl,.inl (.of hW5),_,rfl,D1,_,rfl,.inl (.of hb5),rfl,_,rfl,?_⟩
       rw[eqI]
       refine jL (λc=>?_) (λc=>?_)
       . have c:=wl.mp (of_decide_eq_true c)
         obtain⟨m,em,m0,m1⟩:=xS pww
         refine⟨_,rfl,1,rfl,by decide,λl0 h0=>⟨_,rfl,l0,lW,[.int (-1)],mw.map V.int,rfl,rfl,.of qd,.of (qi hW5 h0),?_,λl1 h1=>⟨1,rfl,l1,_,-1,.int m,rfl,rfl,.of qd,em,_,_,rfl,rfl,rfl,q _ _ ((s5.trans (qj h0)).trans (qj h1)) ?_⟩⟩⟩
         . rw[List.length_map,List.length_singleton,sizeLine_eq]
           omega
         . rw[eqI,decide_eq_true_iff]
           by_cases nil:mw=[]
           . have e0:es=[]:=by
               refine List.eq_nil_iff_forall_not_mem.mpr λx hx=>?_
               obtain⟨k,rfl⟩:=c x hx
               have:=(inW' k).mpr hx
               rw[nil]at this
               cases this
             rw[m0 nil]
             rw[e0]
             exact⟨λz=>⟨λx hx=>(nomatch hx),.inl ⟨by omega,rfl⟩⟩,λh=>h.2.elim (λh=>by omega) λh=>(nomatch h)⟩
           . obtain⟨mi,mx⟩:=m1 nil
             refine⟨λz=>⟨λx hx=>?_,.inr ?_⟩,λh=>?_⟩
             . obtain⟨k,rfl⟩:=c x hx
               exact⟨k,rfl,by have:=mx k ((inW' k).mpr hx);omega⟩
             . rw[show n - 1=m by omega]
               exact(inW' m).mp mi
             . obtain⟨k,ek,le'⟩:=h.1 _ ((inW' m).mp mi)
               cases ek
               rcases h.2 with ⟨_,h2⟩ | h2
               . have:=(inW' m).mp mi
                 rw[h2]at this
                 cases this
               . have:=mx _ ((inW' _).mpr h2)
                 omega
       . exact q _ _ s5 ⟨λz=>(nomatch z),λh=>absurd (decide_eq_true (wl.mpr λx hx=>let ⟨m,e,_⟩:=h.1 x hx;⟨m,e⟩)) c⟩
     | true=>
       refine QU (Qo false _) ⟨_,rfl,rfl,_,rfl,ZR (Qo true _) ?_⟩
       refine⟨_,rfl,by decide,λl0 h0=>?_⟩
       have s6:=s5.trans (qj (o:=.lst []) h0)
       have hL6:upd H5 l0 (.lst []) lL=some (.lst (ml.map V.int)):=qi hL5 h0
       refine⟨lL,l0,ml.map V.int,[],rfl,rfl,.of hL6,.of qd,Uk ml,rfl,_,rfl,?_⟩
       generalize upd H5 l0 (.lst [])=H6 at s6 hL6
       rw[ux]
       refine jL (λc=>?_) (λc=>?_)
       . have nn:ml≠[]:=of_decide_eq_true c
         obtain⟨m,em,m1⟩:=kS pwl
         obtain⟨mi,mn⟩:=m1 nn
         have l6:ml.length<=64:=by have:=pml.length_eq;have:=nle false;omega
         refine⟨_,rfl,_,rfl,1,rfl,by decide,λl1 h1=>⟨lL,l1,ml.map V.int,[.int (-1)],rfl,rfl,.of (qi hL6 h1),.of qd,?_,λl2 h2=>⟨l2,_,0,.int m,rfl,rfl,.of qd,em,_,_,rfl,rfl,rfl,q _ _ ((s6.trans (qj h1)).trans (qj h2)) ?_⟩⟩⟩
         . rw[List.length_map,List.length_singleton,sizeLine_eq]
           omega
         . rw[eqI,decide_eq_true_iff]
           refine⟨λz=>⟨?_,λk hk=>?_⟩,λh=>?_⟩
           . rw[show n - 1=m by omega]
             exact(inL m).mp mi
           . have:=mn k ((inL k).mpr hk)
             omega
           . have a:=h.2 _ ((inL m).mp mi)
             have b:=mn _ ((inL _).mpr h.1)
             omega
       . refine q _ _ s6 ⟨λz=>(nomatch z),λh=>absurd (decide_eq_true (p:=ml≠[]) λz=>?_) c⟩
         have:=(inL _).mpr h.1
         rw[z]at this
         cases this
end
end Rh
set_option Elab.async false
set_option linter.all false
set_option maxRecDepth 100000
set_option maxHeartbeats 4000000
namespace Rh
open PySem L2 PyProof.Rows MPlay
theorem U4 {H:Hp} {ps:List Addr} {rs:jF} (rat:jh H ps rs):∃qf:Addr×(Str×List Str)->Addr,∀x∈ps.zip rs,H x.1=some (.tup [.str x.2.1,.ref (qf x)])/\H (qf x)=some (.tup (x.2.2.map V.str)):=by
 have h:∀x:Addr×(Str×List Str),∃q,x∈ps.zip rs->H x.1=some (.tup [.str x.2.1,.ref q])/\H q=some (.tup (x.2.2.map V.str)):=λx=>by
   by_cases hx:x∈ps.zip rs
   . obtain⟨i,hi⟩:=List.getElem?_of_mem hx
     rw[List.getElem?_zip_eq_some]at hi
     obtain⟨q,a,b⟩:=rat.2 i x.1 x.2 hi.1 hi.2
     exact⟨q,λ_=>⟨a,b⟩⟩
   . exact⟨0,λz=>absurd z hx⟩
 exact⟨λx=>(h x).choose,λx hx=>(h x).choose_spec hx⟩
theorem ZM {ps:List Addr} {rs:jF} (l:ps.length=rs.length):(ps.zip rs).map (λx=>V.ref x.1)=ps.map V.ref:=by
 rw[show (λx:Addr×(Str×List Str)=>V.ref x.1)=V.ref ∘ Prod.fst from rfl,<-List.map_map,List.map_fst_zip (by omega)]
theorem YF:∀{zs:List Str},(∀z∈zs,PyData.strOk z=true)->PyData.canLayAll0 (zs.map PyData.str)=true/\PyData.depthAll (zs.map PyData.str)=0
 | [],_=>⟨rfl,rfl⟩
 | z::zs,h=>by
   obtain⟨a,b⟩:=YF λy hy=>h y (List.mem_cons_of_mem _ hy)
   refine⟨?_,?_⟩
   . show (PyData.strOk z&&PyData.canLayAll0 (zs.map PyData.str))=true
     rw[a,h z List.mem_cons_self]
     rfl
   . simp only[List.map_cons,PyData.depthAll,PyData.depth,b]
     rfl
theorem Y5 {K:PySem.W.Frag} {H:Hp}:∀zs:List Str,DVs K H (zs.map V.str) (zs.map PyData.str)
 | []=>.nil
 | _::zs=>.cons (.str _) (Y5 zs)
theorem ZQ {K:PySem.W.Frag} {H:Hp} (m:Str->Bool):∀{L:List (Addr×(Str×List Str))},(∀x∈L,(∃q,H x.1=some (.tup [.str x.2.1,.ref q])/\H q=some (.tup (x.2.2.map V.str)))/\PyData.strOk x.2.1=true/\∀z∈x.2.2,PyData.strOk z=true)->
   ∃ds,DVs K H (L.filterMap λx=>if m x.2.1=true then some (V.ref x.1) else none) ds/\PyData.canLayAll0 ds=true/\PyData.depthAll ds<=3/\(ds=[]↔∀x∈L,m x.2.1=false)
 | [],_=>⟨[],.nil,rfl,Nat.zero_le _,⟨λ_ x hx=>(nomatch hx),λ_=>rfl⟩⟩
 | x::L,h=>by
   obtain⟨ds,d1,d2,d3,d4⟩:=ZQ m λy hy=>h y (List.mem_cons_of_mem _ hy)
   obtain⟨⟨q,h1,h2⟩,s1,s2⟩:=h x List.mem_cons_self
   obtain⟨c1,c2⟩:=YF s2
   cases c:m x.2.1 with
   | false=>
     refine⟨ds,?_,d2,d3,d4.trans ⟨λz y hy=>?_,λz y hy=>z y (List.mem_cons_of_mem _ hy)⟩⟩
     . rw[List.filterMap_cons,c]
       exact d1
     . rcases List.mem_cons.mp hy with rfl | hy
       . exact c
       . exact z y hy
   | true=>
     refine⟨.tuple [.str x.2.1,.tuple (x.2.2.map PyData.str)]::ds,?_,?_,?_,⟨λz=>(nomatch z),λz=>?_⟩⟩
     . rw[List.filterMap_cons,c]
       exact .cons (.tup (.of h1) (.cons (.str _) (.cons (.tup (.of h2) (Y5 _)) .nil))) d1
     . show ((PyData.strOk x.2.1&&(PyData.canLayAll0 (x.2.2.map PyData.str)&&true))&&PyData.canLayAll0 ds)=true
       rw[s1,c1,d2]
       rfl
     . simp only[PyData.depthAll,PyData.depth,c2]
       omega
     . have:=z x List.mem_cons_self
       rw[c]at this
       cases this
theorem J0 {ds:List PyData} (h:PyData.canLayAll0 ds=true) (d:PyData.depthAll ds<=50):PySem.SeqAt.shaped (.list ds)=true:=by
 unfold PySem.SeqAt.shaped
 rw[show (PyData.list ds).canLay0=true from h]
 exact decide_eq_true (by simp only[PyData.depth];omega)
theorem Zd (ds:List PyData):PyData.eqv (.list ds) (.list [])=decide (ds=[]):=by cases ds<;>rfl
theorem WL {K:PySem.W.Frag} {H:Hp} {f:Str->PyData} (m:Str->Bool):∀{L:List (qw×V)},(∀p∈L,DV K H p.2 (f (QD p.1))/\(f (QD p.1)).canLay0=true/\(f (QD p.1)).depth<=40)->
   ∃ds,DVs K H (L.filterMap λp=>if m (QD p.1)=true then some p.2 else none) ds/\PyData.canLayAll0 ds=true/\PyData.depthAll ds<=40/\(ds=[]↔∀p∈L,m (QD p.1)=false)
 | [],_=>⟨[],.nil,rfl,Nat.zero_le _,⟨λ_ x hx=>(nomatch hx),λ_=>rfl⟩⟩
 | x::L,h=>by
   obtain⟨ds,d1,d2,d3,d4⟩:=WL (f:=f) m λy hy=>h y (List.mem_cons_of_mem _ hy)
   obtain⟨h1,s1,s2⟩:=h x List.mem_cons_self
   cases c:m (QD x.1) with
   | false=>
     refine⟨ds,?_,d2,d3,d4.trans ⟨λz y hy=>?_,λz y hy=>z y (List.mem_cons_of_mem _ hy)⟩⟩
     . rw[List.filterMap_cons,c]
       exact d1
     . rcases List.mem_cons.mp hy with rfl | hy
       . exact c
       . exact z y hy
   | true=>
     refine⟨f (QD x.1)::ds,?_,?_,?_,⟨λz=>(nomatch z),λz=>?_⟩⟩
     . rw[List.filterMap_cons,c]
       exact .cons h1 d1
     . show ((f (QD x.1)).canLay0&&PyData.canLayAll0 ds)=true
       rw[s1,d2]
       rfl
     . simp only[PyData.depthAll]
       omega
     . have:=z x List.mem_cons_self
       rw[c]at this
       cases this
mutual
theorem _root_.L2.DV.fr {K:PySem.W.Frag} {H H':Hp} {D:Addr} {kvs:List (qw×V)} (rd:Rd H D (.dK kvs)) (k:∀x o,x≠D->H x=some o->H' x=some o):∀{x:V} {d:PyData},DV K H x d->DV K H' x d
 | _,_,.non=>.non
 | _,_,.bl b=>.bl b
 | _,_,.int i=>.int i
 | _,_,.str x=>.str x
 | _,_,.lst (a:=a) q hs=>.lst (match q with
   | .inl (.inl e)=>.inl (.inl (k _ _ (λz=>by rw[z]at e;rcases rd with r | ⟨o,r⟩<;>rw[r]at e<;>cases e) e))
   | .inl (.inr ⟨o,e⟩)=>.inl (.inr ⟨o,k _ _ (λz=>by rw[z]at e;rcases rd with r | ⟨o,r⟩<;>rw[r]at e<;>cases e) e⟩)
   | .inr e=>.inr e) (L2.DVs.fr rd k hs)
 | _,_,.tup (a:=a) q hs=>.tup (match q with
   | .inl (.inl e)=>.inl (.inl (k _ _ (λz=>by rw[z]at e;rcases rd with r | ⟨o,r⟩<;>rw[r]at e<;>cases e) e))
   | .inl (.inr ⟨o,e⟩)=>.inl (.inr ⟨o,k _ _ (λz=>by rw[z]at e;rcases rd with r | ⟨o,r⟩<;>rw[r]at e<;>cases e) e⟩)
   | .inr e=>.inr e) (L2.DVs.fr rd k hs)
theorem _root_.L2.DVs.fr {K:PySem.W.Frag} {H H':Hp} {D:Addr} {kvs:List (qw×V)} (rd:Rd H D (.dK kvs)) (k:∀x o,x≠D->H x=some o->H' x=some o):∀{xs:List V} {ds:List PyData},DVs K H xs ds->DVs K H' xs ds
 | _,_,.nil=>.nil
 | _,_,.cons h hs=>.cons (L2.DV.fr rd k h) (L2.DVs.fr rd k hs)
end
theorem YD {kvs:List (qw×V)} {k:qw} {v:V} (h:qD kvs k=some v):∃p∈kvs,p.1=k:=by
 refine Classical.byContradiction λno=>?_
 have:qD kvs k=none:=j6 λm=>by
   obtain⟨p,hp,e⟩:=List.mem_map.mp m
   exact no ⟨p,hp,e⟩
 rw[this]at h
 cases h
theorem vY:∀{l:List Nat} {n:Nat},n∈l->n<=l.sum
 | a::l,n,h=>by
   rw[List.sum_cons]
   rcases List.mem_cons.mp h with rfl | h
   . omega
   . have:=vY h
     omega
theorem zb {H:Hp} {D b:Addr} {kvs:List (qw×V)} {o:HO} (rd:Rd H D (.dK kvs)) (e:H b=some o) (n:(∀k,o≠.dK k)/\∀u k,o≠.frz u (.dK k)):b≠D:=λz=>by
 rw[z]at e
 rcases rd with r | ⟨u,r⟩
 . rw[r]at e;cases e;exact n.1 _ rfl
 . rw[r]at e;cases e;exact n.2 _ _ rfl
def Xd (kvs:List (qw×V)) (rs:jF):Prop:=∀p∈kvs,∃r∈rs,p.1=Sum.inr r.1/\qD kvs (Sum.inr r.1)=some p.2
def Kw (P:Program) (w:World) (K:PySem.W.Frag):Sp:=λvs H Q _=>∃(l:Addr) (v:V) (ps:List Addr) (rs:jF),vs=[.ref l,v]/\H l=some (.lst (ps.map V.ref))/\jh H ps rs/\qO rs/\rs.length<=14/\((Pl P w K H rs v false/\∀H',qu H H'->Q (.bl false) H')\/
 ∃D kvs f,v=.ref D/\Rd H D (.dK kvs)/\kvs.length=rs.length/\zR K H kvs rs f/\Xd kvs rs/\∀H' b,(∀x o,x≠D->H x=some o->H' x=some o)->Rd H' D (.dK kvs)->(b=true↔kZ rs f)->Q (.bl b) H')
section
variable {P:Program} {w:World} {K:PySem.W.Frag} {mg:Str->Option Value} {base:Heap}
abbrev KW:List Str:=["_law_rows_here","_law_told_here"]
theorem Rm:qJ KW KW (qt ZP):=⟨rfl,rfl,rfl,by decide+kernel,rfl,by decide+kernel,by decide+kernel⟩
theorem KR:(["_law_name","_law_leads_here","_law_told_here"]:List Str).Nodup:=by decide+kernel
theorem VX {f fT fG:Addr} {fd fdT fdG:FuncData} (F:Qw K "_law_shows" "_law_shows" ZP f fd) (B:JU mg) (G:Q7 mg) (TI:ZL K mg) (hT:jT K mg "_law_tuple_good" ZZ ["_law_thing"] fT fdT) (hG:jT K mg "_law_place_good" Z2 KN fG fdG):qI P w K mg base ji 2 f fd KW (Kw P w K):=by
 have GT:qI P w K mg base ji 1 fT fdT ["_law_thing"] (Jl K):=vx hT.fn B TI
 have GG:qI P w K mg base ji 1 fG fdG KN (wT K):=vE hG.fn B G
 refine F.okJ Rm (λvs H Q E h=>?_) (λcdv A outer s H vs Q E hr h=>?_)
 . obtain⟨l,v,ps,rs,rfl,_⟩:=h
   rfl
 . obtain⟨l,v,ps,rs,rfl,hl,rat,good,le14,h⟩:=h
   have hu:=jN hr
   refine⟨_,qg (qS (JW.pt (Qi (jG (jr (qo (jB.or (zN.or zO)) (by rfl) TI.isi boot_isinstance (qb (jv 1) (qb (jI (v:=.ty "dict") (by rfl) TI.dict boot_dict rfl) qe)))))
       (jR (qv Xz (qo (Yt.or Yu) (by rfl) B.len boot_len (qb (jv 1) qe)) (qo qx (by rfl) B.len boot_len (qb (jv 0) qe)) (qr _))))) (ql (qG jw)) qA)
     (qg (qS (qv (vq hr.units) (Qs (N':=["_law_row","_law_told_here"]) (ix:=[none,some 1]) (tt:=Zy (Ju (KH P w K true) (Ju (Q6 K) (qZ 0) (tC (.int 0))) (qZ 1))) (te:=qZ 0) rfl ⟨rfl,rfl,rfl,rfl,rfl⟩ (qT (jv 0)) (λC s2 H2 fp pins=>
       ⟨qz (i:=0) (show (["_law_row","_law_told_here"]:List Str).Nodup by decide+kernel) rfl (Or.inl rfl),j4 (qv ((VS hu).or (VR hr.units)) (qH qK (jv 0) qh (λ_ _=>rfl)) (jv 1) (by with_unfolding_all rfl)),jv 0⟩)) (jk qe) (qr _)) (ql (qG jw)) qA)
     (qg (qS (qv (vq hr.units) (Qs (N':=["_law_one"]) (ix:=[none]) (tt:=wN (tB (z8 (Jl K) [] E0 (ju (qZ 0) QN)))) (te:=qZ 0) rfl ⟨rfl,rfl,rfl,rfl,rfl⟩ (xt (xy (jv 1))) (λC s2 H2 fp pins=>
       ⟨qz (i:=0) (show (["_law_one"]:List Str).Nodup by decide+kernel) rfl (Or.inl rfl),j4 (jG (jr (qX hT GT hr (by rfl) (qb (jv 0) qe)))),jv 0⟩)) (jk qe) (qr _)) (ql (qG jw)) qA)
     (ql (qG (qP (YQ hr.units) (Qs (N':=["_law_name","_law_leads_here","_law_told_here"]) (ix:=[none,none,some 1]) (g:=xH K 2 (zD (j9 0) (zD (j9 1) xI))) (tt:=wN (tB (z8 (wT K) [] E0 (ju (qZ 2) (ju (qZ 1) (ju (qZ 0) QN)))))) (te:=qZ 0) rfl ⟨rfl,rfl,rfl,rfl,rfl⟩ (qT (jv 0)) (λC s2 H2 fp pins=>
       ⟨zu rfl (jM (qz (i:=0) KR rfl (Or.inl rfl)) (jM (qz (i:=1) KR rfl (Or.inl rfl)) Zb)),j4 (jG (jr (qX hG GG hr (by rfl) (qb (jv 2) (qb (jv 1) (qb (jv 0) qe)))))),jv 0⟩)) (jk qe) (qr _)))))),?_⟩
   obtain⟨qf,hqf⟩:=U4 rat
   have sr:qu H H:=λ_ _ z=>z
   have kd:=TI.kit "dict" (by simp [X4]) "dict" (by simp)
   rw[K4]at kd
   have lp:(ps.map V.ref).length=rs.length:=by rw[List.length_map];exact rat.1
   have okr:∀z∈rs.map (·.1),PyData.strOk z=true:=λz hz=>let ⟨r,hr',e⟩:=List.mem_map.mp hz;Yg (e▸good.nm r hr')
   have inz:∀x∈ps.zip rs,x.2∈rs:=λx hx=>(List.of_mem_zip hx).2
   have zin:∀r∈rs,∃x∈ps.zip rs,x.2=r:=λr hr'=>by
     obtain⟨i,hi⟩:=List.getElem?_of_mem hr'
     have li:i < ps.length:=by rw[rat.1];exact(List.getElem?_eq_some_iff.mp hi).1
     exact⟨(ps[i],r),List.mem_of_getElem? (List.getElem?_zip_eq_some.mpr ⟨List.getElem?_eq_getElem li,hi⟩),rfl⟩
   have okz:∀x∈ps.zip rs,PyData.strOk x.2.1=true/\∀z∈x.2.2,PyData.strOk z=true:=λx hx=>⟨okr _ (List.mem_map.mpr ⟨_,inz x hx,rfl⟩),λz hz=>okr z (good.to _ (inz x hx) z hz)⟩
   rcases h with ⟨pl,q⟩ | ⟨D,kvs,f,rfl,rd,len,dat,kin,q⟩
   . obtain⟨b,hb,pl⟩:∃b,false=b/\Pl P w K H rs v b:=⟨false,rfl,pl⟩
     cases pl with
     | dat dv=>
       rename_i d
       refine⟨_,rfl,.inl ⟨_,_,d,_,rfl,dv,TI.at d,_,rfl,?_⟩⟩
       rw[Ge dv]
       exact j0 (j0 (q _ sr))
     | dk hD=>
       rename_i D kvs
       refine⟨_,rfl,.inr (.inl ⟨D,kvs,_,_,rfl,hD,kd,_,rfl,jm ⟨_,rfl,.inl ⟨D,kvs,rfl,hD,_,rfl,l,_,rfl,.inl (.of hl),rfl,_,rfl,?_⟩⟩⟩)⟩
       rw[lp]
       refine jL (λc=>q _ sr) (λc=>?_)
       have eq:kvs.length=rs.length:=Classical.byContradiction λz=>c (by rw[decide_eq_false (λy=>z (by have:=V.int.inj y;omega))];rfl)
       rw[decide_eq_true eq,Bool.true_and]at hb
       refine⟨_,rfl,l,rfl,⟨_,.of hl⟩,λD2 hD2=>?_⟩
       refine QZ (K:=K) (a:=l) (xs:=ps.zip rs) (enc:=λx=>V.ref x.1) (out:=λx=>if (!(qD kvs (Sum.inr x.2.1)).isSome)=true then some (V.ref x.1) else none) (rest:=[some (.ref D)]) hD2 (by rw[ZM rat.1];exact hl) (qp (by rw[List.length_zip];omega)) (λx hx Y sY Rr hR=>?_) (λx hx v ev Y sY Rr hR=>?_) (λG2 s2 hG2=>?_)
       . refine⟨_,rfl,x.1,_,0,_,rfl,rfl,.of (sY _ _ (hqf x hx).1),rfl,_,rfl,.inl ⟨D,_,rfl,jC.r (k:=(Sum.inr x.2.1:qw)) (hD.mono sY),_,rfl,?_⟩⟩
         have:=hR Y (qu.refl Y)
         rwa [show (if (!(qD kvs (Sum.inr x.2.1)).isSome)=true then some (V.ref x.1) else none).isSome=(!(qD kvs (Sum.inr x.2.1)).isSome) from by cases (!(qD kvs (Sum.inr x.2.1)).isSome)<;>rfl]at this
       . have ev:(if (!(qD kvs (Sum.inr x.2.1)).isSome)=true then some (V.ref x.1) else none)=some v:=ev
         split at ev
         . cases ev
           exact⟨_,rfl,hR Y (qu.refl Y)⟩
         . cases ev
       obtain⟨ds,d1,d2,d3,d4⟩:=ZQ (K:=K) (H:=G2) (λz=> !(qD kvs (Sum.inr z)).isSome) (L:=ps.zip rs) λx hx=>⟨⟨qf x,s2 _ _ (hqf x hx).1,s2 _ _ (hqf x hx).2⟩,okz x hx⟩
       refine⟨by decide,λl0 h0=>⟨.list ds,.list [],.lst (.of (qi hG2 h0)) (d1.mono (qj h0)),.lst (.of qd) .nil,J0 d2 (by omega),by decide+kernel,_,rfl,?_⟩⟩
       have s3:=s2.trans (qj (o:=.lst []) h0)
       rw[Zd]
       refine jL (λc2=>q _ s3) (λc2=>?_)
       have e0:ds=[]:=Classical.byContradiction λz=>c2 (by rw[decide_eq_false z];rfl)
       have al:=d4.mp e0
       have:(rs.all λr=>(qD kvs (Sum.inr r.1)).isSome)=true:=List.all_eq_true.mpr λr hr'=>by
         obtain⟨x,hx,rfl⟩:=zin r hr'
         simpa using al x hx
       rw[this]at hb
       cases hb
     | odd od=>
       rename_i D ks
       refine⟨_,rfl,.inr (.inr ⟨D,ks,_,_,rfl,od,kd,_,rfl,jm ⟨_,rfl,.inr ⟨D,ks,rfl,od,_,rfl,l,_,rfl,.inl (.of hl),rfl,_,rfl,?_⟩⟩⟩)⟩
       rw[lp]
       refine jL (λc=>q _ sr) (λc=>?_)
       have eq:ks.length=rs.length:=Classical.byContradiction λz=>c (by rw[decide_eq_false (λy=>z (by have:=V.int.inj y;omega))];rfl)
       rw[decide_eq_true eq,Bool.true_and]at hb
       refine⟨_,rfl,l,rfl,⟨_,.of hl⟩,λD2 hD2=>?_⟩
       refine QZ (K:=K) (a:=l) (xs:=ps.zip rs) (enc:=λx=>V.ref x.1) (out:=λx=>if (!QV ks (.s x.2.1))=true then some (V.ref x.1) else none) (rest:=[some (.ref D)]) hD2 (by rw[ZM rat.1];exact hl) (qp (by rw[List.length_zip];omega)) (λx hx Y sY Rr hR=>?_) (λx hx v ev Y sY Rr hR=>?_) (λG2 s2 hG2=>?_)
       . refine⟨_,rfl,x.1,_,0,_,rfl,rfl,.of (sY _ _ (hqf x hx).1),rfl,_,rfl,.inr ⟨D,x.2.1,ks,rfl,rfl,(okz x hx).1,od.mono sY,_,rfl,?_⟩⟩
         have:=hR Y (qu.refl Y)
         rwa [show (if (!QV ks (.s x.2.1))=true then some (V.ref x.1) else none).isSome=(!QV ks (.s x.2.1)) from by cases (!QV ks (.s x.2.1))<;>rfl]at this
       . have ev:(if (!QV ks (.s x.2.1))=true then some (V.ref x.1) else none)=some v:=ev
         split at ev
         . cases ev
           exact⟨_,rfl,hR Y (qu.refl Y)⟩
         . cases ev
       obtain⟨ds,d1,d2,d3,d4⟩:=ZQ (K:=K) (H:=G2) (λz=> !QV ks (.s z)) (L:=ps.zip rs) λx hx=>⟨⟨qf x,s2 _ _ (hqf x hx).1,s2 _ _ (hqf x hx).2⟩,okz x hx⟩
       refine⟨by decide,λl0 h0=>⟨.list ds,.list [],.lst (.of (qi hG2 h0)) (d1.mono (qj h0)),.lst (.of qd) .nil,J0 d2 (by omega),by decide+kernel,_,rfl,?_⟩⟩
       have s3:=s2.trans (qj (o:=.lst []) h0)
       rw[Zd]
       refine jL (λc2=>q _ s3) (λc2=>?_)
       have e0:ds=[]:=Classical.byContradiction λz=>c2 (by rw[decide_eq_false z];rfl)
       have al:=d4.mp e0
       have:(rs.all λr=>QV ks (.s r.1))=true:=List.all_eq_true.mpr λr hr'=>by
         obtain⟨x,hx,rfl⟩:=zin r hr'
         simpa using al x hx
       rw[this]at hb
       cases hb
   . refine⟨_,rfl,.inr (.inl ⟨D,kvs,_,_,rfl,rd,kd,_,rfl,jm ⟨_,rfl,.inl ⟨D,kvs,rfl,rd,_,rfl,l,_,rfl,.inl (.of hl),rfl,_,rfl,?_⟩⟩⟩)⟩
     rw[lp,len]
     refine QU (by simp) ?_
     refine⟨_,rfl,l,rfl,⟨_,.of hl⟩,λD2 hD2=>?_⟩
     refine QZ (K:=K) (a:=l) (xs:=ps.zip rs) (enc:=λx=>V.ref x.1) (out:=λx=>if (!(qD kvs (Sum.inr x.2.1)).isSome)=true then some (V.ref x.1) else none) (rest:=[some (.ref D)]) hD2 (by rw[ZM rat.1];exact hl) (qp (by rw[List.length_zip];omega)) (λx hx Y sY Rr hR=>?_) (λx hx v ev Y sY Rr hR=>?_) (λG2 s2 hG2=>?_)
     . refine⟨_,rfl,x.1,_,0,_,rfl,rfl,.of (sY _ _ (hqf x hx).1),rfl,_,rfl,.inl ⟨D,_,rfl,jC.r (k:=(Sum.inr x.2.1:qw)) (rd.mono sY),_,rfl,?_⟩⟩
       have:=hR Y (qu.refl Y)
       rwa [show (if (!(qD kvs (Sum.inr x.2.1)).isSome)=true then some (V.ref x.1) else none).isSome=(!(qD kvs (Sum.inr x.2.1)).isSome) from by cases (!(qD kvs (Sum.inr x.2.1)).isSome)<;>rfl]at this
     . have ev:(if (!(qD kvs (Sum.inr x.2.1)).isSome)=true then some (V.ref x.1) else none)=some v:=ev
       split at ev
       . cases ev
         exact⟨_,rfl,hR Y (qu.refl Y)⟩
       . cases ev
     obtain⟨ds,d1,d2,d3,d4⟩:=ZQ (K:=K) (H:=G2) (λz=> !(qD kvs (Sum.inr z)).isSome) (L:=ps.zip rs) λx hx=>⟨⟨qf x,s2 _ _ (hqf x hx).1,s2 _ _ (hqf x hx).2⟩,okz x hx⟩
     refine⟨by decide,λl0 h0=>⟨.list ds,.list [],.lst (.of (qi hG2 h0)) (d1.mono (qj h0)),.lst (.of qd) .nil,J0 d2 (by omega),by decide+kernel,_,rfl,?_⟩⟩
     have s3:=s2.trans (qj (o:=.lst []) h0)
     rw[Zd]
     have e0:ds=[]:=d4.mpr λx hx=>by
       obtain⟨v,e,_⟩:=dat x.2 (inz x hx)
       show (!(qD kvs (Sum.inr x.2.1)).isSome)=false
       rw[e]
       rfl
     rw[decide_eq_true e0]
     refine jm ?_
     generalize upd G2 l0 (.lst [])=H3 at s3 ⊢
     have rd3:=rd.mono s3
     refine⟨_,rfl,D,kvs,rfl,rd3,λo H4 ne hf=>⟨D,o,kvs,rfl,hf,λD5 hD5=>?_⟩⟩
     have f4:∀x ob,x≠D->H x=some ob->H4 x=some ob:=λx ob h e=>(ne x h).trans (s3 x ob e)
     have pv:∀p∈kvs,DV K H p.2 (f (QD p.1))/\(f (QD p.1)).canLay0=true/\(f (QD p.1)).depth<=40:=λp hp=>by
       obtain⟨r,hr',e1,e2⟩:=kin p hp
       obtain⟨v,e3,dv,c1,c2⟩:=dat r hr'
       rw[e2]at e3
       cases e3
       rw[e1]
       exact⟨dv,c1,c2⟩
     refine kR (out:=λp=>if (!(jO (f (QD p.1))).isSome)=true then some p.2 else none) (rest:=[]) hD5 hf (qp (by omega)) (λx hx Y sY Rr hR=>?_) (λx hx v ev Y sY Rr hR=>?_) (λG6 s6 hG6=>?_)
     . obtain⟨dv,c1,c2⟩:=pv x hx
       refine⟨_,rfl,x.2,_,rfl,(dv.fr rd f4).mono sY,c1,c2,λH' s'=>⟨_,rfl,?_⟩⟩
       have:=hR H' s'
       rwa [show (if (!(jO (f (QD x.1))).isSome)=true then some x.2 else none).isSome= !(jO (f (QD x.1))).isSome from by cases (jO (f (QD x.1))).isSome<;>rfl]at this
     . have ev:(if (!(jO (f (QD x.1))).isSome)=true then some x.2 else none)=some v:=ev
       split at ev
       . cases ev
         exact⟨_,rfl,hR Y (λ_ _ z=>z)⟩
       . cases ev
     obtain⟨es,g1,g2,g3,g4⟩:=WL (K:=K) (H:=G6) (f:=f) (λz=> !(jO (f z)).isSome) (L:=kvs) λp hp=>⟨((pv p hp).1.fr rd f4).mono s6,(pv p hp).2⟩
     refine⟨by decide,λl7 h7=>⟨.list es,.list [],.lst (.of (qi hG6 h7)) (g1.mono (qj h7)),.lst (.of qd) .nil,J0 g2 (by omega),by decide+kernel,_,rfl,?_⟩⟩
     have f7:∀x ob,x≠D->H x=some ob->upd G6 l7 (.lst []) x=some ob:=λx ob h e=>qi (s6 _ _ (f4 x ob h e)) h7
     have rd7:Rd (upd G6 l7 (.lst [])) D (.dK kvs):=.inr ⟨o,qi (s6 _ _ hf) h7⟩
     generalize upd G6 l7 (.lst [])=H7 at f7 rd7 ⊢
     rw[Zd]
     have allE:es=[]↔∀r∈rs,(jO (f r.1)).isSome=true:=by
       rw[g4]
       constructor
       . intro h r hr'
         obtain⟨v,e3,_⟩:=dat r hr'
         obtain⟨p,hp,e4⟩:=YD e3
         have:=h p hp
         rw[e4]at this
         simpa [QD] using this
       . intro h p hp
         obtain⟨r,hr',e1,_⟩:=kin p hp
         rw[e1]
         show (!(jO (f r.1)).isSome)=false
         rw[h r hr']
         rfl
     refine jL (λc=>?_) (λc=>?_)
     . refine q _ false f7 rd7 ⟨λz=>(nomatch z),λgd=>?_⟩
       rw[decide_eq_true (allE.mpr gd.1)]at c
       cases c
     . have e1:es=[]:=Classical.byContradiction λz=>c (by rw[decide_eq_false z];rfl)
       have all:=allE.mp e1
       have nl:l≠D:=zb rd hl ⟨λ_ z=>(nomatch z),λ_ _ z=>(nomatch z)⟩
       have hl7:=f7 _ _ nl hl
       have hq7:∀x∈ps.zip rs,H7 x.1=some (.tup [.str x.2.1,.ref (qf x)])/\H7 (qf x)=some (.tup (x.2.2.map V.str)):=λx hx=>⟨f7 _ _ (zb rd (hqf x hx).1 ⟨λ_ z=>(nomatch z),λ_ _ z=>(nomatch z)⟩) (hqf x hx).1,f7 _ _ (zb rd (hqf x hx).2 ⟨λ_ z=>(nomatch z),λ_ _ z=>(nomatch z)⟩) (hqf x hx).2⟩
       have ez:∀r∈rs,∃v,qD kvs (Sum.inr r.1)=some v/\qM K H7 v (Jg f r.1):=λr hr'=>by
         obtain⟨v,e,dv,_⟩:=dat r hr'
         obtain⟨en,ee⟩:=Option.isSome_iff_exists.mp (all r hr')
         refine⟨v,e,?_⟩
         unfold Jg
         rw[ee]
         exact kM (dv.fr rd f7) ee
       classical
       refine⟨_,rfl,l,rfl,⟨_,.of hl7⟩,λD8 hD8=>?_⟩
       refine xQ (K:=K) (a:=l) (xs:=ps.zip rs) (enc:=λx=>x.1) (fa:=λx=>.str x.2.1) (fb:=λx=>.ref (qf x)) (out:=λx=>if zX (Jg f x.2.1) (x.2.2.map (Jg f)) then none else some (V.str x.2.1)) (rest:=[some (.ref D)]) hD8 (by rw[ZM rat.1];exact hl7) (qp (by rw[List.length_zip];omega)) (λx hx=>.of (hq7 x hx).1) (λx hx Y sY Rr hR=>?_) (λx hx v ev Y sY Rr hR=>?_) (λG9 s9 hG9=>?_)
       . refine⟨_,rfl,_,rfl,_,rfl,D,qf x,x.2.2,x.2.1,kvs,Jg f,rfl,rd7.mono sY,sY _ _ (hq7 x hx).2,?_,λy hy=>?_,λH' b s' hb=>⟨_,rfl,?_⟩⟩
         . exact Nat.le_trans (vY (List.mem_map.mpr ⟨_,inz x hx,rfl⟩)) good.few
         . have:∃r∈rs,r.1=y:=by
             rcases List.mem_cons.mp hy with rfl | hy
             . exact⟨_,inz x hx,rfl⟩
             . exact List.mem_map.mp (good.to _ (inz x hx) y hy)
           obtain⟨r,hr',rfl⟩:=this
           obtain⟨v,e,E⟩:=ez r hr'
           exact⟨v,e,E.mono sY⟩
         . have:=hR H' s'
           by_cases c:zX (Jg f x.2.1) (x.2.2.map (Jg f))
           . rw[if_pos c]at this
             rw[hb.mpr c]
             exact this
           . rw[if_neg c]at this
             have e:b=false:=by
               cases b with
               | false=>rfl
               | true=>exact absurd (hb.mp rfl) c
             rw[e]
             exact this
       . have ev:(if zX (Jg f x.2.1) (x.2.2.map (Jg f)) then none else some (V.str x.2.1))=some v:=ev
         split at ev
         . cases ev
         . cases ev
           exact⟨_,rfl,hR Y (λ_ _ z=>z)⟩
       . have e9:(ps.zip rs).filterMap (λx=>if zX (Jg f x.2.1) (x.2.2.map (Jg f)) then none else some (V.str x.2.1))=((ps.zip rs).filterMap λx=>if zX (Jg f x.2.1) (x.2.2.map (Jg f)) then none else some x.2.1).map V.str:=by
           rw[List.map_filterMap]
           congr 1
           funext x
           split<;>rfl
         rw[e9]at hG9
         generalize hN:((ps.zip rs).filterMap λx=>if zX (Jg f x.2.1) (x.2.2.map (Jg f)) then none else some x.2.1)=ns at hG9
         have okn:∀z∈ns,PyData.strOk z=true:=λz hz=>by
           rw[<-hN]at hz
           obtain⟨x,hx,e⟩:=List.mem_filterMap.mp hz
           split at e
           . cases e
           . cases e
             exact(okz x hx).1
         obtain⟨c1,c2⟩:=YF okn
         refine⟨by decide,λl10 h10=>⟨.list (ns.map PyData.str),.list [],.lst (.of (qi hG9 h10)) (Y5 ns),.lst (.of qd) .nil,J0 c1 (by omega),by decide+kernel,q _ _ (λx ob h e=>qi (s9 _ _ (f7 x ob h e)) h10) ((rd7.mono s9).mono (qj h10)) ?_⟩⟩
         rw[Zd,decide_eq_true_iff,List.map_eq_nil_iff,<-hN,List.filterMap_eq_nil_iff]
         have fm:∀r∈rs,zX (Jg f r.1) (r.2.map (Jg f))↔zX (Jg f r.1) ((zT rs r.1).map (Jg f)):=λr hr'=>zX.mem λy=>by
           rw[Zc good.nd hr',List.mem_map,List.mem_map]
           exact⟨λ⟨z,h1,h2⟩=>⟨z,(Xu good hr').mpr h1,h2⟩,λ⟨z,h1,h2⟩=>⟨z,(Xu good hr').mp h1,h2⟩⟩
         constructor
         . refine λh=>⟨all,λr hr'=>?_⟩
           obtain⟨x,hx,rfl⟩:=zin r hr'
           refine(fm _ hr').mp (Classical.byContradiction λc=>?_)
           have:=h x hx
           rw[if_neg c]at this
           cases this
         . intro h x hx
           rw[if_pos ((fm _ (inz x hx)).mpr (h.2 _ (inz x hx)))]
end
end Rh
set_option Elab.async false
set_option linter.all false
set_option maxRecDepth 100000
set_option maxHeartbeats 4000000
namespace Rh
open PySem L2 PyProof.Rows MPlay
theorem _root_.L2.DW.mono {K:PySem.W.Frag} {H H':Hp} (s:qu H H') {x:V} {d:PyData} (h:DW K H x d):DW K H' x d:=h.keep λb u _ r=>r.mono s
theorem _root_.L2.DWd.mono {K:PySem.W.Frag} {H H':Hp} (s:qu H H') {kvs:List (qw×V)} {ds:List (qw×PyData)} (h:DWd K H kvs ds):DWd K H' kvs ds:=Paired.mapP h λ_ _ z=>⟨z.1,z.2.mono s⟩
theorem _root_.L2.DWo.mono {K:PySem.W.Frag} {H H':Hp} (s:qu H H') {kvs:List OV} {ds:List (OK×PyData)} (h:DWo K H kvs ds):DWo K H' kvs ds:=Paired.mapP h λ_ _ z=>⟨z.1,z.2.mono s⟩
theorem _root_.L2.RW.mono {P:Program} {w:World} {K:PySem.W.Frag} {H H':Hp} (s:qu H H') {v:V} {d:PyData} (h:RW P w K H v d):RW P w K H' v d:=by
 cases h with
 | dat h=>exact .dat (h.mono s)
 | dk r h=>exact .dk (r.mono s) (h.mono s)
 | odd o h=>exact .odd (o.mono s) (h.mono s)
structure Tl (d:PyData):Prop where
 sh:d.showable=true
 dp:d.depth<=60
 ln:d.shown.length<=sizeLine
 nt:∀i,d=.int i->i.natAbs.log2 < 1920
def UO (P:Program) (w:World) (K:PySem.W.Frag) (CG:Addr):Sp:=λvs H Q _=>∃(g:Addr) (v:V) (due:Bool) (rs:jF) (d:PyData),vs=[.ref g,v,.bl due]/\Q8 CG H g rs/\qO rs/\rs.length<=14/\RW P w K H v d/\Tl d/\
 ((Pl P w K H rs v false/\due=false)\/∃D kvs f,v=.ref D/\Rd H D (.dK kvs)/\kvs.length=rs.length/\zR K H kvs rs f/\(due=true↔kZ rs f))/\∀H',qu H H'->Q (.bl true) H'
section
variable {P:Program} {w:World} {K:PySem.W.Frag} {mg:Str->Option Value} {base:Heap}
abbrev GU:List Str:=["_law_ground","_law_thing","_law_due","_law_kept","_law_found"]
abbrev GJ:List Str:=["_law_ground","_law_thing","_law_due"]
theorem wY:qJ GU GJ (qt WZ):=⟨rfl,rfl,rfl,by decide+kernel,rfl,by decide+kernel,by decide+kernel⟩
theorem yS {f CG fS:Addr} {fd fdS:FuncData} (F:Qw K "_law_told" "_law_told" WZ f fd) (TI:ZL K mg) (rep:mg "repr"=none) (hS:jT K mg "shows_single" Z0 uz fS fdS) (GS:qI P w K mg base ji 4 fS fdS uz (YG P w K CG)):qI P w K mg base ji 5 f fd GJ (UO P w K CG):=by
 refine F.okJ wY (λvs H Q E h=>?_) (λcdv A outer s H vs Q E hr h=>?_)
 . obtain⟨g,v,due,rs,d,rfl,_⟩:=h
   rfl
 . obtain⟨g,v,due,rs,d,rfl,gr,good,le14,rw',tl,h,q⟩:=h
   refine⟨_,qg (qC (i:=3) wY.nd rfl (Or.inl rfl) (qo (zL hr.gd hr.units) (by rfl) rep boot_repr (qb (jv 1) qe)))
     (qg (qC (i:=4) wY.nd rfl (Or.inl rfl) (qX hS GS hr (by rfl) (qb (jv 0) (qb (jv 1) qe))))
     (ql (qG (jS (qo jB (by rfl) TI.isi boot_isinstance (qb (jv 4) (qb (jI (v:=.ty "bool") (by rfl) TI.bool boot_bool rfl) qe)))
       (jS (qP jg (jv 4) (jv 2) (qr _)) (Qh (qP jg (qo (zL hr.gd hr.units) (by rfl) rep boot_repr (qb (jv 1) qe)) (jv 3) (qr _)))))))),?_⟩
   refine⟨_,rfl,v,d,rfl,rw',tl.sh,tl.dp,tl.ln,tl.nt,?_⟩
   refine⟨_,rfl,_,rfl,g,v,rs,rfl,gr,good,le14,?_⟩
   have fin:∀H' b,qu H H'->b=due->Ke (UL (Ks (vc K) (ju (qZ 4) (ju (tC (.ty "bool")) QN))) (UL (Ju wu (qZ 4) (qZ 2)) (Ju wu (Ks (U9 P w K) (ju (qZ 1) QN)) (qZ 3)))) {nx:=λ_ H'=>Q V.non H',rt:=Q} [some (.ref g),some v,some (.bl due),some (.str d.shown),some (.bl b)] H':=λH' b s' e=>by
     subst e
     refine⟨_,rfl,_,_,.bool b,_,rfl,.bl b,TI.at (.bool b),_,rfl,j0 ?_⟩
     refine⟨_,rfl,_,rfl,by cases b<;>rfl,_,rfl,?_⟩
     rw[decide_eq_true rfl]
     refine j0 ⟨_,rfl,v,d,rfl,rw'.mono s',tl.sh,tl.dp,tl.ln,tl.nt,_,rfl,rfl,?_⟩
     rw[decide_eq_true rfl]
     exact q H' s'
   rcases h with ⟨pl,e⟩ | ⟨D,kvs,f,rfl,rd,len,dat,e⟩
   . exact .inl ⟨pl,λH' s'=>fin H' false s' e.symm⟩
   . refine .inr ⟨D,kvs,f,rfl,rd,len,dat,λH' b s' hb=>fin H' b s' ?_⟩
     rw[Bool.eq_iff_iff]
     exact hb.trans e.symm
end
end Rh
set_option Elab.async false
set_option linter.all false
set_option maxRecDepth 100000
set_option maxHeartbeats 4000000
namespace Rh
open PySem L2 PyProof.Rows MPlay
theorem zo {z:Str} (h:jo z=true):(∀c∈z.cps.toList,c<=122)/\z.length<=8:=by
 unfold jo at h
 simp only[Bool.and_eq_true,decide_eq_true_eq]at h
 refine⟨λc hc=>?_,h.1.2⟩
 have:=List.all_eq_true.mp h.2 c hc
 unfold jy at this
 simp only[Bool.and_eq_true,decide_eq_true_eq]at this
 exact this.2
structure Sm (d:PyData) (k L:Nat):Prop where
 sh:d.showable=true
 nd:d.hasDict=false
 dp:d.depth<=k
 ln:d.shown.length<=L
theorem US {d e:PyData} {k L M:Nat} (a:Sm d k L) (b:Sm e k M):Sm (.tuple [d,e]) (k+1) (L+M+7):=by
 refine⟨?_,?_,?_,?_⟩
 . show (d.showable&&(e.showable&&true))=true
   rw[a.sh,b.sh];rfl
 . show (d.hasDict || (e.hasDict || false))=false
   rw[a.nd,b.nd];rfl
 . have:=a.dp
   have:=b.dp
   simp only[PyData.depth,PyData.depthAll]
   omega
 . show (tupleText [d.shown,e.shown]).length<=_
   have h1:=tupleText_len_le [d.shown,e.shown]
   have:=a.ln
   have:=b.ln
   simp only[List.map_cons,List.map_nil,List.sum_cons,List.sum_nil,List.length_cons,List.length_nil]at h1
   omega
theorem Wc {k L:Nat}:∀{ds:List PyData},(∀d∈ds,Sm d k L)->PyData.showableAll ds=true/\PyData.hasDictAll ds=false/\PyData.depthAll ds<=k/\((PyData.shownAll ds).map (·.length)).sum<=L*ds.length/\(PyData.shownAll ds).length=ds.length
 | [],_=>⟨rfl,rfl,Nat.zero_le _,Nat.zero_le _,rfl⟩
 | d::ds,h=>by
   obtain⟨a,b,c,e,f⟩:=Wc λy hy=>h y (List.mem_cons_of_mem _ hy)
   have g:=h d List.mem_cons_self
   refine⟨?_,?_,?_,?_,?_⟩
   . rw[PyData.showableAll,g.sh,a];rfl
   . rw[PyData.hasDictAll,g.nd,b];rfl
   . rw[PyData.depthAll]
     have:=g.dp
     omega
   . rw[PyData.shownAll,List.map_cons,List.sum_cons,List.length_cons,Nat.mul_add]
     have:=g.ln
     omega
   . rw[PyData.shownAll,List.length_cons,List.length_cons,f]
theorem Wb {k L:Nat} {ds:List PyData} (h:∀d∈ds,Sm d k L):Sm (.list ds) (k+1) (L*ds.length+2*ds.length+3):=by
 obtain⟨a,b,c,e,f⟩:=Wc h
 refine⟨a,b,?_,?_⟩
 . simp only[PyData.depth]
   omega
 . show (listText (PyData.shownAll ds)).length<=_
   have h1:=listText_len_le (PyData.shownAll ds)
   rw[f]at h1
   omega
theorem JZ {z:Str} (h:jo z=true):Sm (.str z) 0 82:=by
 refine⟨rfl,rfl,Nat.le_refl _,?_⟩
 have h1:=StrLaws.reprText_len z λc hc=>Nat.lt_of_le_of_lt ((zo h).1 c hc) (by decide)
 have h2:=(zo h).2
 show (reprText z).length<=82
 omega
theorem WY (b:Bool):Sm (.str (qY b)) 0 82:=by cases b<;>exact⟨rfl,rfl,Nat.le_refl _,by decide+kernel⟩
theorem wm:∀{ds:List (PyData×PyData)},(∀x∈ds,Sm x.1 3 1000/\Sm x.2 3 1000)->PyData.showableKv ds=true/\PyData.depthKv ds<=3/\piled (PyData.shownKv ds)<=2004*ds.length/\(PyData.shownKv ds).length=ds.length
 | [],_=>⟨rfl,Nat.zero_le _,Nat.le_refl _,rfl⟩
 | (k,v)::ds,h=>by
   obtain⟨a,b,c,e⟩:=wm λy hy=>h y (List.mem_cons_of_mem _ hy)
   obtain⟨g,g'⟩:=h (k,v) List.mem_cons_self
   have l1:=g.ln
   have l2:=g'.ln
   have l1:k.shown.length<=1000:=l1
   have l2:v.shown.length<=1000:=l2
   refine⟨?_,?_,?_,?_⟩
   . rw[PyData.showableKv,show k.showable=true from g.sh,show v.showable=true from g'.sh,a];rfl
   . rw[PyData.depthKv]
     have:=g.dp
     have:=g'.dp
     simp only at*
     omega
   . rw[PyData.shownKv,List.length_cons]
     have e1:(k.shown++": "++v.shown).length=k.shown.length+2+v.shown.length:=by rw[strLen_append,strLen_append];rfl
     unfold piled at c ⊢
     simp only[List.map_cons,List.sum_cons,List.length_cons,e1]at*
     omega
   . rw[PyData.shownKv,List.length_cons,List.length_cons,e]
theorem WO {ds:List (PyData×PyData)} (h:∀x∈ds,Sm x.1 3 1000/\Sm x.2 3 1000) (l:ds.length<=100):Tl (.dict ds):=by
 obtain⟨a,b,c,e⟩:=wm h
 refine⟨a,?_,?_,λi z=>nomatch z⟩
 . simp only[PyData.depth]
   omega
 . show (dictText (PyData.shownKv ds)).length<=_
   have e1:(dictText (PyData.shownKv ds)).length=1+(Str.join ", " (PyData.shownKv ds)).length+1:=by
     unfold dictText
     rw[strLen_append,strLen_append];rfl
   rw[e1,sizeLine_eq]
   by_cases nil:PyData.shownKv ds=[]
   . rw[nil];decide
   . have:=join_length_add _ nil
     omega
theorem Sm.more {d:PyData} {k L k' L':Nat} (h:Sm d k L) (a:k<=k') (b:L<=L'):Sm d k' L':=⟨h.sh,h.nd,Nat.le_trans h.dp a,Nat.le_trans h.ln b⟩
end Rh
set_option Elab.async false
set_option linter.all false
set_option maxRecDepth 100000
set_option maxHeartbeats 4000000
namespace Rh
open PySem L2 PyProof.Rows MPlay
def wk (K:PySem.W.Frag):Sp:=λvs H Q _=>∃(l d:Addr) (ps:List Addr) (rs:jF) (n s t:Int),vs=[.ref l,.ref d]/\H l=some (.lst (ps.map V.ref))/\jh H ps rs/\qO rs/\rs.length<=14/\H d=some (.dK (src n s t))/\
 ∀(D:Addr) (kvs:List (qw×V)) (fe:Str->En) (n' t':Int) (H':Hp),H D=none->H' D=some (.dK kvs)->kvs.map (·.1)=(rs.map (·.1)).map Sum.inr->(∀r∈rs,∃v,qD kvs (Sum.inr r.1)=some v/\qM K H' v (fe r.1))->(∀z b n,fe z=some (b,n)->0<=n/\n < 14)->H' d=some (.dK (src n' s t'))->Fr H d H'->Q (.ref D) H'
theorem Q9 {a b:V}:[a,b].length<=sizeLine:=by show 2<=sizeLine;decide
theorem KJ {r:Int} (h0:0<=r) (h1:r < 3):∃o:Option Bool,JJ [V.str (Str.ofString "lost"),.str (Str.ofString "won"),.str (Str.ofString "drawn")] r=some (.str (WI (o.map λb=>(b,0)))):=by
 have:r=0\/r=1\/r=2:=by omega
 rcases this with rfl | rfl | rfl
 . exact⟨some false,rfl⟩
 . exact⟨some true,rfl⟩
 . exact⟨none,rfl⟩
theorem uf (o:Option Bool) (k:Int):∃v,JJ [V.int k,.non] (if decide (V.str (WI (o.map λb=>(b,(0:Int))))=V.str (Str.ofString "drawn"))=true then 1 else 0)=some v/\[V.str (WI (o.map λb=>(b,(0:Int)))),v]=Y4 (o.map λb=>(b,k)):=by
 cases o with
 | none=>exact⟨.non,by show JJ _ (if decide (V.str (Str.ofString "drawn")=V.str (Str.ofString "drawn"))=true then (1:Int) else 0)=_;rw[if_pos (decide_eq_true rfl)];rfl,rfl⟩
 | some b=>
   have ne:¬qY b=Str.ofString "drawn":=by have:=UA b;exact λz=>by rw[z]at this;simp at this
   exact⟨.int k,by show JJ _ (if decide (V.str (qY b)=V.str (Str.ofString "drawn"))=true then (1:Int) else 0)=_;rw[if_neg (show ¬decide (V.str (qY b)=V.str (Str.ofString "drawn"))=true by rw[decide_eq_false (λz=>ne (V.str.inj z))];decide)];rfl,rfl⟩
section
variable {P:Program} {w:World} {K:PySem.W.Frag} {mg:Str->Option Value} {base:Heap}
abbrev nDr:List Str:=["_law_rows_here","_law_source_here","_law_found","_law_name","_law_leads_here","_law_word"]
abbrev GQ:List Str:=["_law_rows_here","_law_source_here"]
theorem U0:qJ nDr GQ (qt YN):=⟨rfl,rfl,rfl,by decide+kernel,rfl,by decide+kernel,by decide+kernel⟩
theorem vO {f fT:Addr} {fd fdT:FuncData} (F:Qw K "_law_drawn" "_law_drawn" YN f fd) (B:JU mg) (hT:jT K mg "_law_take" Jz ["_law_source_here","_law_many"] fT fdT):qI P w K mg base ji 2 f fd GQ (wk K):=by
 have GT:qI P w K mg base ji 1 fT fdT ["_law_source_here","_law_many"] Ja:=QR hT.fn
 refine F.okJ U0 (λvs H Q E h=>?_) (λcdv A outer s H vs Q E hr h=>?_)
 . obtain⟨l,d,ps,rs,n,s,t,rfl,_⟩:=h
   rfl
 . obtain⟨l,d,ps,rs,n,s0,t,rfl,hl,rat,good,le14,hd,q⟩:=h
   have hu:=jN hr
   refine⟨_,qg (qC (i:=2) U0.nd rfl (Or.inl rfl) j8)
     (qg (jK PassesOwn.never rfl (qT (jv 0)) (zu rfl (jM (qz (i:=3) U0.nd rfl (Or.inl rfl)) (jM (qz (i:=4) U0.nd rfl (Or.inl rfl)) Zb)))
       (qg (qC (i:=5) U0.nd rfl (Or.inl rfl) (qH jl (jk (qb qB (qb qB (qb qB qe)))) (qX hT GT hr (by rfl) (qb (jv 1) (qb qh qe))) (λ_ _=>rfl)))
       (ql (jz hu (jv 2) (jv 3) (qW (qb (jv 5) (qb (qH jl (jk (qb (qX hT GT hr (by rfl) (qb (jv 1) (qb qh qe))) (qb QT qe)))
         (jE Js (by rfl) B.int boot_int (qb (qP jg (jv 5) qB (qr _)) qe)) (λ_ _=>rfl)) qe))) rfl))))
     (ql (qG (jv 2)))),?_⟩
   intro D hD
   have nDl:l≠D:=qE hl hD
   have nDd:d≠D:=qE hd hD
   refine⟨_,rfl,l,rfl,⟨_,.of (qi hl hD)⟩,?_⟩
   refine Qa (K:=K) (a:=l) (xs:=ps.map V.ref) (λi σ' H'=>∃v3 v4 v5 kvs fe n' t',σ'=[some (.ref l),some (.ref d),some (.ref D),v3,v4,v5]/\Fr H d H'/\H' d=some (.dK (src n' s0 t'))/\H' D=some (.dK kvs)/\kvs.map (·.1)=((rs.map (·.1)).take i).map Sum.inr/\
     (∀r∈rs.take i,∃v,qD kvs (Sum.inr r.1:qw)=some v/\qM K H' v (fe r.1))/\∀z b n,fe z=some (b,n)->0<=n/\n < 14)
     ⟨none,none,none,[],λ_=>none,n,t,rfl,λb o h _=>qi h hD,qi hd hD,qd,rfl,λr h=>(nomatch h),λz b n e=>(nomatch e)⟩ (λi σ' H' _ ⟨_,_,_,_,_,_,_,_,fr,_⟩=>.of (fr _ _ hl (Qx hl hd (λz=>nomatch z)))) ?_ ?_
   . rintro i y σ' H' hy ⟨v3,v4,v5,kvs,fe,n',t',rfl,fr,hd',hD',ek,hv,bd⟩
     rw[List.getElem?_map]at hy
     cases ep:ps[i]? with
     | none=>rw[ep]at hy;cases hy
     | some p=>
       rw[ep]at hy
       obtain rfl:=(Option.some.inj hy).symm
       have li:i < rs.length:=by rw[<-rat.1];exact(List.getElem?_eq_some_iff.mp ep).1
       have er:rs[i]?=some rs[i]:=List.getElem?_eq_getElem li
       generalize rs[i]=r at er
       obtain⟨q',h1,h2⟩:=rat.2 i p r ep er
       have hr':r∈rs:=List.mem_of_getElem? er
       refine⟨p,_,rfl,.of (fr _ _ h1 (Qx h1 hd (λz=>nomatch z))),rfl,_,_,rfl,_,_,rfl,rfl,?_⟩
       refine⟨by decide,λl1 hl1=>⟨_,rfl,d,3,n',s0,t',rfl,qi hd' hl1,by decide,by decide,λr1 n2 t2 r0 r3=>?_⟩⟩
       obtain⟨o,eo⟩:=KJ r0 r3
       have nl1:l1≠d:=λz=>by rw[z,hd']at hl1;cases hl1
       refine⟨l1,_,r1,_,rfl,rfl,.of (by rw[qk nl1];exact qd),eo,?_⟩
       have s2:Fr H' d (upd (upd H' l1 (.lst [V.str (Str.ofString "lost"),.str (Str.ofString "won"),.str (Str.ofString "drawn")])) d (.dK (src n2 s0 t2))):=Fr.at_d (Fr.new Fr.refl hl1)
       have hd2:upd (upd H' l1 (.lst [V.str (Str.ofString "lost"),.str (Str.ofString "won"),.str (Str.ofString "drawn")])) d (.dK (src n2 s0 t2)) d=some (.dK (src n2 s0 t2)):=qd
       generalize upd (upd H' l1 (.lst [V.str (Str.ofString "lost"),.str (Str.ofString "won"),.str (Str.ofString "drawn")])) d (.dK (src n2 s0 t2))=H2 at s2 hd2
       refine⟨_,rfl,_,rfl,d,4,n2,s0,t2,rfl,hd2,by decide,by decide,λk n3 t3 k0 k4=>⟨Q9,λl2 hl2=>?_⟩⟩
       have s3:Fr H' d (upd (upd H2 d (.dK (src n3 s0 t3))) l2 (.lst [.int k,.non])):=Fr.new (Fr.at_d s2) hl2
       have hd3:upd (upd H2 d (.dK (src n3 s0 t3))) l2 (.lst [.int k,.non]) d=some (.dK (src n3 s0 t3)):=qi qd hl2
       have hl3:upd (upd H2 d (.dK (src n3 s0 t3))) l2 (.lst [.int k,.non]) l2=some (.lst [.int k,.non]):=qd
       generalize upd (upd H2 d (.dK (src n3 s0 t3))) l2 (.lst [.int k,.non])=H3 at s3 hd3 hl3
       obtain⟨v,ev,een⟩:=uf o k
       refine⟨_,rfl,rfl,.inr ⟨_,rfl,l2,_,_,v,rfl,rfl,.of hl3,ev,Q9,λp2 hp2=>?_⟩⟩
       have nd:d≠D:=nDd
       have hD3:=s3 _ _ hD' (Ne.symm nd)
       have en:(rs.map (·.1))[i]?=some r.1:=by rw[List.getElem?_map,er];rfl
       have ez:qD kvs (Sum.inr r.1:qw)=none:=j6 (by rw[ek];exact Ql good.nd en)
       have lk:kvs.length < sizeLine:=by
         have:=congrArg List.length ek
         rw[List.length_map,List.length_map,List.length_take,List.length_map]at this
         exact qp (by omega)
       refine⟨_,rfl,_,rfl,D,_,rfl,Qu.k (k:=(Sum.inr r.1:qw)) (qi hD3 hp2) lk,?_⟩
       have np2:p2≠D:=λz=>by rw[z,hD3]at hp2;cases hp2
       have npd:p2≠d:=λz=>by rw[z,hd3]at hp2;cases hp2
       refine⟨_,_,_,_,λz=>if z=r.1 then o.map (λb=>(b,k)) else fe z,n3,t3,rfl,?_,?_,qd,?_,λr' hr2=>?_,λz b m e=>?_⟩
       . exact λb u hb hn=>by
           rw[qk (qE hb hD)]
           exact qi (s3 _ _ (fr b u hb hn) hn) hp2
       . rw[qk nd]
         exact qi hd3 hp2
       . rw[J5 _ ez,ek,List.take_add_one,en,List.map_append]
         rfl
       . rw[List.take_add_one,er]at hr2
         rcases List.mem_append.mp hr2 with h | h
         . obtain⟨v1,a1,b1⟩:=hv r' h
           have ne:¬r'.1=r.1:=λz=>by rw[z,ez]at a1;cases a1
           refine⟨v1,?_,?_⟩
           . rw[Qp,if_neg]
             . exact a1
             . exact λz=>ne (Sum.inr.inj z)
           . show qM K _ v1 (if r'.1=r.1 then _ else fe r'.1)
             rw[if_neg ne]
             obtain⟨pp,e1,sq⟩:=b1
             refine qM.put ⟨pp,e1,?_⟩ (qi hD3 hp2)
             rcases sq with (h | ⟨u,h⟩) | h
             . exact .inl (.inl (qi (s3 _ _ h (Qx h hd' (λz=>nomatch z))) hp2))
             . exact .inl (.inr ⟨u,qi (s3 _ _ h (Qx h hd' (λz=>nomatch z))) hp2⟩)
             . exact .inr h
         . have er':r'=r:=by simpa using h
           subst er'
           refine⟨.ref p2,by rw[Qp,if_pos rfl],?_⟩
           show qM K _ _ (if r'.1=r'.1 then _ else _)
           rw[if_pos rfl]
           exact⟨p2,rfl,.of (by rw[qk np2,<-een];exact qd)⟩
       . have e:(if z=r.1 then o.map (λb=>(b,k)) else fe z)=some (b,m):=e
         by_cases c:z=r.1
         . rw[if_pos c]at e
           cases o with
           | none=>cases e
           | some b'=>cases e;exact⟨k0,by omega⟩
         . rw[if_neg c]at e
           exact bd z b m e
   . rintro σ' H' ⟨v3,v4,v5,kvs,fe,n',t',rfl,fr,hd',hD',ek,hv,bd⟩
     rw[List.length_map,rat.1,List.take_of_length_le (by rw[List.length_map];exact Nat.le_refl _)]at ek
     rw[List.length_map,rat.1,List.take_of_length_le (Nat.le_refl _)]at hv
     exact⟨_,rfl,q D kvs fe n' t' H' hD hD' ek hv bd hd' fr⟩
end
end Rh
set_option Elab.async false
set_option linter.all false
set_option maxRecDepth 100000
set_option maxHeartbeats 4000000
namespace Rh
open PySem L2 PyProof.Rows MPlay
def G1 (K:PySem.W.Frag) (H:Hp) (v:V):Prop:=∃d,DW K H v d/\Sm d 3 1000/\d.canLay0=true
theorem G1.mono {K:PySem.W.Frag} {H H':Hp} {v:V} (s:qu H H') (h:G1 K H v):G1 K H' v:=let ⟨d,a,b⟩:=h;⟨d,a.mono s,b⟩
inductive F1:V->PyData->Prop
 | non:F1 .non .none
 | bl (b:Bool):F1 (.bl b) (.bool b)
 | int {i:Int}:-100<=i->i<=100->F1 (.int i) (.int i)
 | str {x:Str}:Sm (.str x) 0 82->PyData.strOk x=true->F1 (.str x) (.str x)
theorem Kx:∀n:Nat,n<=100->((PyData.int (n:Int)).showable=true/\(PyData.int (n:Int)).shown.length<=82)/\((PyData.int (-(n:Int))).showable=true/\(PyData.int (-(n:Int))).shown.length<=82):=by decide+kernel
theorem F1.sm {v:V} {d:PyData} (h:F1 v d):Sm d 0 82:=by
 cases h with
 | non=>exact⟨rfl,rfl,Nat.le_refl _,by decide+kernel⟩
 | bl b=>cases b<;>exact⟨rfl,rfl,Nat.le_refl _,by decide+kernel⟩
 | @int i a b=>
   rcases Int.le_total 0 i with h | h
   . obtain⟨n,rfl⟩:=Int.eq_ofNat_of_zero_le h
     have:=(Kx n (by omega)).1
     exact⟨this.1,rfl,Nat.le_refl _,this.2⟩
   . obtain⟨n,hn⟩:=Int.eq_ofNat_of_zero_le (show 0<=-i by omega)
     have e:i=-(n:Int):=by omega
     subst e
     have:=(Kx n (by omega)).2
     exact⟨this.1,rfl,Nat.le_refl _,this.2⟩
 | str s _=>exact s
theorem F1.lay {v:V} {d:PyData} (h:F1 v d):d.canLay0=true:=by
 cases h with
 | str _ o=>exact o
 | _=>rfl
theorem F1.dw {K:PySem.W.Frag} {H:Hp} {v:V} {d:PyData} (h:F1 v d):DW K H v d:=by
 cases h with
 | non=>exact .non
 | bl b=>exact .bl b
 | int _ _=>exact .int _
 | str _ _=>exact .str _
theorem UT {k L:Nat} {ds:List PyData} (h:∀d∈ds,Sm d k L):Sm (.tuple ds) (k+1) (L*ds.length+2*ds.length+3):=by
 obtain⟨a,b,c,e,f⟩:=Wc h
 refine⟨a,b,?_,?_⟩
 . simp only[PyData.depth]
   omega
 . show (tupleText (PyData.shownAll ds)).length<=_
   have h1:=tupleText_len_le (PyData.shownAll ds)
   rw[f]at h1
   omega
inductive k7:List V->List PyData->Prop
 | nil:k7 [] []
 | cons {v:V} {d:PyData} {vs:List V} {ds:List PyData}:F1 v d->k7 vs ds->k7 (v::vs) (d::ds)
theorem k7.dws {K:PySem.W.Frag} {H:Hp}:∀{vs:List V} {ds:List PyData},k7 vs ds->DWs K H vs ds
 | _,_,.nil=>.nil
 | _,_,.cons h t=>.cons h.dw (k7.dws t)
theorem k7.all:∀{vs:List V} {ds:List PyData},k7 vs ds->(∀d∈ds,Sm d 0 82)/\PyData.canLayAll0 ds=true/\ds.length=vs.length
 | _,_,.nil=>⟨λd h=>(nomatch h),rfl,rfl⟩
 | _,_,.cons (d:=d) h t=>by
   obtain⟨a,b,c⟩:=k7.all t
   refine⟨λe he=>?_,?_,by rw[List.length_cons,List.length_cons,c]⟩
   . rcases List.mem_cons.mp he with rfl | he
     . exact h.sm
     . exact a e he
   . show (d.canLay0&&PyData.canLayAll0 _)=true
     rw[h.lay,b]
     rfl
theorem F1.g {K:PySem.W.Frag} {H:Hp} {v:V} {d:PyData} (h:F1 v d):G1 K H v:=⟨d,h.dw,h.sm.more (by decide) (by decide),h.lay⟩
theorem Yp {K:PySem.W.Frag} {H:Hp} {p:Addr} {vs:List V} {ds:List PyData} (h:k7 vs ds) (l:vs.length<=3) (sq:SqT K H p vs):G1 K H (.ref p):=by
 obtain⟨a,b,c⟩:=h.all
 exact⟨.tuple ds,.tup sq h.dws,(UT a).more (by decide) (by rw[c];omega),b⟩
theorem Gb {K:PySem.W.Frag} {H:Hp} {p:Addr} {vs:List V} {ds:List PyData} (h:k7 vs ds) (l:vs.length<=3) (sq:SqL K H p vs) (n:p≠sysModules):G1 K H (.ref p):=by
 obtain⟨a,b,c⟩:=h.all
 exact⟨.list ds,.lst sq n h.dws,(Wb a).more (by decide) (by rw[c];omega),b⟩
def FE (te:TE) (σ:L2.St) (H:Hp) (x:V):Prop:=∀H1,qu H H1->∀Q:VK,(∀H2,qu H1 H2->Q x H2)->te σ H1 Q
def GE (K:PySem.W.Frag) (te:TE) (σ:L2.St) (H:Hp):Prop:=∀H1,qu H H1->∀Q:VK,(∀v H2,qu H1 H2->G1 K H2 v->Q v H2)->te σ H1 Q
def GA (K:PySem.W.Frag) (ta:TA) (σ:L2.St) (H:Hp) (n:Nat):Prop:=∀H1,qu H H1->∀Q:List V->Hp->Prop,(∀xs H2,qu H1 H2->xs.length=n->(∀x∈xs,G1 K H2 x)->Q xs H2)->ta σ H1 Q
section
variable {K:PySem.W.Frag} {σ:L2.St} {H:Hp}
theorem GA.nil:GA K QN σ H 0:=λH1 _ Q q=>q [] H1 (qu.refl H1) rfl λx hx=>(nomatch hx)
theorem GA.cons {te:TE} {ta:TA} {n:Nat} (a:GE K te σ H) (b:GA K ta σ H n):GA K (ju te ta) σ H (n+1):=λH1 s1 Q q=>a H1 s1 _ λv H2 s2 g=>b H2 (s1.trans s2) _ λxs H3 s3 l gs=>q (v::xs) H3 (s2.trans s3) (by rw[List.length_cons,l]) λx hx=>by
 rcases List.mem_cons.mp hx with rfl | hx
 . exact g.mono s3
 . exact gs x hx
theorem GA.run {ta:TA} {n:Nat} {Q:List V->Hp->Prop} (h:GA K ta σ H n) (k:∀xs H2,qu H H2->xs.length=n->(∀x∈xs,G1 K H2 x)->Q xs H2):ta σ H Q:=h H (qu.refl H) Q k
theorem nxI {D:QE} {σ:L2.St} {H:Hp} (h:D.nx σ H):Xn D σ H:=h
theorem GZ {i:Nat} {v:V} {σ:L2.St} {H:Hp} {D:QE} (h:D.nx (σ.set i (some v)) H):j9 i v σ H D.nx:=h
theorem wW {a b:TS} {D:QE} {σ:L2.St} {H:Hp} (h:a {D with nx:=b D} σ H):yi a b D σ H:=h
theorem uY {te:TE} {g:TG} {D:QE} {σ:L2.St} {H:Hp} (h:te σ H λv H'=>g v σ H' D.nx):UK te g D σ H:=h
theorem xm {t:TA} {σ:L2.St} {H:Hp} {Q:VK} (h:t σ H λxs H1=>xs.length<=sizeLine/\∀p,H1 p=none->Q (.ref p) (upd H1 p (.lst xs))):Kj t σ H Q:=h
theorem FE.ge {te:TE} {x:V} {d:PyData} (a:FE te σ H x) (f:F1 x d):GE K te σ H:=λH1 s1 Q q=>a H1 s1 Q λH2 s2=>q x H2 s2 f.g
theorem GE.tup1 {ta:TE} {x:V} {d:PyData} (a:FE ta σ H x) (f:F1 x d):GE K (VB (ju ta QN)) σ H:=λH1 s1 Q q=>a H1 s1 _ λH2 s2=>⟨by show 1<=sizeLine;decide,λp hp=>q _ _ (s2.trans (qj hp)) (Yp (.cons f .nil) (by simp) (.of qd))⟩
theorem GE.tup2 {ta tb:TE} {x y:V} {d e:PyData} (a:FE ta σ H x) (b:FE tb σ H y) (f:F1 x d) (g:F1 y e):GE K (VB (ju ta (ju tb QN))) σ H:=λH1 s1 Q q=>a H1 s1 _ λH2 s2=>b H2 (s1.trans s2) _ λH3 s3=>⟨Q9,λp hp=>q _ _ ((s2.trans s3).trans (qj hp)) (Yp (.cons f (.cons g .nil)) (by simp) (.of qd))⟩
theorem GE.lst2 {ta tb:TE} {x y:V} {d e:PyData} (a:FE ta σ H x) (b:FE tb σ H y) (f:F1 x d) (g:F1 y e):GE K (UH (ju ta (ju tb QN))) σ H:=λH1 s1 Q q=>a H1 s1 _ λH2 s2=>b H2 (s1.trans s2) _ λH3 s3=>⟨Q9,λp hp n=>q _ _ ((s2.trans s3).trans (qj hp)) (Gb (.cons f (.cons g .nil)) (by simp) (.of qd) n)⟩
theorem FE.c {x:V}:FE (tC x) σ H x:=λH1 _ Q q=>q H1 (qu.refl H1)
theorem FE.v {i:Nat} {x:V} (h:σ[i]?=some (some x)):FE (qZ i) σ H x:=λH1 _ Q q=>⟨x,h,q H1 (qu.refl H1)⟩
theorem FE.ix {p:Addr} {xs:List V} {i:Int} {x:V} (h:σ[0]?=some (some (.ref p))) (sq:SqT K H p xs) (e:JJ xs i=some x):FE (Ju (Q6 K) (qZ 0) (tC (.int i))) σ H x:=λH1 s1 Q q=>⟨.ref p,h,p,xs,i,x,rfl,rfl,L2.SqT.mono sq s1,e,q H1 (qu.refl H1)⟩
theorem GE.add {p:Addr} {x y:V} {d e:PyData} (h:σ[0]?=some (some (.ref p))) (sq:SqT K H p [x,y]) (f:F1 x d) (g:F1 y e):GE K (Ju (wv K) (qZ 0) (VB (ju (tC (.int 0)) QN))) σ H:=λH1 s1 Q q=>⟨.ref p,h,by show 1<=sizeLine;decide,λp1 h1=>⟨p,p1,[x,y],[.int 0],rfl,rfl,L2.SqT.mono sq (s1.trans (qj h1)),.of qd,(λz=>nomatch z),(λz=>nomatch z),by show 3<=sizeLine;decide,λl hl=>q _ _ ((qj h1).trans (qj hl)) (Yp (.cons f (.cons g (.cons (.int (by decide) (by decide)) .nil))) (by simp) (.of qd))⟩⟩
theorem UU {x y:V} {d e:PyData} (f:F1 x d) (g:F1 y e):Sm (.tuple [.list [d],e]) 3 1000/\(PyData.tuple [.list [d],e]).canLay0=true:=by
 have a:Sm (.list [d]) 1 87:=Wb (k:=0) (L:=82) (ds:=[d]) λz hz=>by
   have:z=d:=by simpa using hz
   rw[this]
   exact f.sm
 refine⟨(US a (g.sm.more (Nat.zero_le 1) (Nat.le_refl _))).more (by decide) (by decide),?_⟩
 show ((d.canLay0&&true)&&(e.canLay0&&true))=true
 rw[f.lay,g.lay]
 rfl
theorem GE.in1 {ta tb:TE} {x y:V} {d e:PyData} (a:FE ta σ H x) (b:FE tb σ H y) (f:F1 x d) (g:F1 y e):GE K (VB (ju (UH (ju ta QN)) (ju tb QN))) σ H:=λH1 s1 Q q=>a H1 s1 _ λH2 s2=>⟨by show 1<=sizeLine;decide,λp hp n=>b _ ((s1.trans s2).trans (qj hp)) _ λH3 s3=>⟨Q9,λp3 h3=>q _ _ (((s2.trans (qj hp)).trans s3).trans (qj h3)) ⟨.tuple [.list [d],e],.tup (.of qd) (.cons (.lst (.of (qi (s3 _ _ qd) h3)) n (.cons f.dw .nil)) (.cons g.dw .nil)),(UU f g).1,(UU f g).2⟩⟩⟩
end
def yE:En->V
 | none=>.non
 | some e=>.int e.2
theorem qM.two' {K:PySem.W.Frag} {H:Hp} {v:V} {e:En} (h:qM K H v e):∃p,v=.ref p/\SqT K H p [.str (WI e),yE e]:=by
 obtain⟨p,rfl,sq⟩:=h
 cases e<;>exact⟨p,rfl,sq⟩
theorem xK (e:En):F1 (.str (WI e)) (.str (WI e)):=by
 cases e with
 | none=>exact .str ⟨rfl,rfl,Nat.le_refl _,by decide+kernel⟩ okD
 | some p=>exact .str (WY p.1) (RB p.1)
theorem RQ (b:Bool):F1 (.str (qY b)) (.str (qY b)):=.str (WY b) (RB b)
theorem Gd:F1 (.str (Str.ofString "lost")) (.str (Str.ofString "lost")):=RQ false
theorem RP:F1 (.str (Str.ofString "won")) (.str (Str.ofString "won")):=RQ true
theorem fDr:F1 (.str (Str.ofString "drawn")) (.str (Str.ofString "drawn")):=xK none
theorem fLs:F1 (.str (Str.ofString "Lost")) (.str (Str.ofString "Lost")):=.str ⟨rfl,rfl,Nat.le_refl _,by decide+kernel⟩ (by decide+kernel)
theorem RO {e:En} (h:∀b m,e=some (b,m)->0<=m/\m < 14):∃d,F1 (yE e) d:=by
 cases e with
 | none=>exact⟨_,.non⟩
 | some p=>
   have:=h p.1 p.2 rfl
   exact⟨_,.int (by omega) (by omega)⟩
theorem yJ (e:En):JJ [V.str (Str.ofString "lost"),.str (Str.ofString "won")] (if decide (V.str (WI e)=V.str (Str.ofString "lost"))=true then 1 else 0)=some (.str (qY (decide (WI e=Str.ofString "lost")))):=by
 by_cases h:WI e=Str.ofString "lost"
 . rw[if_pos (decide_eq_true (by rw[h])),decide_eq_true h]
   rfl
 . rw[if_neg (by rw[decide_eq_false (λz=>h (V.str.inj z))];decide),decide_eq_false h]
   rfl
theorem JD {K:PySem.W.Frag} {H:Hp} {d:Addr} {kv:List (qw×V)} {o:HO} {v:V} (hd:H d=some (.dK kv)) (h:G1 K H v):G1 K (upd H d o) v:=by
 obtain⟨x,a,b⟩:=h
 refine⟨x,a.keep λc u hu r=>?_,b⟩
 have ne:c≠d:=λz=>by
   rw[z]at r
   rcases r with r | ⟨w,r⟩<;>rw[hd]at r<;>cases r
   rcases hu with ⟨_,e⟩ | ⟨_,e⟩<;>cases e
 rcases r with r | ⟨w,r⟩
 . exact .inl (by rw[qk ne];exact r)
 . exact .inr ⟨w,by rw[qk ne];exact r⟩
def wg (K:PySem.W.Frag):Sp:=λvs H Q _=>∃(v:V) (e:En) (d:Addr) (n s t:Int),vs=[v,.ref d]/\qM K H v e/\(∀b m,e=some (b,m)->0<=m/\m < 14)/\H d=some (.dK (src n s t))/\
 ∀v' n' t' H',G1 K H' v'->H' d=some (.dK (src n' s t'))->Fr H d H'->Q v' H'
section
variable {P:Program} {w:World} {K:PySem.W.Frag} {mg:Str->Option Value} {base:Heap}
abbrev nOt:List Str:=["_law_one","_law_source_here","_law_moves","_law_some","_law_odd"]
abbrev KO:List Str:=["_law_one","_law_source_here"]
theorem VH:qJ nOt KO (qt Z4):=⟨rfl,rfl,rfl,by decide+kernel,rfl,by decide+kernel,by decide+kernel⟩
theorem vG {f fT:Addr} {fd fdT:FuncData} (F:Qw K "_law_other" "_law_other" Z4 f fd) (B:JU mg) (hT:jT K mg "_law_take" Jz ["_law_source_here","_law_many"] fT fdT):qI P w K mg base ji 2 f fd KO (wg K):=by
 have GT:qI P w K mg base ji 1 fT fdT ["_law_source_here","_law_many"] Ja:=QR hT.fn
 refine F.okJ VH (λvs H Q E h=>?_) (λcdv A outer s H vs Q E hr h=>?_)
 . obtain⟨v,e,d,n,s,t,rfl,_⟩:=h
   rfl
 . obtain⟨v,e,d,n,s0,t,rfl,ev,bd,hd,q⟩:=h
   have hu:=jN hr
   refine⟨_,qg (qC (i:=2) VH.nd rfl (Or.inl rfl) (qX hT GT hr (by rfl) (qb (jv 1) (qb qh qe))))
     (qg (qS (qv yM (qH qK (jv 0) qh (λ_ _=>rfl)) QT (qr _)) (ql (qC (i:=2) VH.nd rfl (Or.inl rfl) (qQ jX (qH qK (jv 0) qh (λ_ _=>rfl)) (qH jl (jk (qb (Yl Zk qh) (qb (Yl Zk qh) (qb qh (qb qh qe))))) (qX hT GT hr (by rfl) (qb (jv 1) (qb qh qe))) (λ_ _=>rfl))))) qA)
     (qg (qC (i:=3) VH.nd rfl (Or.inl rfl) (jk (qb (qW (qb qB (qb (jv 2) qe))) (qb (qW (qb qB (qb (jv 2) qe))) (qb (qW (qb qB (qb QT qe)))
       (qb (qW (qb (qH jl (jk (qb qB (qb qB qe))) (jE Js (by rfl) B.int boot_int (qb (qP jg (qH qK (jv 0) qh (λ_ _=>rfl)) qB (qr _)) qe)) (λ_ _=>rfl)) (qb (qH qK (jv 0) qh (λ_ _=>rfl)) qe))) qe))))))
     (qg (qC (i:=3) VH.nd rfl (Or.inl rfl) (qQ Jn (jv 3) (jk (qb (qW (qb (qH qK (jv 0) qh (λ_ _=>rfl)) (qb (jv 2) qe))) (qb (qW (qb qB (qb qh qe))) (qb (qW (qb qB (qb qh qe))) qe))))))
     (qg (qC (i:=4) VH.nd rfl (Or.inl rfl) (jk (qb QT (qb qB (qb (YX (qb (qH qK (jv 0) qh (λ_ _=>rfl)) (qb (qH qK (jv 0) qh (λ_ _=>rfl)) qe))) (qb (qW (qb (qH qK (jv 0) qh (λ_ _=>rfl)) qe))
       (qb (qQ yQ (jv 0) (qW (qb qh qe))) (qb (qW (qb qB (qb qh qe))) (qb (qW (qb qB (qb QT qe))) (qb (qW (qb qB (qb jw qe))) qe))))))))))
     (ql (qG (qH jl (qQ Jn (qQ Jn (qQ Jn (jv 3) (jv 3)) (jv 4)) (jk (qb (qW (qb qB (qb qh qe))) (qb (qW (qb (YX (qb (qH qK (jv 0) qh (λ_ _=>rfl)) qe)) (qb (qH qK (jv 0) qh (λ_ _=>rfl)) qe))) qe))))
       (qX hT GT hr (by rfl) (qb (jv 1) (qb qh qe))) (λ_ _=>rfl)))))))),?_⟩
   obtain⟨pv,rfl,sq⟩:=ev.two'
   obtain⟨dy,fy⟩:=RO bd
   have fw:=xK e
   refine⟨_,rfl,d,5,n,s0,t,rfl,hd,by decide,by decide,λr n1 t1 r0 r5=>?_⟩
   have fr1:Fr H d (upd H d (.dK (src n1 s0 t1))):=Fr.at_d Fr.refl
   have hd1:upd H d (.dK (src n1 s0 t1)) d=some (.dK (src n1 s0 t1)):=qd
   have sq1:SqT K (upd H d (.dK (src n1 s0 t1))) pv [.str (WI e),yE e]:=L2.SqT.put sq hd
   generalize upd H d (.dK (src n1 s0 t1))=H1 at fr1 hd1 sq1
   refine⟨_,rfl,pv,_,1,_,rfl,rfl,sq1,rfl,rfl,_,rfl,?_⟩
   refine jL (λc=>?_) (λc=>?_)
   case' refine_1=>
     obtain⟨b,n0,he⟩:∃b n0,e=some (b,n0):=by
       cases e with
       | none=>cases c
       | some p=>exact⟨p.1,p.2,rfl⟩
     have ye:yE e=.int n0:=by rw[he];rfl
     have bn:=bd b n0 he
     refine⟨_,rfl,pv,_,1,_,rfl,rfl,sq1,rfl,2,rfl,1,rfl,by decide,λl1 hl1=>⟨_,rfl,d,4,n1,s0,t1,rfl,qi hd1 hl1,by decide,by decide,λr' n2 t2 r0' r4'=>?_⟩⟩
     obtain⟨c',ec,b1,b2⟩:∃c',JJ [V.int (-2),.int (-1),.int 1,.int 2] r'=some (.int c')/\-2<=c'/\c'<=2:=by
       have:r'=0\/r'=1\/r'=2\/r'=3:=by omega
       rcases this with rfl | rfl | rfl | rfl
       . exact⟨-2,rfl,by decide,by decide⟩
       . exact⟨-1,rfl,by decide,by decide⟩
       . exact⟨1,rfl,by decide,by decide⟩
       . exact⟨2,rfl,by decide,by decide⟩
     have nl1:l1≠d:=λz=>by rw[z,hd1]at hl1;cases hl1
     refine⟨l1,_,r',.int c',rfl,rfl,.of (by rw[qk nl1];exact qd),ec,n0,c',ye,rfl,?_⟩
     have fr2:Fr H d (upd (upd H1 l1 (.lst [V.int (-2),.int (-1),.int 1,.int 2])) d (.dK (src n2 s0 t2))):=Fr.at_d (Fr.new fr1 hl1)
     have hd2:upd (upd H1 l1 (.lst [V.int (-2),.int (-1),.int 1,.int 2])) d (.dK (src n2 s0 t2)) d=some (.dK (src n2 s0 t2)):=qd
     have sq2:SqT K (upd (upd H1 l1 (.lst [V.int (-2),.int (-1),.int 1,.int 2])) d (.dK (src n2 s0 t2))) pv [.str (WI e),yE e]:=L2.SqT.put (L2.SqT.mono sq1 (qj hl1)) (qi hd1 hl1)
     have m1:-100<=n0+c':=by omega
     have m2:n0+c'<=100:=by omega
     have gm:F1 (.int (n0+c')) (.int (n0+c')):=.int m1 m2
     generalize upd (upd H1 l1 (.lst [V.int (-2),.int (-1),.int 1,.int 2])) d (.dK (src n2 s0 t2))=H2 at fr2 hd2 sq2
   case' refine_2=>
     have fr2:=fr1
     have hd2:=hd1
     have sq2:=sq1
     have m1:-100<=r:=by omega
     have m2:r<=100:=by omega
     have gm:F1 (.int r) (.int r):=.int m1 m2
     obtain⟨H2,rfl⟩:∃H2,H2=H1:=⟨_,rfl⟩
   all_goals
     first | refine nxI ?_ | refine GZ ?_
     dsimp only
     refine wW (uY (xm ?_))
     refine(show ju _ _ _ _ _ from GA.run (K:=K) (n:=4) ?_ (λxs3 H3 s3 l3 g3=>⟨by rw[l3];decide,λa3 h3=>?_⟩))
     . refine GA.cons (GE.tup2 FE.c (FE.v rfl) Gd gm) (GA.cons (GE.tup2 FE.c (FE.v rfl) RP gm) (GA.cons (GE.tup2 FE.c FE.c fDr .non) (GA.cons (GE.tup2 (x:=.str (qY (decide (WI e=Str.ofString "lost")))) ?_ (FE.ix rfl sq2 rfl) (RQ _) fy) GA.nil)))
       intro Hx sx Q' q'
       refine⟨Q9,λlx hlx=>⟨_,rfl,pv,_,0,_,rfl,rfl,L2.SqT.mono sq2 (sx.trans (qj hlx)),rfl,rfl,.inr ⟨_,rfl,lx,_,_,_,rfl,rfl,.of qd,yJ e,q' _ (qj hlx)⟩⟩⟩
     have i0:F1 (.int 0) (.int 0):=.int (by decide) (by decide)
     have i1:F1 (.int 1) (.int 1):=.int (by decide) (by decide)
     have S4:=s3.trans (qj (o:=.lst xs3) h3)
     have e4:upd H3 a3 (.lst xs3) a3=some (.lst xs3):=qd
     have g4:∀x∈xs3,G1 K (upd H3 a3 (.lst xs3)) x:=λx hx=>(g3 x hx).mono (qj h3)
     generalize upd H3 a3 (.lst xs3)=H4 at S4 e4 g4
     refine GZ ?_
     dsimp only
     refine wW (uY ⟨_,rfl,xm (GA.run (K:=K) (n:=3) ?_ (λxs5 H5 s5 l5 g5=>⟨by rw[l5];decide,λa5 h5=>⟨a3,a5,xs3,xs5,rfl,rfl,.of (qi (s5 _ _ e4) h5),.of qd,by rw[l3,l5];decide,λl6 h6=>?_⟩⟩))⟩)
     . exact GA.cons (GE.tup2 (FE.ix rfl (L2.SqT.mono sq2 S4) rfl) (FE.v rfl) fw gm) (GA.cons (GE.tup2 FE.c FE.c Gd i0) (GA.cons (GE.tup2 FE.c FE.c RP i1) GA.nil))
     have S6:=((S4.trans s5).trans (qj (o:=.lst xs5) h5)).trans (qj (o:=.lst (xs3++xs5)) h6)
     have e6:upd (upd H5 a5 (.lst xs5)) l6 (.lst (xs3++xs5)) l6=some (.lst (xs3++xs5)):=qd
     have g6:∀x∈xs3++xs5,G1 K (upd (upd H5 a5 (.lst xs5)) l6 (.lst (xs3++xs5))) x:=λx hx=>by
       rcases List.mem_append.mp hx with h | h
       . exact(g4 x h).mono ((s5.trans (qj h5)).trans (qj h6))
       . exact(g5 x h).mono ((qj h5).trans (qj h6))
     have l6':(xs3++xs5).length=7:=by rw[List.length_append,l3,l5]
     generalize upd (upd H5 a5 (.lst xs5)) l6 (.lst (xs3++xs5))=H6 at S6 e6 g6
     generalize xs3++xs5=L7 at e6 g6 l6'
     refine GZ ?_
     dsimp only
     refine wW (uY (xm (GA.run (K:=K) (n:=8) ?_ (λxs8 H8 s8 l8 g8=>⟨by rw[l8];decide,λa8 h8=>?_⟩))))
     . exact GA.cons (FE.ge FE.c .non) (GA.cons (FE.ge FE.c Gd) (GA.cons (GE.lst2 (FE.ix rfl (L2.SqT.mono sq2 S6) rfl) (FE.ix rfl (L2.SqT.mono sq2 S6) rfl) fw fy) (GA.cons (GE.tup1 (FE.ix rfl (L2.SqT.mono sq2 S6) rfl) fw) (GA.cons (GE.add rfl (L2.SqT.mono sq2 S6) fw fy) (GA.cons (GE.tup2 FE.c FE.c fDr i0) (GA.cons (GE.tup2 FE.c FE.c Gd .non) (GA.cons (GE.tup2 FE.c FE.c RP (.bl true)) GA.nil)))))))
     have S8:=(S6.trans s8).trans (qj (o:=.lst xs8) h8)
     have e8:upd H8 a8 (.lst xs8) a8=some (.lst xs8):=qd
     have f8:upd H8 a8 (.lst xs8) l6=some (.lst L7):=qi (s8 _ _ e6) h8
     have g8':∀x∈L7++L7++xs8,G1 K (upd H8 a8 (.lst xs8)) x:=λx hx=>by
       rcases List.mem_append.mp hx with h | h
       . have h:x∈L7:=by simpa using h
         exact(g6 x h).mono (s8.trans (qj h8))
       . exact(g8 x h).mono (qj h8)
     generalize upd H8 a8 (.lst xs8)=H9 at S8 e8 f8 g8'
     refine GZ ?_
     dsimp only
     refine⟨_,rfl,_,rfl,l6,l6,L7,L7,rfl,rfl,.of f8,.of f8,by rw[l6'];decide,λb1 hb1=>⟨_,rfl,b1,a8,L7++L7,xs8,rfl,rfl,.of qd,.of (qi e8 hb1),by rw[List.length_append,l6',l8];decide,λb2 hb2=>xm (GA.run (K:=K) (n:=2) ?_ (λxs9 H10 s10 l9 g9=>⟨by rw[l9];decide,λa9 h9=>⟨b2,a9,L7++L7++xs8,xs9,rfl,rfl,.of (qi (s10 _ _ qd) h9),.of qd,by rw[List.length_append,List.length_append,l6',l8,l9];decide,λb3 hb3=>?_⟩⟩))⟩⟩
     . have S9:=(S8.trans (qj (o:=.lst (L7++L7)) hb1)).trans (qj (o:=.lst (L7++L7++xs8)) hb2)
       exact GA.cons (GE.tup2 FE.c FE.c fLs i0) (GA.cons (GE.in1 (FE.ix rfl (L2.SqT.mono sq2 S9) rfl) (FE.ix rfl (L2.SqT.mono sq2 S9) rfl) fw fy) GA.nil)
     have S9:=((((S8.trans (qj (o:=.lst (L7++L7)) hb1)).trans (qj (o:=.lst (L7++L7++xs8)) hb2)).trans s10).trans (qj (o:=.lst xs9) h9)).trans (qj (o:=.lst (L7++L7++xs8++xs9)) hb3)
     have e9:upd (upd H10 a9 (.lst xs9)) b3 (.lst (L7++L7++xs8++xs9)) b3=some (.lst (L7++L7++xs8++xs9)):=qd
     have g10:∀x∈L7++L7++xs8++xs9,G1 K (upd (upd H10 a9 (.lst xs9)) b3 (.lst (L7++L7++xs8++xs9))) x:=λx hx=>by
       rcases List.mem_append.mp hx with h | h
       . exact(g8' x h).mono (((((qj hb1).trans (qj hb2)).trans s10).trans (qj h9)).trans (qj hb3))
       . exact(g9 x h).mono ((qj h9).trans (qj hb3))
     have l10:(L7++L7++xs8++xs9).length=24:=by rw[List.length_append,List.length_append,List.length_append,l6',l8,l9]
     generalize upd (upd H10 a9 (.lst xs9)) b3 (.lst (L7++L7++xs8++xs9))=H12 at S9 e9 g10
     generalize L7++L7++xs8++xs9=L24 at e9 g10 l10
     have hd12:=S9 _ _ hd2
     refine⟨_,rfl,d,24,_,s0,_,rfl,hd12,by decide,by decide,λr9 n9 t9 r90 r924=>?_⟩
     have nb:b3≠d:=Qx e9 hd12 (λz=>nomatch z)
     have li:r9.toNat < L24.length:=by omega
     have ea:JJ L24 r9=some L24[r9.toNat]:=by
       unfold JJ ky
       rw[if_pos r90,if_pos (by rw[l10];omega)]
       exact List.getElem?_eq_getElem li
     exact⟨b3,L24,r9,_,rfl,rfl,.of (by rw[qk nb];exact e9),ea,q _ n9 t9 _ (JD hd12 (g10 _ (List.getElem_mem li))) qd (Fr.at_d λb u hb hn=>S9 _ _ (fr2 b u hb hn))⟩
end
end Rh
set_option Elab.async false
set_option linter.all false
set_option maxRecDepth 100000
set_option maxHeartbeats 4000000
namespace Rh
open PySem L2 PyProof.Rows MPlay
def xU (k:qw):Prop:=Sm (kD k) 0 82
def WC (P:Program) (w:World) (K:PySem.W.Frag) (H:Hp) (D:Addr) (rs:jF):Prop:=
 (∃kvs,H D=some (.dK kvs)/\(kvs.map (·.1)).Nodup/\kvs.length<=20/\∀p∈kvs,G1 K H p.2/\xU p.1)\/
 ∃ks,OddAt P w K H D ks/\ks.length<=20/\(∀x∈ks,G1 K H x.2.2/\Sm x.1.dat 1 100)/\(ks.length≠rs.length\/∃r∈rs,QV ks (.s r.1)=false)
def wc (P:Program) (w:World) (K:PySem.W.Frag):Sp:=λvs H Q _=>∃(T l d:Addr) (kvs:List (qw×V)) (ps:List Addr) (rs:jF) (fe:Str->En) (n s t:Int),vs=[.ref T,.ref l,.ref d]/\Rd H T (.dK kvs)/\kvs.map (·.1)=(rs.map (·.1)).map Sum.inr/\(∀r∈rs,∃v,qD kvs (Sum.inr r.1)=some v/\qM K H v (fe r.1))/\(∀r∈rs,∀b m,fe r.1=some (b,m)->0<=m/\m < 14)/\
 H l=some (.lst (ps.map V.ref))/\jh H ps rs/\qO rs/\0 < rs.length/\rs.length<=14/\T≠d/\H d=some (.dK (src n s t))/\
 ∀(D:Addr) (n' t':Int) (H':Hp),H D=none->WC P w K H' D rs->H' d=some (.dK (src n' s t'))->Fr H d H'->Q (.ref D) H'
theorem JV {kvs:List (qw×V)} (hn:(kvs.map (·.1)).Nodup) {p:qw×V} (hp:p∈kvs):qD kvs p.1=some p.2:=by
 induction kvs with
 | nil=>cases hp
 | cons a kvs ih=>
   rw[List.map_cons,List.nodup_cons]at hn
   rcases List.mem_cons.mp hp with rfl | hp
   . exact jd rfl
   . have ne:¬a.1=p.1:=λe=>hn.1 (e▸List.mem_map.mpr ⟨p,hp,rfl⟩)
     rw[je ne]
     exact ih hn.2 hp
theorem W5 {kvs:List (qw×V)} {k:qw} {v:V} {p:qw×V} (h:p∈jf kvs k v):p∈kvs\/p.2=v:=by
 unfold jf at h
 split at h
 . obtain⟨a,ha,e⟩:=List.mem_map.mp h
   split at e
   . exact .inr (by rw[<-e])
   . exact .inl (e▸ha)
 . rcases List.mem_append.mp h with h | h
   . exact .inl h
   . exact .inr (by have:p=(k,v):=by simpa using h
                    rw[this])
theorem Xv {kvs:List (qw×V)} {k:qw} {v:V} (h:k∈kvs.map (·.1)):(jf kvs k v).map (·.1)=kvs.map (·.1):=by
 obtain⟨p,hp,e⟩:=List.mem_map.mp h
 unfold jf
 rw[if_pos (List.any_eq_true.mpr ⟨p,hp,decide_eq_true e⟩),List.map_map]
 refine List.map_congr_left λx _=>?_
 show (if x.1=k then (x.1,v) else x).1=x.1
 split<;>rfl
def zQ (P:Program) (w:World) (K:PySem.W.Frag) (H:Hp) (D:Addr) (rs:jF):Prop:=
 (∃kvs,H D=some (.dK kvs)/\(kvs.map (·.1)).Nodup/\kvs.length<=20/\(∀p∈kvs,G1 K H p.2/\xU p.1)/\∀r∈rs,(qD kvs (Sum.inr r.1:qw)).isSome=true)\/
 ∃ks,OddAt P w K H D ks/\ks.length=rs.length+1/\(ks.map (·.1)).Nodup/\(∀x∈ks,G1 K H x.2.2/\Sm x.1.dat 1 100)/\∀r∈rs,QV ks (.s r.1)=true
theorem zQ.out {P:Program} {w:World} {K:PySem.W.Frag} {H:Hp} {D:Addr} {rs:jF} (h:zQ P w K H D rs) (le:rs.length<=14):WC P w K H D rs:=by
 rcases h with ⟨kvs,a,b,c,d,_⟩ | ⟨ks,a,b,_,d,_⟩
 . exact .inl ⟨kvs,a,b,c,d⟩
 . exact .inr ⟨ks,a,by omega,d,.inl (by omega)⟩
theorem ZX {rs:jF} (good:qO rs) {kv:List (qw×V)} (ek:kv.map (·.1)=(rs.map (·.1)).map Sum.inr) {p:qw×V} (hp:p∈kv):∃z,p.1=Sum.inr z/\jo z=true:=by
 have hm:p.1∈kv.map (·.1):=List.mem_map.mpr ⟨p,hp,rfl⟩
 rw[ek]at hm
 obtain⟨z,hz,e1⟩:=List.mem_map.mp hm
 obtain⟨r,hr',rfl⟩:=List.mem_map.mp hz
 exact⟨r.1,e1.symm,good.nm r hr'⟩
theorem Y2 {rs:jF} {kv:List (qw×V)} (ek:kv.map (·.1)=(rs.map (·.1)).map Sum.inr) {r:Str×List Str} (hr:r∈rs):(qD kv (Sum.inr r.1:qw)).isSome=true:=by
 cases e:qD kv (Sum.inr r.1:qw) with
 | some v=>rfl
 | none=>
   refine absurd ?_ (Xk e)
   rw[ek]
   exact List.mem_map.mpr ⟨r.1,List.mem_map.mpr ⟨r,hr,rfl⟩,rfl⟩
theorem uy {kv:List (qw×V)} {k:qw} {v:V} (hn:(kv.map (·.1)).Nodup):((jf kv k v).map (·.1)).Nodup:=by
 cases e:qD kv k with
 | none=>exact xh v hn e
 | some u=>rw[Xv (YE e)];exact hn
theorem vd {kvs:List (qw×V)} {k:qw} {v:V} {p:qw×V} (h:p∈jf kvs k v):(∃q∈kvs,q.1=p.1)\/p.1=k:=by
 unfold jf at h
 split at h
 . obtain⟨a,ha,e⟩:=List.mem_map.mp h
   split at e
   . exact .inl ⟨a,ha,by rw[<-e]⟩
   . exact .inl ⟨a,ha,by rw[<-e]⟩
 . rcases List.mem_append.mp h with h | h
   . exact .inl ⟨p,h,rfl⟩
   . exact .inr (by have:p=(k,v):=by simpa using h
                    rw[this])
theorem xj {P:Program} {w:World} {K:PySem.W.Frag} {H:Hp} {D:Addr} {rs:jF} {kv:List (qw×V)} {k:qw} {v:V} (good:qO rs) (le:rs.length<=14) (ek:kv.map (·.1)=(rs.map (·.1)).map Sum.inr) (sk:xU k) (g:∀p∈kv,G1 K H p.2) (gv:G1 K H v) (hD:H D=some (.dK kv)):zQ P w K (upd H D (.dK (jf kv k v))) D rs:=by
 have kn:(kv.map (·.1)).Nodup:=by
   rw[ek]
   exact jD good.nd λa _ b _ e=>Sum.inr.inj e
 have lk:kv.length=rs.length:=by
   have:=congrArg List.length ek
   simpa using this
 refine .inl ⟨_,qd,uy kn,Nat.le_trans (Qz _ _ _) (by omega),λp hp=>⟨JD hD ?_,?_⟩,λr hr=>?_⟩
 . rcases W5 hp with h | h
   . exact g p h
   . rw[h];exact gv
 . rcases vd hp with ⟨q,hq,e⟩ | e
   . obtain⟨z,e1,nz⟩:=ZX good ek hq
     rw[<-e,e1]
     exact JZ nz
   . rw[e];exact sk
 . rw[Qp]
   split
   . rfl
   . exact Y2 ek hr
theorem xl {P:Program} {w:World} {K:PySem.W.Frag} {H:Hp} {D:Addr} {rs:jF} {kv:List (qw×V)} {k:OK} {y v:V} (good:qO rs) (le:rs.length<=14) (ek:kv.map (·.1)=(rs.map (·.1)).map Sum.inr) (nt:Yn k=false) (ko:Vv K H k y) (sk:Sm k.dat 1 100) (g:∀p∈kv,G1 K H p.2) (gv:G1 K H v) (hD:H D=some (.dK kv)):zQ P w K (upd H D (JP P w D (QI kv++[(k,y,v)]))) D rs:=by
 have kn:(kv.map (·.1)).Nodup:=by
   rw[ek]
   exact jD good.nd λa _ b _ e=>Sum.inr.inj e
 have lk:kv.length=rs.length:=by
   have:=congrArg List.length ek
   simpa using this
 have ms:∀x∈QI kv,∃p∈kv,∃z,p.1=Sum.inr z/\jo z=true/\x=(.s z,.str z,p.2):=λx hx=>by
   obtain⟨p,hp,rfl⟩:=List.mem_map.mp hx
   obtain⟨z,e1,nz⟩:=ZX good ek hp
   exact⟨p,hp,z,e1,nz,by rw[e1];rfl⟩
 refine .inr ⟨_,⟨qd,λx hx=>?_⟩,?_,?_,λx hx=>⟨JD hD ?_,?_⟩,λr hr=>?_⟩
 . rcases List.mem_append.mp hx with h | h
   . obtain⟨p,hp,z,e1,nz,rfl⟩:=ms x h
     exact⟨Yg nz,rfl⟩
   . have e:x=(k,y,v):=by simpa using h
     subst e
     have ko:Vv K H k y:=ko
     show Vv K _ k y
     cases k with
     | u x'=>
       obtain⟨a,p,e,hq⟩:=ko
       exact⟨a,p,e,L2.SqT.put hq hD⟩
     | _=>exact ko
 . rw[List.length_append]
   unfold QI
   rw[List.length_map,lk]
   rfl
 . rw[List.map_append,List.nodup_append]
   refine⟨XG kn λp hp=>let ⟨z,e,_⟩:=ZX good ek hp;⟨z,e⟩,by simp,λa ha b hb e=>?_⟩
   obtain⟨x,hx,rfl⟩:=List.mem_map.mp ha
   obtain⟨p,hp,z,e1,nz,rfl⟩:=ms x hx
   have eb:b=k:=by simpa using hb
   rw[<-eb,<-e]at nt
   cases nt
 . rcases List.mem_append.mp hx with h | h
   . obtain⟨p,hp,z,e1,nz,rfl⟩:=ms x h
     exact g p hp
   . have e:x=(k,y,v):=by simpa using h
     rw[e];exact gv
 . rcases List.mem_append.mp hx with h | h
   . obtain⟨p,hp,z,e1,nz,rfl⟩:=ms x h
     exact(JZ nz).more (by decide) (by decide)
   . have e:x=(k,y,v):=by simpa using h
     rw[e];exact sk
 . have hk:=Y2 ek hr
   obtain⟨u,hu⟩:=Option.isSome_iff_exists.mp hk
   obtain⟨p,hp,e⟩:=YD hu
   refine List.any_eq_true.mpr ⟨(.s r.1,.str r.1,p.2),List.mem_append_left _ (List.mem_map.mpr ⟨p,hp,?_⟩),decide_eq_true rfl⟩
   rw[e]
   rfl
theorem vo {P:Program} {w:World} {K:PySem.W.Frag} {H:Hp} {D:Addr} {rs:jF} {kv:List (qw×V)} {k:qw} (hn:(kv.map (·.1)).Nodup) (le:kv.length<=20) (g:∀p∈kv,G1 K H p.2/\xU p.1) (hD:H D=some (.dK kv)):WC P w K (upd H D (.dK (Qt kv k))) D rs:=by
 refine .inl ⟨_,qd,zm hn,Nat.le_trans (XQ _ _) le,λp hp=>⟨JD hD (g p (Zw hp)).1,(g p (Zw hp)).2⟩⟩
theorem y4 {P:Program} {w:World} {K:PySem.W.Frag} {H:Hp} {D:Addr} {ks:List OV} {o:HO} {v:V} (hD:H D=some (JP P w D ks)) (h:G1 K H v):G1 K (upd H D o) v:=by
 obtain⟨x,a,b⟩:=h
 refine⟨x,a.keep λc u hu r=>?_,b⟩
 have ne:c≠D:=λz=>by
   rw[z]at r
   rcases r with r | ⟨w,r⟩<;>rw[hD]at r<;>unfold JP at r<;>cases r
   rcases hu with ⟨_,e⟩ | ⟨_,e⟩<;>cases e
 rcases r with r | ⟨w,r⟩
 . exact .inl (by rw[qk ne];exact r)
 . exact .inr ⟨w,by rw[qk ne];exact r⟩
theorem VQ {P:Program} {w:World} {K:PySem.W.Frag} {H:Hp} {D:Addr} {rs:jF} {ks:List OV} {r:Str×List Str} {j:Nat} (od:OddAt P w K H D ks) (le:ks.length<=20) (hn:(ks.map (·.1)).Nodup) (g:∀x∈ks,G1 K H x.2.2/\Sm x.1.dat 1 100) (hr:r∈rs) (ej:(ks.findIdx? λx=>decide (x.1=.s r.1))=some j):WC P w K (upd H D (JP P w D (ks.eraseIdx j))) D rs:=by
 have sub:∀x∈ks.eraseIdx j,x∈ks:=λx hx=>(List.eraseIdx_sublist ks j).mem hx
 refine .inr ⟨_,⟨qd,λx hx=>(od.2 x (sub x hx)).mono λb o e ne=>?_⟩,Nat.le_trans (List.length_eraseIdx_le ..) le,λx hx=>⟨y4 od.1 (g x (sub x hx)).1,(g x (sub x hx)).2⟩,.inr ⟨r,hr,?_⟩⟩
 . rw[qk (λz=>by rw[z,od.1]at e;exact ne _ (Option.some.inj e).symm)]
   exact e
 . obtain⟨lt,e,_⟩:=List.findIdx?_eq_some_iff_getElem.mp ej
   have e:(ks[j]).1=.s r.1:=of_decide_eq_true e
   cases c:QV (ks.eraseIdx j) (.s r.1) with
   | false=>rfl
   | true=>
     obtain⟨x,hx,e2⟩:=List.any_eq_true.mp c
     have e2:x.1=.s r.1:=of_decide_eq_true e2
     obtain⟨i,ne,hi⟩:=List.mem_eraseIdx_iff_getElem?.mp hx
     have h1:(ks.map (·.1))[i]?=some (.s r.1):=by rw[List.getElem?_map,hi,<-e2];rfl
     have h2:(ks.map (·.1))[j]?=some (.s r.1):=by rw[List.getElem?_map,List.getElem?_eq_getElem lt,<-e];rfl
     obtain⟨l1,f1⟩:=List.getElem?_eq_some_iff.mp h1
     obtain⟨l2,f2⟩:=List.getElem?_eq_some_iff.mp h2
     exact absurd (vP hn (f1.trans f2.symm)) ne
section
variable {P:Program} {w:World} {K:PySem.W.Frag} {mg:Str->Option Value} {base:Heap}
abbrev nSo:List Str:=["_law_told_here","_law_rows_here","_law_source_here","_law_found","_law_k","_law_name","_law_way"]
abbrev GK:List Str:=["_law_told_here","_law_rows_here","_law_source_here"]
theorem UX:qJ nSo GK (qt YL):=⟨rfl,rfl,rfl,by decide+kernel,rfl,by decide+kernel,by decide+kernel⟩
theorem vA {f fT fO:Addr} {fd fdT fdO:FuncData} (F:Qw K "_law_spoiled" "_law_spoiled" YL f fd) (B:JU mg) (TI:ZL K mg) (hT:jT K mg "_law_take" Jz ["_law_source_here","_law_many"] fT fdT) (hO:jT K mg "_law_other" Z4 KO fO fdO):qI P w K mg base ji 3 f fd GK (wc P w K):=by
 have GT:qI P w K mg base ji 1 fT fdT ["_law_source_here","_law_many"] Ja:=QR hT.fn
 have GO:qI P w K mg base ji 2 fO fdO KO (wg K):=vG hO.fn B hT
 refine F.okJ UX (λvs H Q E h=>?_) (λcdv A outer s H vs Q E hr h=>?_)
 . obtain⟨T,l,d,kvs,ps,rs,fe,n,s,t,rfl,_⟩:=h
   rfl
 . obtain⟨T,l,d,kvs,ps,rs,fe,n,s0,t,rfl,rd,ek,ent,bd,hl,rat,good,pos,le14,GU,hd,q⟩:=h
   have hu:=jN hr
   have r1:jq 1 _:=hr.mono (by decide)
   refine⟨_,qg (qC (i:=3) UX.nd rfl (Or.inl rfl) (jE Wz (by rfl) TI.dict boot_dict (qb (jv 0) qe)))
     (qg (jK PassesOwn.never rfl (jV (by rfl) B.rng (qb (qX hT GT r1 (by rfl) (qb (jv 2) (qb qh qe))) qe)) (qz (i:=4) UX.nd rfl (Or.inl rfl))
       (qg (qC (i:=5) UX.nd rfl (Or.inl rfl) (qH qK (qH jl (jv 1) (qX hT GT r1 (by rfl) (qb (jv 2) (qb (qo qx (by rfl) B.len boot_len (qb (jv 1) qe)) qe))) (λ_ _=>rfl)) qh (λ_ _=>rfl)))
       (ql (jz hu (jv 3) (jv 5) (qX hO GO hr (by rfl) (qb (jA hu (jv 0) (jv 5) (λ_ _=>rfl)) (qb (jv 2) qe))) rfl))))
     (qg (qC (i:=6) UX.nd rfl (Or.inl rfl) (qX hT GT r1 (by rfl) (qb (jv 2) (qb qh qe))))
     (xq (qS (qv j7 (jv 6) qh (qr _)) (ql (ki hr.units (jv 3) (qH jl (jk (qb qB (qb qh (qb QT (qb (qW (qb (qH qK (qH jl (jv 1) qh (λ_ _=>rfl)) qh (λ_ _=>rfl)) qe)) (qb qB (qb jw qe))))))) (qX hT GT r1 (by rfl) (qb (jv 2) (qb qh qe))) (λ_ _=>rfl))
         (qW (qb qB (qb qh qe))) rfl)) qA)
     (qg (qS (JW.pt (Qi (qv jg (jv 6) qh (qr _)) (jR (qv jg (jv 6) qh (qr _))))) (ql (j5 (kq hr.units (jv 3) (qH qK (qH jl (jv 1) (qX hT GT r1 (by rfl) (qb (jv 2) (qb (qo qx (by rfl) B.len boot_len (qb (jv 1) qe)) qe))) (λ_ _=>rfl)) qh (λ_ _=>rfl)) ⟨rfl,rfl,rfl,rfl⟩))) qA)
     (ql (qG (jv 3))))))),?_⟩
   refine⟨_,rfl,T,kvs,rfl,rd,λD hD=>?_⟩
   have nDd:d≠D:=qE hd hD
   have nDl:l≠D:=qE hl hD
   refine⟨_,rfl,d,4,n,s0,t,rfl,qi hd hD,by decide,by decide,λr0 n0 t0 r00 r04=>?_⟩
   obtain⟨m,rfl⟩:=Int.eq_ofNat_of_zero_le r00
   refine⟨m,rfl,by omega,by omega,?_⟩
   have kn:(kvs.map (·.1)).Nodup:=by
     rw[ek]
     exact jD good.nd λa _ b _ e=>Sum.inr.inj e
   have gk:∀p∈kvs,G1 K H p.2:=λp hp=>by
     have hm:p.1∈kvs.map (·.1):=List.mem_map.mpr ⟨p,hp,rfl⟩
     rw[ek]at hm
     obtain⟨z,hz,e1⟩:=List.mem_map.mp hm
     obtain⟨r,hr',rfl⟩:=List.mem_map.mp hz
     obtain⟨v,e2,ea⟩:=ent r hr'
     have e3:=JV kn hp
     rw[<-e1,e2]at e3
     cases e3
     obtain⟨pp,e4,sq⟩:=ea.two'
     obtain⟨dy,fy⟩:=RO λb m e=>bd r hr' b m e
     rw[e4]
     exact Yp (.cons (xK _) (.cons fy .nil)) (by simp) sq
   have s1:Fr H d (upd (upd H D (.dK kvs)) d (.dK (src n0 s0 t0))):=Fr.at_d (Fr.new Fr.refl hD)
   refine Qn (lo:=0) (n:=m) (λi σ' H'=>∃v4 v5 kv n' t',σ'=[some (.ref T),some (.ref l),some (.ref d),some (.ref D),v4,v5,none]/\Fr H d H'/\H' d=some (.dK (src n' s0 t'))/\H' D=some (.dK kv)/\kv.map (·.1)=(rs.map (·.1)).map Sum.inr/\∀p∈kv,G1 K H' p.2)
     ⟨none,none,kvs,n0,t0,rfl,s1,qd,by rw[qk (Ne.symm nDd)];exact qd,ek,λp hp=>JD (qi hd hD) ((gk p hp).mono (qj hD))⟩ ?_ ?_
   . rintro i σ' H' hi ⟨v4,v5,kv,n',t',rfl,fr,hd',hD',ek',g'⟩
     have nld:l≠d:=Qx hl hd (λz=>nomatch z)
     have hl':=fr _ _ hl nld
     have lp:(ps.map V.ref).length=rs.length:=by rw[List.length_map];exact rat.1
     refine⟨_,rfl,_,rfl,_,rfl,l,_,rfl,.inl (.of hl'),d,_,n',s0,t',rfl,hd',by rw[lp];omega,by rw[lp];omega,λr1 n1 t1 r10 r1n=>?_⟩
     rw[lp]at r1n
     have li:r1.toNat < rs.length:=by omega
     have lip:r1.toNat < ps.length:=by rw[rat.1];exact li
     have er:rs[r1.toNat]?=some rs[r1.toNat]:=List.getElem?_eq_getElem li
     have ep:ps[r1.toNat]?=some ps[r1.toNat]:=List.getElem?_eq_getElem lip
     have ea:JJ (ps.map V.ref) r1=some (.ref ps[r1.toNat]):=by
       unfold JJ ky
       rw[if_pos r10,if_pos (by rw[lp];omega)]
       show (ps.map V.ref)[r1.toNat]?=_
       rw[List.getElem?_map,ep]
       rfl
     generalize rs[r1.toNat]=r at er
     generalize ps[r1.toNat]=p at ep ea
     obtain⟨q',h1,h2⟩:=rat.2 _ p r ep er
     have hr':r∈rs:=List.mem_of_getElem? er
     have fr1:Fr H d (upd H' d (.dK (src n1 s0 t1))):=Fr.at_d fr
     have npd:p≠d:=Qx h1 hd (λz=>nomatch z)
     refine⟨l,_,r1,_,rfl,rfl,.of (fr1 _ _ hl nld),ea,p,_,0,_,rfl,rfl,.of (fr1 _ _ h1 npd),rfl,?_⟩
     obtain⟨v,e2,E2⟩:=ent r hr'
     have rd1:Rd (upd H' d (.dK (src n1 s0 t1))) T (.dK kvs):=rd.elim (λe=>.inl (fr1 _ _ e GU)) λ⟨o,e⟩=>.inr ⟨o,fr1 _ _ e GU⟩
     have g0:=jC.r (k:=(Sum.inr r.1:qw)) rd1
     rw[e2]at g0
     have E3:qM K (upd H' d (.dK (src n1 s0 t1))) v (fe r.1):=by
       obtain⟨pp,e4,sq⟩:=E2
       refine⟨pp,e4,?_⟩
       rcases sq with (h | ⟨u,h⟩) | h
       . exact .inl (.inl (fr1 _ _ h (Qx h hd (λz=>nomatch z))))
       . exact .inl (.inr ⟨u,fr1 _ _ h (Qx h hd (λz=>nomatch z))⟩)
       . exact .inr h
     refine⟨_,rfl,_,rfl,T,v,rfl,g0,_,rfl,v,fe r.1,d,n1,s0,t1,rfl,E3,bd r hr',qd,λv' n2 t2 H2 g2 hd2 fr2=>?_⟩
     have hD1:upd H' d (.dK (src n1 s0 t1)) D=some (.dK kv):=by rw[qk (Ne.symm nDd)];exact hD'
     have hD2:=fr2 _ _ hD1 (Ne.symm nDd)
     have lk:kv.length < sizeLine:=by
       have:=congrArg List.length ek'
       rw[List.length_map,List.length_map,List.length_map]at this
       exact qp (by omega)
     refine⟨_,rfl,_,rfl,D,_,rfl,Qu.k (k:=(Sum.inr r.1:qw)) hD2 lk,?_⟩
     refine⟨_,_,jf kv (Sum.inr r.1) v',n2,t2,rfl,?_,?_,qd,?_,λp' hp'=>?_⟩
     . exact λb u hb hn=>by
         rw[qk (qE hb hD)]
         exact fr2 _ _ (fr1 b u hb hn) hn
     . rw[qk nDd]
       exact hd2
     . rw[Xv,ek']
       rw[ek']
       exact List.mem_map.mpr ⟨r.1,List.mem_map.mpr ⟨r,hr',rfl⟩,rfl⟩
     . refine JD hD2 ?_
       rcases W5 hp' with h | h
       . obtain⟨x,a,b⟩:=g' p' h
         refine⟨x,a.keep λc u hu rr=>?_,b⟩
         have ne:c≠d:=λz=>by
           rw[z]at rr
           rcases rr with rr | ⟨w,rr⟩<;>rw[hd']at rr<;>cases rr
           rcases hu with ⟨_,e⟩ | ⟨_,e⟩<;>cases e
         rcases rr with rr | ⟨w,rr⟩
         . exact .inl (fr2 _ _ (by rw[qk ne];exact rr) ne)
         . exact .inr ⟨w,fr2 _ _ (by rw[qk ne];exact rr) ne⟩
       . rw[h]
         exact g2
   . rintro σ' H' ⟨v4,v5,kv,n',t',rfl,fr,hd',hD',ek',g'⟩
     have nld:l≠d:=Qx hl hd (λz=>nomatch z)
     have hl':=fr _ _ hl nld
     have lp:(ps.map V.ref).length=rs.length:=by rw[List.length_map];exact rat.1
     have lk:kv.length=rs.length:=by
       have:=congrArg List.length ek'
       simpa using this
     refine⟨_,rfl,d,16,n',s0,t',rfl,hd',by decide,by decide,λway n2 t2 w0 w16=>?_⟩
     have fr2:Fr H d (upd H' d (.dK (src n2 s0 t2))):=Fr.at_d fr
     have hd2:upd H' d (.dK (src n2 s0 t2)) d=some (.dK (src n2 s0 t2)):=qd
     have hD2:upd H' d (.dK (src n2 s0 t2)) D=some (.dK kv):=by rw[qk (Ne.symm nDd)];exact hD'
     have g2:∀p∈kv,G1 K (upd H' d (.dK (src n2 s0 t2))) p.2:=λp hp=>JD hd' (g' p hp)
     generalize upd H' d (.dK (src n2 s0 t2))=H2 at fr2 hd2 hD2 g2
     refine⟨λσ2 H3=>σ2=[some (.ref T),some (.ref l),some (.ref d),some (.ref D),v4,v5,some (.int way)]/\∃n3 t3,Fr H d H3/\H3 d=some (.dK (src n3 s0 t3))/\zQ P w K H3 D rs,?_,?_⟩
     . refine⟨_,rfl,way,2,rfl,rfl,_,rfl,?_⟩
       refine jL (λc=>?_) (λc=>?_)
       . obtain⟨p0,pr,e0⟩:∃p0 rest,ps=p0::rest:=by
           cases ps with
           | nil=>simp at lp;omega
           | cons a b=>exact⟨a,b,rfl⟩
         obtain⟨r0,rr,e1⟩:∃r0 rest,rs=r0::rest:=by
           cases rs with
           | nil=>simp at pos
           | cons a b=>exact⟨a,b,rfl⟩
         obtain⟨q0,h01,h02⟩:=rat.2 0 p0 r0 (by rw[e0];rfl) (by rw[e1];rfl)
         have n0:jo r0.1=true:=good.nm r0 (by rw[e1];exact List.mem_cons_self)
         refine⟨Q9,λp hp=>⟨_,rfl,?_⟩⟩
         have s3:qu H2 (upd H2 p (.tup [.str (Str.ofString "lost"),.int 0])):=qj hp
         have e3:upd H2 p (.tup [.str (Str.ofString "lost"),.int 0]) p=some (.tup [.str (Str.ofString "lost"),.int 0]):=qd
         generalize upd H2 p (.tup [.str (Str.ofString "lost"),.int 0])=H3 at s3 e3
         refine⟨_,rfl,l,_,0,.ref p0,rfl,rfl,.of (s3 _ _ (fr2 _ _ hl nld)),ZU (j:=0) (by rw[e0];rfl),p0,_,0,_,rfl,rfl,.of (s3 _ _ (fr2 _ _ h01 (Qx h01 hd (λz=>nomatch z)))),rfl,by show 1<=sizeLine;decide,λpt hpt=>?_⟩
         have s4:qu H2 (upd H3 pt (.tup [.str r0.1])):=s3.trans (qj hpt)
         have e4:upd H3 pt (.tup [.str r0.1]) pt=some (.tup [.str r0.1]):=qd
         have e3':upd H3 pt (.tup [.str r0.1]) p=some (.tup [.str (Str.ofString "lost"),.int 0]):=qi e3 hpt
         generalize upd H3 pt (.tup [.str r0.1])=H4 at s4 e4 e3'
         refine⟨by show 6<=sizeLine;decide,λls hls=>⟨_,rfl,d,6,n2,s0,t2,rfl,qi (s4 _ _ hd2) hls,by decide,by decide,λr6 n3 t3 r60 r66=>?_⟩⟩
         have f5:Fr H2 d (upd (upd H4 ls (.lst [V.str (Str.ofString "nowhere"),.int 5,.non,.ref pt,.str (Str.ofString ""),.bl true])) d (.dK (src n3 s0 t3))):=Fr.at_d (Fr.new (λb o h _=>s4 b o h) hls)
         have nls:ls≠d:=λz=>by rw[z,s4 _ _ hd2]at hls;cases hls
         have e5:upd (upd H4 ls (.lst [V.str (Str.ofString "nowhere"),.int 5,.non,.ref pt,.str (Str.ofString ""),.bl true])) d (.dK (src n3 s0 t3)) ls=some (.lst [V.str (Str.ofString "nowhere"),.int 5,.non,.ref pt,.str (Str.ofString ""),.bl true]):=by rw[qk nls];exact qd
         have hd5:upd (upd H4 ls (.lst [V.str (Str.ofString "nowhere"),.int 5,.non,.ref pt,.str (Str.ofString ""),.bl true])) d (.dK (src n3 s0 t3)) d=some (.dK (src n3 s0 t3)):=qd
         have hD5:upd (upd H4 ls (.lst [V.str (Str.ofString "nowhere"),.int 5,.non,.ref pt,.str (Str.ofString ""),.bl true])) d (.dK (src n3 s0 t3)) D=some (.dK kv):=by rw[qk (Ne.symm nDd)];exact qi (s4 _ _ hD2) hls
         have g5:∀p∈kv,G1 K (upd (upd H4 ls (.lst [V.str (Str.ofString "nowhere"),.int 5,.non,.ref pt,.str (Str.ofString ""),.bl true])) d (.dK (src n3 s0 t3))) p.2:=λp hp=>JD (qi (s4 _ _ hd2) hls) ((g2 p hp).mono (s4.trans (qj hls)))
         have np:p≠d:=λz=>by rw[z,hd2]at hp;cases hp
         have npt:pt≠d:=λz=>by rw[z,s3 _ _ hd2]at hpt;cases hpt
         have gv:G1 K (upd (upd H4 ls (.lst [V.str (Str.ofString "nowhere"),.int 5,.non,.ref pt,.str (Str.ofString ""),.bl true])) d (.dK (src n3 s0 t3))) (.ref p):=Yp (.cons Gd (.cons (.int (i:=0) (by decide) (by decide)) .nil)) (by simp) (.of (by rw[qk np];exact qi e3' hls))
         have hpt5:upd (upd H4 ls (.lst [V.str (Str.ofString "nowhere"),.int 5,.non,.ref pt,.str (Str.ofString ""),.bl true])) d (.dK (src n3 s0 t3)) pt=some (.tup [.str r0.1]):=by rw[qk npt];exact qi e4 hls
         generalize upd (upd H4 ls (.lst [V.str (Str.ofString "nowhere"),.int 5,.non,.ref pt,.str (Str.ofString ""),.bl true])) d (.dK (src n3 s0 t3))=H5 at f5 e5 hd5 hD5 g5 gv hpt5
         have lt:kv.length < sizeLine:=qp (by omega)
         have fin:∀o,zQ P w K (upd H5 D o) D rs->∃n3 t3,Fr H d (upd H5 D o)/\upd H5 D o d=some (.dK (src n3 s0 t3))/\zQ P w K (upd H5 D o) D rs:=λo m=>⟨n3,t3,λb u hb hn=>by
           rw[qk (qE hb hD)]
           exact f5 _ _ (fr2 b u hb hn) hn,by rw[qk nDd];exact hd5,m⟩
         have hz:∀p∈kv,∃z,p.1=Sum.inr z/\PyData.strOk z=true:=λp hp=>let ⟨z,e,nz⟩:=ZX good ek' hp;⟨z,e,Yg nz⟩
         have put:∀(k:qw) (y:V),y=kV k->xU k->JJ [V.str (Str.ofString "nowhere"),.int 5,.non,.ref pt,.str (Str.ofString ""),.bl true] r6=some y->yG K (.ref ls) (.int r6) H5 λy H3=>∃a,V.ref D=.ref a/\((∃H4,Qu H3 a y (.ref p) H4/\([some (.ref T),some (.ref l),some (.ref d),some (.ref D),v4,v5,some (.int way)]:L2.St)=[some (.ref T),some (.ref l),some (.ref d),some (.ref D),v4,v5,some (.int way)]/\∃n3 t3,Fr H d H4/\H4 d=some (.dK (src n3 s0 t3))/\zQ P w K H4 D rs)\/
             ∃kvs k,H3 a=some (.dK kvs)/\(∀p∈kvs,∃z,p.1=Sum.inr z/\PyData.strOk z=true)/\Yn k=false/\Vv K H3 k y/\kvs.length < sizeLine/\([some (.ref T),some (.ref l),some (.ref d),some (.ref D),v4,v5,some (.int way)]:L2.St)=[some (.ref T),some (.ref l),some (.ref d),some (.ref D),v4,v5,some (.int way)]/\∃n3 t3,Fr H d (upd H3 a (JP P w a (QI kvs++[(k,y,.ref p)])))/\(upd H3 a (JP P w a (QI kvs++[(k,y,.ref p)]))) d=some (.dK (src n3 s0 t3))/\zQ P w K (upd H3 a (JP P w a (QI kvs++[(k,y,.ref p)]))) D rs):=λk y ey sk ea=>by
           subst ey
           exact⟨ls,_,r6,_,rfl,rfl,.of e5,ea,D,rfl,.inl ⟨_,Qu.k hD5 lt,rfl,fin _ (xj good le14 ek' sk g5 gv hD5)⟩⟩
         have puto:∀(k:OK) (y:V),Yn k=false->Vv K H5 k y->Sm k.dat 1 100->JJ [V.str (Str.ofString "nowhere"),.int 5,.non,.ref pt,.str (Str.ofString ""),.bl true] r6=some y->yG K (.ref ls) (.int r6) H5 λy H3=>∃a,V.ref D=.ref a/\((∃H4,Qu H3 a y (.ref p) H4/\([some (.ref T),some (.ref l),some (.ref d),some (.ref D),v4,v5,some (.int way)]:L2.St)=[some (.ref T),some (.ref l),some (.ref d),some (.ref D),v4,v5,some (.int way)]/\∃n3 t3,Fr H d H4/\H4 d=some (.dK (src n3 s0 t3))/\zQ P w K H4 D rs)\/
             ∃kvs k,H3 a=some (.dK kvs)/\(∀p∈kvs,∃z,p.1=Sum.inr z/\PyData.strOk z=true)/\Yn k=false/\Vv K H3 k y/\kvs.length < sizeLine/\([some (.ref T),some (.ref l),some (.ref d),some (.ref D),v4,v5,some (.int way)]:L2.St)=[some (.ref T),some (.ref l),some (.ref d),some (.ref D),v4,v5,some (.int way)]/\∃n3 t3,Fr H d (upd H3 a (JP P w a (QI kvs++[(k,y,.ref p)])))/\(upd H3 a (JP P w a (QI kvs++[(k,y,.ref p)]))) d=some (.dK (src n3 s0 t3))/\zQ P w K (upd H3 a (JP P w a (QI kvs++[(k,y,.ref p)]))) D rs):=λk y nt ko sk ea=>
           ⟨ls,_,r6,_,rfl,rfl,.of e5,ea,D,rfl,.inr ⟨kv,k,hD5,hz,nt,ko,lt,rfl,fin _ (xl good le14 ek' nt ko sk g5 gv hD5)⟩⟩
         have h6:r6=0\/r6=1\/r6=2\/r6=3\/r6=4\/r6=5:=by omega
         rcases h6 with rfl | rfl | rfl | rfl | rfl | rfl
         . exact put (Sum.inr (Str.ofString "nowhere")) _ rfl ⟨rfl,rfl,Nat.le_refl _,by decide+kernel⟩ rfl
         . exact put (Sum.inl 5) _ rfl ⟨rfl,rfl,Nat.le_refl _,by decide+kernel⟩ rfl
         . exact puto .n _ rfl rfl ⟨rfl,rfl,Nat.zero_le _,by decide+kernel⟩ rfl
         . have sr0:Sm (.tuple [.str r0.1]) 1 100:=(UT (ds:=[.str r0.1]) (L:=82) (k:=0) (λd hd=>by
             have e:d=.str r0.1:=by simpa using hd
             rw[e]
             exact JZ n0)).more (by decide) (by show 82*1+2*1+3<=100;decide)
           exact puto (.u r0.1) _ rfl ⟨Yg n0,pt,rfl,.of hpt5⟩ sr0 rfl
         . exact put (Sum.inr (Str.ofString "")) _ rfl ⟨rfl,rfl,Nat.le_refl _,by decide+kernel⟩ rfl
         . exact puto .t _ rfl rfl ⟨rfl,rfl,Nat.zero_le _,by decide+kernel⟩ rfl
       . refine⟨rfl,n2,t2,fr2,hd2,.inl ⟨kv,hD2,?_,by omega,λp hp=>⟨g2 p hp,?_⟩,λr hr'=>Y2 ek' hr'⟩⟩
         . rw[ek']
           exact jD good.nd λa _ b _ e=>Sum.inr.inj e
         . obtain⟨z,e1,nz⟩:=ZX good ek' hp
           rw[e1]
           exact JZ nz
     . rintro σ2 H3 ⟨rfl,n3,t3,fr3,hd3,mid⟩
       refine⟨_,rfl,rfl,_,rfl,?_⟩
       refine jL (λc=>?_) (λc=>⟨_,rfl,rfl,_,rfl,jL (λc2=>?_) (λc2=>⟨_,rfl,q D n3 t3 H3 hD (mid.out le14) hd3 fr3⟩)⟩)
       case' refine_1=>refine j0 ?_
       all_goals
         have hl3:=fr3 _ _ hl nld
         have isd:Gv H3 D\/∃ks,OddAt P w K H3 D ks:=by
           rcases mid with ⟨kvs,a,_⟩ | ⟨ks,a,_⟩
           . exact .inl (.inl ⟨kvs,.inl a⟩)
           . exact .inr ⟨ks,a⟩
         refine⟨_,rfl,D,rfl,isd,_,rfl,_,rfl,_,rfl,l,_,rfl,.inl (.of hl3),d,_,n3,s0,t3,rfl,hd3,by rw[lp];omega,by rw[lp];omega,λr1 n4 t4 r10 r1n=>?_⟩
         rw[lp]at r1n
         have li:r1.toNat < rs.length:=by omega
         have lip:r1.toNat < ps.length:=by rw[rat.1];exact li
         have er:rs[r1.toNat]?=some rs[r1.toNat]:=List.getElem?_eq_getElem li
         have ep:ps[r1.toNat]?=some ps[r1.toNat]:=List.getElem?_eq_getElem lip
         have ea:JJ (ps.map V.ref) r1=some (.ref ps[r1.toNat]):=by
           unfold JJ ky
           rw[if_pos r10,if_pos (by rw[lp];omega)]
           show (ps.map V.ref)[r1.toNat]?=_
           rw[List.getElem?_map,ep]
           rfl
         generalize rs[r1.toNat]=r at er
         generalize ps[r1.toNat]=p at ep ea
         obtain⟨q',h1,h2⟩:=rat.2 _ p r ep er
         have hr':r∈rs:=List.mem_of_getElem? er
         have fr4:Fr H d (upd H3 d (.dK (src n4 s0 t4))):=Fr.at_d fr3
         have hd4:upd H3 d (.dK (src n4 s0 t4)) d=some (.dK (src n4 s0 t4)):=qd
         have npd:p≠d:=Qx h1 hd (λz=>nomatch z)
         refine⟨l,_,r1,_,rfl,rfl,.of (fr4 _ _ hl nld),ea,p,_,0,_,rfl,rfl,.of (fr4 _ _ h1 npd),rfl,?_⟩
         have fin:∀o,WC P w K (upd (upd H3 d (.dK (src n4 s0 t4))) D o) D rs->Q (.ref D) (upd (upd H3 d (.dK (src n4 s0 t4))) D o):=λo ou=>q D n4 t4 _ hD ou (by rw[qk nDd];exact qd) λb u hb hn=>by
           rw[qk (qE hb hD)]
           exact fr4 b u hb hn
         rcases mid with ⟨kvs,a,b,c',g,m⟩ | ⟨ks,a,b,c',g,m⟩
         . obtain⟨v,ev⟩:=Option.isSome_iff_exists.mp (m r hr')
           have a4:upd H3 d (.dK (src n4 s0 t4)) D=some (.dK kvs):=by rw[qk (Ne.symm nDd)];exact a
           exact .inl ⟨kvs,Sum.inr r.1,v,a4,rfl,ev,_,rfl,fin _ (vo b c' (λp hp=>⟨JD hd3 (g p hp).1,(g p hp).2⟩) a4)⟩
         . have a4:OddAt P w K (upd H3 d (.dK (src n4 s0 t4))) D ks:=⟨by rw[qk (Ne.symm nDd)];exact a.1,λx hx=>by
             have ko:=a.2 x hx
             generalize x.1=k at ko ⊢
             cases k with
             | u x'=>obtain⟨y,p,e,hq⟩:=ko;exact⟨y,p,e,L2.SqT.put hq hd3⟩
             | _=>exact ko⟩
           obtain⟨j,ej⟩:∃j,(ks.findIdx? λx=>decide (x.1=.s r.1))=some j:=by
             have:=m r hr'
             unfold QV at this
             rw[<-List.findIdx?_isSome]at this
             exact Option.isSome_iff_exists.mp this
           have lj:j < ks.length:=(List.findIdx?_eq_some_iff_getElem.mp ej).1
           exact .inr ⟨ks,r.1,j,ks[j],a4,rfl,Yg (good.nm r hr'),ej,List.getElem?_eq_getElem lj,_,rfl,fin _ (VQ a4 (by omega) c' (λx hx=>⟨JD hd3 (g x hx).1,(g x hx).2⟩) hr' ej)⟩
end
end Rh
set_option Elab.async false
set_option linter.all false
set_option maxRecDepth 100000
set_option maxHeartbeats 4000000
namespace Rh
open PySem L2 PyProof.Rows MPlay
theorem _root_.L2.SqT.fr {K:PySem.W.Frag} {H H':Hp} {p d:Addr} {xs:List V} {kv:List (qw×V)} (h:SqT K H p xs) (hd:H d=some (.dK kv)) (s:Fr H d H'):SqT K H' p xs:=by
 rcases h with (h | ⟨o,h⟩) | h
 . exact .inl (.inl (s _ _ h (λe=>by rw[e,hd]at h;cases h)))
 . exact .inl (.inr ⟨o,s _ _ h (λe=>by rw[e,hd]at h;cases h)⟩)
 . exact .inr h
theorem UM {α:Type} [DecidableEq α] {l l':List α} (hn:l.Nodup) (hs:∀x∈l,x∈l') (le:l'.length<=l.length):∀x∈l',x∈l:=λx hx=>by
 refine Classical.byContradiction λc=>?_
 have:=YT (l:=x::l) (m:=l') (List.nodup_cons.mpr ⟨c,hn⟩) λy hy=>by
   rcases List.mem_cons.mp hy with rfl | hy
   . exact hx
   . exact hs y hy
 rw[List.length_cons]at this
 omega
theorem G1.fr {K:PySem.W.Frag} {H H':Hp} {d:Addr} {kv:List (qw×V)} {v:V} (h:G1 K H v) (hd:H d=some (.dK kv)) (f:Fr H d H'):G1 K H' v:=by
 obtain⟨x,a,b⟩:=h
 refine⟨x,a.keep λc u hu rr=>?_,b⟩
 have ne:c≠d:=λz=>by
   rw[z]at rr
   rcases rr with rr | ⟨w,rr⟩<;>rw[hd]at rr<;>cases rr
   rcases hu with ⟨_,e⟩ | ⟨_,e⟩<;>cases e
 rcases rr with rr | ⟨w,rr⟩
 . exact .inl (f _ _ rr ne)
 . exact .inr ⟨w,f _ _ rr ne⟩
theorem G1.rd {K:PySem.W.Frag} {H H':Hp} {T:Addr} {kv:List (qw×V)} {v:V} (h:G1 K H v) (rd:Rd H T (.dK kv)) (k:∀x o,x≠T->H x=some o->H' x=some o):G1 K H' v:=by
 obtain⟨x,a,b⟩:=h
 refine⟨x,a.keep λc u hu rr=>?_,b⟩
 rcases rr with rr | ⟨w,rr⟩
 . exact .inl (k _ _ (zb rd rr ⟨(λ_ z=>by rcases hu with ⟨_,e⟩ | ⟨_,e⟩<;>rw[e]at z<;>cases z),λ_ _ z=>by rcases hu with ⟨_,e⟩ | ⟨_,e⟩<;>rw[e]at z<;>cases z⟩) rr)
 . exact .inr ⟨w,k _ _ (zb rd rr ⟨λ_ z=>(nomatch z),λ_ _ z=>by rcases hu with ⟨_,e⟩ | ⟨_,e⟩<;>rw[e]at z<;>cases z⟩) rr⟩
theorem WC.fr {P:Program} {w:World} {K:PySem.W.Frag} {H H':Hp} {d D:Addr} {kv:List (qw×V)} {rs:jF} (h:WC P w K H D rs) (hd:H d=some (.dK kv)) (f:Fr H d H') (ne:D≠d):WC P w K H' D rs:=by
 rcases h with ⟨kvs,a,b,c,g⟩ | ⟨ks,a,b,c,g⟩
 . exact .inl ⟨kvs,f _ _ a ne,b,c,λp hp=>⟨(g p hp).1.fr hd f,(g p hp).2⟩⟩
 . refine .inr ⟨ks,⟨f _ _ a.1 ne,λx hx=>?_⟩,b,λp hp=>⟨(c p hp).1.fr hd f,(c p hp).2⟩,g⟩
   have ko:=a.2 x hx
   generalize x.1=k at ko ⊢
   cases k with
   | u x'=>obtain⟨y,p,e,hq⟩:=ko;exact⟨y,p,e,hq.fr hd f⟩
   | _=>exact ko
theorem WC.mono {P:Program} {w:World} {K:PySem.W.Frag} {H H':Hp} {D:Addr} {rs:jF} (h:WC P w K H D rs) (s:qu H H'):WC P w K H' D rs:=by
 rcases h with ⟨kvs,a,b,c,g⟩ | ⟨ks,a,b,c,g⟩
 . exact .inl ⟨kvs,s _ _ a,b,c,λp hp=>⟨(g p hp).1.mono s,(g p hp).2⟩⟩
 . exact .inr ⟨ks,a.mono s,b,λp hp=>⟨(c p hp).1.mono s,(c p hp).2⟩,g⟩
theorem Y7 {K:PySem.W.Frag} {H:Hp}:∃g:V->PyData,∀v,G1 K H v->DW K H v (g v)/\Sm (g v) 3 1000/\(g v).canLay0=true:=by
 have:∀v:V,∃d,G1 K H v->DW K H v d/\Sm d 3 1000/\d.canLay0=true:=λv=>by
   by_cases h:G1 K H v
   . obtain⟨d,x⟩:=h
     exact⟨d,λ_=>x⟩
   . exact⟨.none,λz=>absurd z h⟩
 exact⟨λv=>(this v).choose,λv h=>(this v).choose_spec h⟩
theorem Vj {K:PySem.W.Frag} {H:Hp} {g:V->PyData}:∀{kvs:List (qw×V)},(∀p∈kvs,DW K H p.2 (g p.2))->DWd K H kvs (kvs.map λp=>(p.1,g p.2))
 | [],_=>.nil
 | p::kvs,h=>.cons ⟨rfl,h p List.mem_cons_self⟩ (Vj λq hq=>h q (List.mem_cons_of_mem _ hq))
theorem Vi {K:PySem.W.Frag} {H:Hp} {g:V->PyData}:∀{ks:List OV},(∀p∈ks,DW K H p.2.2 (g p.2.2))->DWo K H ks (ks.map λp=>(p.1,g p.2.2))
 | [],_=>.nil
 | p::ks,h=>.cons ⟨rfl,h p List.mem_cons_self⟩ (Vi λq hq=>h q (List.mem_cons_of_mem _ hq))
theorem U2 {P:Program} {w:World} {K:PySem.W.Frag} {H:Hp} {D:Addr} {kvs:List (qw×V)} (rd:Rd H D (.dK kvs)) (le:kvs.length<=20) (h:∀p∈kvs,G1 K H p.2/\xU p.1):∃d,RW P w K H (.ref D) d/\Tl d:=by
 obtain⟨g,hg⟩:=Y7 (K:=K) (H:=H)
 refine⟨_,.dk rd (Vj λp hp=>(hg p.2 (h p hp).1).1),WO (λx hx=>?_) (by rw[List.length_map,List.length_map];omega)⟩
 rw[List.map_map]at hx
 obtain⟨p,hp,rfl⟩:=List.mem_map.mp hx
 exact⟨(h p hp).2.more (by decide) (by decide),(hg p.2 (h p hp).1).2.1⟩
theorem w9 {P:Program} {w:World} {K:PySem.W.Frag} {H:Hp} {D:Addr} {ks:List OV} (od:OddAt P w K H D ks) (le:ks.length<=20) (h:∀p∈ks,G1 K H p.2.2/\Sm p.1.dat 1 100):∃d,RW P w K H (.ref D) d/\Tl d:=by
 obtain⟨g,hg⟩:=Y7 (K:=K) (H:=H)
 refine⟨_,.odd od (Vi λp hp=>(hg p.2.2 (h p hp).1).1),WO (λx hx=>?_) (by rw[List.length_map,List.length_map];omega)⟩
 rw[List.map_map]at hx
 obtain⟨p,hp,rfl⟩:=List.mem_map.mp hx
 exact⟨(h p hp).2.more (by decide) (by decide),(hg p.2.2 (h p hp).1).2.1⟩
theorem Pl.to {P:Program} {w:World} {K:PySem.W.Frag} {H:Hp} {rs:jF} {v:V} {b:Bool} (h:Pl P w K H rs v b) (e:b=false):Pl P w K H rs v false:=e▸h
def Th (P:Program) (w:World) (K:PySem.W.Frag) (H:Hp) (rs:jF) (v:V):Prop:=(∃d,RW P w K H v d/\Tl d)/\(Pl P w K H rs v false\/
 ∃D kvs f,v=.ref D/\Rd H D (.dK kvs)/\kvs.length=rs.length/\zR K H kvs rs f/\Xd kvs rs/\∀p∈kvs,G1 K H p.2/\xU p.1)
theorem Yk {kvs:List (qw×V)} {rs:jF} (hn:(kvs.map (·.1)).Nodup) (good:qO rs) (len:kvs.length=rs.length) (all:∀r∈rs,(qD kvs (Sum.inr r.1:qw)).isSome=true):Xd kvs rs:=λp hp=>by
 have sub:∀x∈(rs.map (·.1)).map (Sum.inr:Str->qw),x∈kvs.map (·.1):=λx hx=>by
   obtain⟨z,hz,rfl⟩:=List.mem_map.mp hx
   obtain⟨r,hr,rfl⟩:=List.mem_map.mp hz
   obtain⟨v,ev⟩:=Option.isSome_iff_exists.mp (all r hr)
   exact YE ev
 have:=UM (jD good.nd λa _ b _ e=>Sum.inr.inj e) sub (by simp [len]) p.1 (List.mem_map.mpr ⟨p,hp,rfl⟩)
 obtain⟨z,hz,e⟩:=List.mem_map.mp this
 obtain⟨r,hr,rfl⟩:=List.mem_map.mp hz
 refine⟨r,hr,e.symm,?_⟩
 have:=JV hn hp
 rwa [<-e]at this
theorem WC.th {P:Program} {w:World} {K:PySem.W.Frag} {H:Hp} {D:Addr} {rs:jF} (h:WC P w K H D rs) (good:qO rs):Th P w K H rs (.ref D):=by
 rcases h with ⟨kvs,a,b,c,g⟩ | ⟨ks,a,b,c,g⟩
 . refine⟨U2 (.inl a) c g,?_⟩
   cases e:(decide (kvs.length=rs.length)&&rs.all λr=>(qD kvs (Sum.inr r.1:qw)).isSome) with
   | false=>exact .inl (Pl.to (.dk (.inl a)) e)
   | true=>
     rw[Bool.and_eq_true,decide_eq_true_iff,List.all_eq_true]at e
     obtain⟨len,all⟩:=e
     obtain⟨gf,hg⟩:=Y7 (K:=K) (H:=H)
     refine .inr ⟨D,kvs,λz=>gf ((qD kvs (Sum.inr z:qw)).getD .non),rfl,.inl a,len,λr hr=>?_,Yk b good len all,g⟩
     obtain⟨v,ev⟩:=Option.isSome_iff_exists.mp (all r hr)
     obtain⟨p,hp,e1⟩:=YD ev
     have e2:=JV b hp
     rw[e1,ev]at e2
     cases e2
     obtain⟨x1,x2,x3⟩:=hg p.2 (g p hp).1
     refine⟨p.2,ev,?_⟩
     dsimp only
     rw[ev]
     exact⟨x1.dv,x3,Nat.le_trans x2.dp (by decide)⟩
 . refine⟨w9 a b c,.inl (Pl.to (.odd a) ?_)⟩
   rcases g with g | ⟨r,hr,g⟩
   . rw[decide_eq_false g];rfl
   . cases e:(rs.all λr=>QV ks (.s r.1)) with
     | false=>rw[Bool.and_false]
     | true=>
       have:=List.all_eq_true.mp e r hr
       rw[g]at this
       cases this
theorem xF {rs:jF} {f:Str->PyData} (good:qO rs) (tt:Tab (zT rs) (rs.map (·.1)) (tF rs)) (h:kZ rs f):∀r∈rs,f r.1=dE (tF rs r.1):=λr hr=>by
 have inv:∀r∈rs,∃e,jO (f r.1)=some e/\Jg f r.1=e:=λr hr=>by
   obtain⟨e,he⟩:=Option.isSome_iff_exists.mp (h.1 r hr)
   exact⟨e,he,by unfold Jg;rw[he];rfl⟩
 have sh:wH (zT rs) (rs.map (·.1)) (Jg f):=⟨λz hz b n e=>by
   obtain⟨r,hr,rfl⟩:=List.mem_map.mp hz
   obtain⟨e',h1,h2⟩:=inv r hr
   rw[h2]at e
   exact(Jf h1).2 b n e,λz hz=>by
   obtain⟨r,hr,rfl⟩:=List.mem_map.mp hz
   exact h.2 r hr⟩
 have eq:=wH.uniq (zB good.nd) sh tt.shw r.1 (List.mem_map.mpr ⟨r,hr,rfl⟩)
 obtain⟨e,h1,h2⟩:=inv r hr
 rw[h2]at eq
 rw[(Jf h1).1,eq]
theorem Yo {rs:jF} (tt:Tab (zT rs) (rs.map (·.1)) (tF rs)):kZ rs λz=>dE (tF rs z):=by
 have en:∀z,jO (dE (tF rs z))=some (tF rs z):=λz=>uT λb n e=>(Zr (zT rs) e).1
 have eo:Jg (λz=>dE (tF rs z))=tF rs:=funext λz=>by unfold Jg;rw[en];rfl
 refine⟨λr hr=>by rw[en];rfl,λr hr=>?_⟩
 rw[eo]
 exact tt.shw.fit r.1 (List.mem_map.mpr ⟨r,hr,rfl⟩)
theorem Km {rs:jF} {z:Str} {b:Bool} {n:Int} (h:tF rs z=some (b,n)):0<=n/\n < 14:=Zr (zT rs) h
theorem G1.of_ent {K:PySem.W.Frag} {H:Hp} {v:V} {e:En} (h:qM K H v e) (bd:∀b m,e=some (b,m)->0<=m/\m < 14):G1 K H v:=by
 obtain⟨pp,e4,sq⟩:=h.two'
 obtain⟨dy,fy⟩:=RO bd
 rw[e4]
 exact Yp (.cons (xK _) (.cons fy .nil)) (by simp) sq
theorem qM.fr {K:PySem.W.Frag} {H H':Hp} {d:Addr} {kv:List (qw×V)} {v:V} {e:En} (h:qM K H v e) (hd:H d=some (.dK kv)) (f:Fr H d H'):qM K H' v e:=by
 obtain⟨p,rfl,sq⟩:=h
 exact⟨p,rfl,sq.fr hd f⟩
theorem Y3 {K:PySem.W.Frag} {H:Hp} {kvs:List (qw×V)} {rs:jF} {fe:Str->En} (good:qO rs) (ek:kvs.map (·.1)=(rs.map (·.1)).map Sum.inr) (ent:∀r∈rs,∃v,qD kvs (Sum.inr r.1:qw)=some v/\qM K H v (fe r.1)) (bd:∀r∈rs,∀b m,fe r.1=some (b,m)->0<=m/\m < 14):(kvs.map (·.1)).Nodup/\kvs.length=rs.length/\∀p∈kvs,G1 K H p.2/\xU p.1:=by
 have kn:(kvs.map (·.1)).Nodup:=by
   rw[ek]
   exact jD good.nd λa _ b _ e=>Sum.inr.inj e
 refine⟨kn,by simpa using congrArg List.length ek,λp hp=>?_⟩
 have hm:p.1∈kvs.map (·.1):=List.mem_map.mpr ⟨p,hp,rfl⟩
 rw[ek]at hm
 obtain⟨z,hz,e1⟩:=List.mem_map.mp hm
 obtain⟨r,hr',rfl⟩:=List.mem_map.mp hz
 obtain⟨v,e2,ea⟩:=ent r hr'
 have e3:=JV kn hp
 rw[<-e1,e2]at e3
 cases e3
 refine⟨.of_ent ea (bd r hr'),?_⟩
 rw[<-e1]
 exact JZ (good.nm r hr')
end Rh
set_option Elab.async false
set_option linter.all false
set_option maxRecDepth 100000
set_option maxHeartbeats 4000000
namespace Rh
open PySem L2 PyProof.Rows MPlay
def WV (K:PySem.W.Frag):Sp:=λvs H Q _=>∃(a:Addr) (ns:List Int),vs=[.ref a]/\SqL K H a (ns.map V.int)/\ns.length<=63/\∀H',Q (.bl true) H'
theorem _root_.L2.SqL.mono {K:PySem.W.Frag} {H H':Hp} {p:Addr} {xs:List V} (h:SqL K H p xs) (s:qu H H'):SqL K H' p xs:=by
 rcases h with (h | ⟨o,h⟩) | h
 . exact .inl (.inl (s _ _ h))
 . exact .inl (.inr ⟨o,s _ _ h⟩)
 . exact .inr h
theorem _root_.L2.SqL.fr {K:PySem.W.Frag} {H H':Hp} {p d:Addr} {xs:List V} {kv:List (qw×V)} (h:SqL K H p xs) (hd:H d=some (.dK kv)) (s:Fr H d H'):SqL K H' p xs:=by
 rcases h with (h | ⟨o,h⟩) | h
 . exact .inl (.inl (s _ _ h (λe=>by rw[e,hd]at h;cases h)))
 . exact .inl (.inr ⟨o,s _ _ h (λe=>by rw[e,hd]at h;cases h)⟩)
 . exact .inr h
theorem jh.fr {H H':Hp} {d:Addr} {ps:List Addr} {rs:jF} {kv:List (qw×V)} (h:jh H ps rs) (hd:H d=some (.dK kv)) (s:Fr H d H'):jh H' ps rs:=⟨h.1,λi p r e1 e2=>by
 obtain⟨q,a,b⟩:=h.2 i p r e1 e2
 exact⟨q,s _ _ a (λe=>by rw[e,hd]at a;cases a),s _ _ b (λe=>by rw[e,hd]at b;cases b)⟩⟩
theorem yr {n s t:Int} {k:qw} {v:V} (h:qD (src n s t) k=some v):∃i,v=.int i:=by
 obtain⟨p,hp,e⟩:=Option.map_eq_some_iff.mp h
 have:=List.mem_of_find?_eq_some hp
 unfold src at this
 simp only[List.mem_cons,List.mem_nil_iff,or_false]at this
 rcases this with rfl | rfl | rfl<;>exact⟨_,e.symm⟩
theorem Q8.src {CG:Addr} {H H':Hp} {a d:Addr} {rs:jF} {n s t:Int} (h:Q8 CG H a rs) (pos:0 < rs.length) (hd:H d=some (.dK (src n s t))) (f:Fr H d H'):Q8 CG H' a rs:=by
 obtain⟨dx,lo,rd,kvs,e1,e2,e3,e4⟩:=h
 refine⟨dx,lo,rd,kvs,f _ _ e1 (λz=>by rw[z,hd]at e1;cases e1),f _ _ e2 (λz=>by rw[z,hd]at e2;cases e2),f _ _ e3 (λz=>?_),λr hr=>let ⟨q,a1,a2⟩:=e4 r hr;⟨q,a1,f _ _ a2 (λz=>by rw[z,hd]at a2;cases a2)⟩⟩
 rw[z,hd]at e3
 have e5:=HO.dK.inj (Option.some.inj e3)
 obtain⟨r0,er⟩:∃r,rs[0]?=some r:=⟨_,List.getElem?_eq_getElem pos⟩
 obtain⟨q,a1,_⟩:=e4 r0 (List.mem_of_getElem? er)
 rw[<-e5]at a1
 obtain⟨i,e6⟩:=yr a1
 cases e6
theorem wG (e:En):(dE e).depth<=40:=by
 cases e with
 | none=>show 1<=40;decide
 | some p=>show 1<=40;decide
def xZ (P:Program) (w:World) (K:PySem.W.Frag) (H:Hp) (rs:jF) (v:V):Prop:=∃d,RW P w K H v d/\Tl d/\Pl P w K H rs v false
theorem xZ.mono {P:Program} {w:World} {K:PySem.W.Frag} {H H':Hp} {rs:jF} {v:V} (h:xZ P w K H rs v) (s:qu H H'):xZ P w K H' rs v:=by
 obtain⟨d,a,b,h⟩:=h
 refine⟨d,a.mono s,b,?_⟩
 generalize hb:false=b at h ⊢
 cases h with
 | dat dv=>exact .dat (dv.mono s)
 | dk rd=>exact .dk (rd.mono s)
 | odd od=>exact .odd (od.mono s)
theorem Sm.tl {d:PyData} {k L:Nat} (h:Sm d k L) (hk:k<=60) (hL:L<=16777216) (nt:∀i,d=.int i->i.natAbs.log2 < 1920):Tl d:=⟨h.sh,Nat.le_trans h.dp hk,Nat.le_trans h.ln (by rw[sizeLine_eq];exact hL),nt⟩
theorem xZ.dat {P:Program} {w:World} {K:PySem.W.Frag} {H:Hp} {rs:jF} {v:V} {d:PyData} (h:DW K H v d) (t:Tl d):xZ P w K H rs v:=⟨d,.dat h,t,.dat h.dv⟩
theorem Vh {K:PySem.W.Frag} {H H2:Hp} {g:V->PyData} (s:qu H H2):∀{ps:List Addr} {kvs:List (qw×V)},ps.length=kvs.length->(∀(i:Nat) (p:Addr) (kv:qw×V),ps[i]?=some p->kvs[i]?=some kv->H2 p=some (.tup [kV kv.1,kv.2]))->(∀p∈kvs,DW K H p.2 (g p.2))->DWs K H2 (ps.map V.ref) (kvs.map λp=>.tuple [kD p.1,g p.2])
 | [],[],_,_,_=>.nil
 | [],_::_,h,_,_=>by cases h
 | _::_,[],h,_,_=>by cases h
 | p::ps,kv::kvs,l,h,hg=>by
   refine .cons (.tup (.of (h 0 p kv rfl rfl)) (.cons ?_ (.cons ((hg kv List.mem_cons_self).mono s) .nil))) (Vh s (Nat.succ.inj l) (λi p' kv' e1 e2=>h (i+1) p' kv' (by simpa using e1) (by simpa using e2)) λq hq=>hg q (List.mem_cons_of_mem _ hq))
   cases kv.1 with
   | inl i=>exact .int i
   | inr x=>exact .str x
theorem Uw {P:Program} {w:World} {K:PySem.W.Frag} {H H2:Hp} {rs:jF} {kvs:List (qw×V)} {S:Addr} {ps:List Addr} (s:qu H H2) (nS:S≠sysModules) (hS:H2 S=some (.lst (ps.map V.ref))) (l:ps.length=kvs.length) (at_:∀(i:Nat) (p:Addr) (kv:qw×V),ps[i]?=some p->kvs[i]?=some kv->H2 p=some (.tup [kV kv.1,kv.2])) (h:∀p∈kvs,G1 K H p.2/\xU p.1) (le:kvs.length<=20):xZ P w K H2 rs (.ref S):=by
 obtain⟨g,hg⟩:=Y7 (K:=K) (H:=H)
 refine .dat (.lst (.of hS) nS (Vh s l at_ λp hp=>(hg p.2 (h p hp).1).1)) (Sm.tl (Wb (k:=4) (L:=2007) λd hd=>?_) (by decide) (by rw[List.length_map];omega) λi z=>nomatch z)
 obtain⟨p,hp,rfl⟩:=List.mem_map.mp hd
 exact US (k:=3) (L:=1000) (M:=1000) ((h p hp).2.more (by decide) (by decide)) (hg p.2 (h p hp).1).2.1
theorem qM.rd {K:PySem.W.Frag} {H H':Hp} {T:Addr} {kvs:List (qw×V)} {v:V} {e:En} (h:qM K H v e) (rd:Rd H T (.dK kvs)) (k:∀x o,x≠T->H x=some o->H' x=some o):qM K H' v e:=by
 obtain⟨p,rfl,sq⟩:=h
 refine⟨p,rfl,?_⟩
 rcases sq with (h | ⟨o,h⟩) | h
 . exact .inl (.inl (k _ _ (zb rd h ⟨λ_ z=>(nomatch z),λ_ _ z=>(nomatch z)⟩) h))
 . exact .inl (.inr ⟨o,k _ _ (zb rd h ⟨λ_ z=>(nomatch z),λ_ _ z=>by cases o<;>cases z⟩) h⟩)
 . exact .inr h
theorem K0 {r:Int} (h0:0<=r) (h1:r < 4):∃mo:Nat,JJ [V.int 3,.int 5,.int 9,.int 14] r=some (.int (mo:Int))/\0 < mo/\mo<=14:=by
 have:r=0\/r=1\/r=2\/r=3:=by omega
 rcases this with rfl | rfl | rfl | rfl
 . exact⟨3,rfl,by decide,by decide⟩
 . exact⟨5,rfl,by decide,by decide⟩
 . exact⟨9,rfl,by decide,by decide⟩
 . exact⟨14,rfl,by decide,by decide⟩
theorem u70 {A:Around} {k:Nat} (r:jq k A):A.units+70 < cLine:=by have:=r.un;omega
section
variable {P:Program} {w:World} {K:PySem.W.Frag} {mg:Str->Option Value} {base:Heap}
abbrev RF:List Str:=["_law_script","_law_k","_law_source_here","_law_rows_here","_law_ground","_law_told_here","_law_turn","_law_thing","_law_due"]
theorem Jy:qJ RF ["_law_script"] (qt YM):=⟨rfl,rfl,rfl,by decide+kernel,rfl,by decide+kernel,by decide+kernel⟩
structure Gw (K:PySem.W.Frag) (mg:Str->Option Value):Prop where
 cell:∃f fd,jT K mg "_law_cell_at" W3 ["_law_script","_law_k"] f fd
 source:∃f fd,jT K mg "_law_source" ZO ["_law_cell"] f fd
 take:∃f fd,jT K mg "_law_take" Jz ["_law_source_here","_law_many"] f fd
 names:∃f fd,jT K mg "_law_names" Z5 ["_law_source_here","_law_many"] f fd
 leads:∃f fd,jT K mg "_law_leads" Z6 zg f fd
 rows:∃f fd,jT K mg "_law_rows" W0 ["_law_source_here","_law_most"] f fd
 need:∃f fd,jT K mg "need_rows" Xs ["rows"] f fd
 setin:∃f fd,jT K mg "settled_in" Zo u5 f fd
 setpl:∃f fd,jT K mg "settled_places" Z1 ["ground"] f fd
 tabof:∃f fd,jT K mg "table_of" YK ["ground"] f fd
 whole:∃f fd,jT K mg "is_whole" Zn ["thing"] f fd
 isd:∃f fd,jT K mg "is_dict_of_places" U1 ["ground","thing"] f fd
 isent:∃f fd,jT K mg "is_entry" Z8 ["thing"] f fd
 efits:∃f fd,jT K mg "entry_fits" Zp ["entry","behind"] f fd
 pfits:∃f fd,jT K mg "place_fits" Z3 u6 f fd
 shows:∃f fd,jT K mg "shows_single" Z0 uz f fd
 tgood:∃f fd,jT K mg "_law_tuple_good" ZZ ["_law_thing"] f fd
 pgood:∃f fd,jT K mg "_law_place_good" Z2 KN f fd
 lshows:∃f fd,jT K mg "_law_shows" ZP KW f fd
 other:∃f fd,jT K mg "_law_other" Z4 KO f fd
 spoil:∃f fd,jT K mg "_law_spoiled" YL GK f fd
 drawn:∃f fd,jT K mg "_law_drawn" YN GQ f fd
 told:∃f fd,jT K mg "_law_told" WZ GJ f fd
theorem ur {f CG:Addr} {fd:FuncData} (F:Qw K "law" "law" YM f fd) (B:JU mg) (G:Q7 mg) (T:JQ K mg) (TI:ZL K mg) (rep:mg "repr"=none) (N:xX K mg) (M:GM K mg CG) (Z:Gw K mg):qI P w K mg base ji 8 f fd ["_law_script"] (WV K):=by
 obtain⟨fO,fdO,hO⟩:=Z.cell
 obtain⟨fL,fdL,hL⟩:=Z.source
 obtain⟨fT,fdT,hT⟩:=Z.take
 obtain⟨fN,fdN,hN⟩:=Z.names
 obtain⟨fD,fdD,hD⟩:=Z.leads
 obtain⟨fR,fdR,hR⟩:=Z.rows
 obtain⟨fW,fdW,hW⟩:=Z.need
 obtain⟨f1,fd1,h1⟩:=Z.setin
 obtain⟨f2,fd2,h2⟩:=Z.setpl
 obtain⟨f3,fd3,h3⟩:=Z.tabof
 obtain⟨f4,fd4,h4⟩:=Z.whole
 obtain⟨f5,fd5,h5⟩:=Z.isd
 obtain⟨f6,fd6,h6⟩:=Z.isent
 obtain⟨f7,fd7,h7⟩:=Z.efits
 obtain⟨f8,fd8,h8⟩:=Z.pfits
 obtain⟨f9,fd9,h9⟩:=Z.shows
 obtain⟨e1,ed1,i1⟩:=Z.tgood
 obtain⟨e2,ed2,i2⟩:=Z.pgood
 obtain⟨e3,ed3,i3⟩:=Z.lshows
 obtain⟨e4,ed4,i4⟩:=Z.other
 obtain⟨e5,ed5,i5⟩:=Z.spoil
 obtain⟨e6,ed6,i6⟩:=Z.drawn
 obtain⟨e7,ed7,i7⟩:=Z.told
 obtain⟨fI,fdI,C⟩:=M.cls
 have GO:qI P w K mg base ji 1 fO fdO ["_law_script","_law_k"] (UR K):=yX hO.fn B
 have GL:qI P w K mg base ji 1 fL fdL ["_law_cell"] Xr:=VU hL.fn B
 have GT:qI P w K mg base ji 1 fT fdT ["_law_source_here","_law_many"] Ja:=QR hT.fn
 have GR:qI P w K mg base ji 3 fR fdR ["_law_source_here","_law_most"] UP:=yT hR.fn B G hT hN hD
 have GI:qI P w K mg base ji 6 fI fdI ["self","rows"] (WW CG):=vM C B G T N hW
 have G3:qI P w K mg base ji 5 f3 fd3 ["ground"] (WQ K CG):=vz h3.fn B G T M h1 h2
 have G9:qI P w K mg base ji 4 f9 fd9 uz (YG P w K CG):=vB h9.fn B G T TI M h5 h4 h6 h7 h8
 have GS:qI P w K mg base ji 2 e3 ed3 KW (Kw P w K):=VX i3.fn B G TI i1 i2
 have GP:qI P w K mg base ji 3 e5 ed5 GK (wc P w K):=vA i5.fn B TI hT i4
 have GD:qI P w K mg base ji 2 e6 ed6 GQ (wk K):=vO i6.fn B hT
 have GX:qI P w K mg base ji 5 e7 ed7 GJ (UO P w K CG):=yS i7.fn TI rep h9 G9
 refine F.okJ Jy (λvs H Q E z=>?_) (λcdv A outer s H vs Q E hr z=>?_)
 . obtain⟨a,ns,rfl,_⟩:=z
   rfl
 . obtain⟨a,ns,rfl,hq,hlen,k⟩:=z
   have hu:=jN hr
   have r1:jq 1 _:=hr.mono (by decide)
   have r2:jq 2 _:=hr.mono (by decide)
   have r3:jq 3 _:=hr.mono (by decide)
   have r5:jq 5 _:=hr.mono (by decide)
   refine⟨_,qg (jK PassesOwn.never rfl (jV (by rfl) B.rng (qb (qo (Ys rfl) (by rfl) B.max boot_max (qb qh (qb (qo (Uu rfl) (by rfl) B.min boot_min (qb (qo qx (by rfl) B.len boot_len (qb (jv 0) qe)) (qb qh qe))) qe))) qe))
       (qz (i:=1) Jy.nd rfl (Or.inl rfl))
       (qg (qC (i:=2) Jy.nd rfl (Or.inl rfl) (qX hL GL r1 (by rfl) (qb (qX hO GO r1 (by rfl) (qb (jv 0) (qb (jv 1) qe))) qe)))
       (qg (qC (i:=3) Jy.nd rfl (Or.inl rfl) (qX hR GR r3 (by rfl) (qb (jv 2) (qb (qH jl (jk (qb qh (qb qh (qb qh (qb qh qe))))) (qX hT GT r1 (by rfl) (qb (jv 2) (qb qh qe))) (λ_ _=>rfl)) qe))))
       (qg (qC (i:=4) Jy.nd rfl (Or.inl rfl) (xx C.mkr GI hr (by rfl) C.ns C.bi .nil W6 (qb (jE QX (by rfl) G.lst boot_list (qb (jv 3) qe)) qe)))
       (qg (qC (i:=5) Jy.nd rfl (Or.inl rfl) (qX h3 G3 r5 (by rfl) (qb (jv 4) qe)))
       (qg (qS (JW.pt (Qi (jG (jr (qX i3 GS r2 (by rfl) (qb (jv 3) (qb (jv 5) qe))))) (jR (jG (jr (qX i7 GX r5 (by rfl) (qb (jv 4) (qb (jv 5) (qb jw qe))))))))) (ql (qG jw)) qA)
       (qg (jK PassesOwn.never rfl (jV (by rfl) B.rng (qb qh qe)) (qz (i:=6) Jy.nd rfl (Or.inl rfl))
         (qg (qC (i:=7) Jy.nd rfl (Or.inl rfl) (qH jl (jk (qb (qX i5 GP r3 (by rfl) (qb (jv 5) (qb (jv 3) (qb (jv 2) qe)))) (qb (qX i6 GD r2 (by rfl) (qb (jv 3) (qb (jv 2) qe))) qe))) (jE Js (by rfl) B.int boot_int (qb (qP jg (jv 6) qh (qr _)) qe)) (λ_ _=>rfl)))
         (qg (qC (i:=8) Jy.nd rfl (Or.inl rfl) (qX i3 GS r2 (by rfl) (qb (jv 3) (qb (jv 7) qe))))
         (ql (qS (JW.pt (Qi (JW.pt (Qg (jr (jv 8)) (jZ (qv (yN (u70 hr)) (jv 7) (jv 5) (qr _))))) (jR (jG (jr (qX i7 GX r5 (by rfl) (qb (jv 4) (qb (jv 7) (qb (jv 8) qe))))))))) (ql (qG jw)) qA)))))
       (ql (jK PassesOwn.never rfl (qT (jk (qb QT (qb qh (qb jw (qb (YX qe) (qb (km rfl (by rfl) G.lst (jv 5)) (qb qB (qb (qW qe) (qb j8 qe)))))))))) (qz (i:=7) Jy.nd rfl (Or.inl rfl))
         (ql (qS (jG (jr (qX i7 GX r5 (by rfl) (qb (jv 4) (qb (jv 7) (qb jw qe)))))) (ql (qG jw)) qA)))))))))))
     (ql (qG jw)),?_⟩
   refine⟨_,rfl,a,_,rfl,.inl hq,_,_,rfl,_,_,rfl,?_⟩
   generalize hj:(if (if (12:Int) < ((ns.map V.int).length:Int) then (12:Int) else ((ns.map V.int).length:Int)) > 3 then (if (12:Int) < ((ns.map V.int).length:Int) then (12:Int) else ((ns.map V.int).length:Int)) else 3)=jj
   have jb:-(2^62)<=jj/\jj < 2^62:=by
     rw[<-hj]
     split<;>split<;>omega
   refine⟨jj,rfl,jb.1,jb.2,?_⟩
   refine Qn (λi σ H'=>∃v1 v2 v3 v4 v5 v6 v7 v8,σ=[some (.ref a),v1,v2,v3,v4,v5,v6,v7,v8]/\SqL K H' a (ns.map V.int)) ⟨_,_,_,_,_,_,_,_,rfl,hq⟩ ?_ ?_
   . rintro i σ H' hi ⟨v1,v2,v3,v4,v5,v6,v7,v8,rfl,hq2⟩
     refine⟨_,rfl,_,rfl,a,ns,_,rfl,hq2,by omega,λc=>⟨c,rfl,λd n sd hd=>?_⟩⟩
     refine⟨_,rfl,by show 4<=sizeLine;decide,λlp hlp=>?_⟩
     have ndp:lp≠d:=λe=>by rw[e,qd]at hlp;cases hlp
     refine⟨_,rfl,d,4,n,sd,0,rfl,qi qd hlp,by decide,by decide,λr n1 t1 r0 r1=>?_⟩
     obtain⟨mo,em,m0,m14⟩:=K0 r0 r1
     refine⟨lp,_,r,_,rfl,rfl,.of (by rw[qk ndp];exact qd),em,d,mo,n1,sd,t1,rfl,qd,m0,m14,λl ps rs n2 t2 H2 hl hl2 rat good pos le hd2 fr2=>?_⟩
     have hlp':H' lp=none:=by rw[qk ndp]at hlp;exact hlp
     have sm:qu H' H2:=λb u hb=>by
       have nb:b≠d:=qE hb hd
       refine fr2 b u ?_ nb
       rw[qk nb,qk (qE hb hlp'),qk nb]
       exact hb
     have le14:rs.length<=14:=Nat.le_trans le m14
     refine⟨_,rfl,l,_,rfl,.inl (.of hl2),λl2 hl2' x dx hx hdx ndx=>?_⟩
     have hx2:H2 x=none:=by
       by_cases e:x=l2
       . rw[e,qd]at hx;cases hx
       . rw[qk e]at hx;exact hx
     have hdx2:H2 dx=none:=by
       by_cases e:dx=l2
       . rw[e,qd]at hdx;cases hdx
       . rw[qk e]at hdx;exact hdx
     have s3:qu H2 (upd (upd (upd H2 l2 (.lst (ps.map V.ref))) dx (.own x)) x (.ins CG dx [])):=λb u hb=>by
       rw[qk (qE hb hx2),qk (qE hb hdx2),qk (qE hb hl2')]
       exact hb
     have hl3:upd (upd (upd H2 l2 (.lst (ps.map V.ref))) dx (.own x)) x (.ins CG dx []) l2=some (.lst (ps.map V.ref)):=by
       have n1:l2≠x:=λe=>by rw[<-e,qd]at hx;cases hx
       have n2:l2≠dx:=λe=>by rw[<-e,qd]at hdx;cases hdx
       rw[qk n1,qk n2]
       exact qd
     refine⟨x,dx,l2,ps,rs,rfl,⟨hl3,rat.mono s3,good,pos,le14⟩,qd,λH4 gr fr4=>⟨rfl,?_⟩⟩
     have s4:qu H2 H4:=λb u hb=>fr4 b u (s3 _ _ hb) (qE hb hx2)
     refine⟨_,rfl,x,rs,rfl,gr,good,le14,λH5 D kvs s5 hD hD5 full ek tt=>?_⟩
     have hd4:=s4 _ _ hd2
     have nDd:D≠d:=λe=>by rw[e,hd4]at hD;cases hD
     have bd:∀r∈rs,∀b m,tF rs r.1=some (b,m)->0<=m/\m < 14:=λr _ b m e=>Km e
     obtain⟨kn,klen,kg⟩:=Y3 good ek full bd
     have dat5:zR K H5 kvs rs (λz=>dE (tF rs z)):=λr hr'=>by
       obtain⟨v,e1,e2⟩:=full r hr'
       exact⟨v,e1,k8 e2,PySem.SeqAt.canLay_of_shaped (Ky _),wG _⟩
     have kin:Xd kvs rs:=Yk kn good klen λr hr'=>let ⟨v,e,_⟩:=full r hr';by rw[e];rfl
     refine⟨_,rfl,_,rfl,l,.ref D,ps,rs,rfl,s5 _ _ (s4 _ _ hl2),rat.mono (s4.trans s5),good,le14,.inr ⟨D,kvs,_,rfl,.inl hD5,klen,dat5,kin,λH6 b k6 rd6 hb=>⟨_,rfl,?_⟩⟩⟩
     obtain rfl:b=true:=hb.mpr (Yo tt)
     have s46:qu H4 H6:=λy o e=>k6 y o (λz=>by rw[z,hD]at e;cases e) (s5 _ _ e)
     have full6:Jk K H6 kvs rs:=λr hr'=>let ⟨v,e1,e2⟩:=full r hr';⟨v,e1,e2.rd (.inl hD5) k6⟩
     obtain⟨_,_,kg6⟩:=Y3 good ek full6 bd
     have dat6:zR K H6 kvs rs (λz=>dE (tF rs z)):=λr hr'=>by
       obtain⟨v,e1,e2⟩:=full6 r hr'
       exact⟨v,e1,k8 e2,PySem.SeqAt.canLay_of_shaped (Ky _),wG _⟩
     obtain⟨dT,rwT,tlT⟩:=U2 (P:=P) (w:=w) rd6 (by omega) kg6
     refine jm ⟨_,rfl,_,rfl,x,.ref D,true,rs,dT,rfl,gr.mono s46,good,le14,rwT,tlT,.inr ⟨D,kvs,_,rfl,rd6,klen,dat6,iff_of_true rfl (Yo tt)⟩,λH7 s7=>⟨_,rfl,jm ?_⟩⟩
     have s47:=s46.trans s7
     have s27:=s4.trans s47
     have rd7:=rd6.mono s7
     have full7:=full6.mono s7
     have hd7:=s27 _ _ hd2
     have hl7:=s27 _ _ hl2
     have rat7:=rat.mono s27
     have gr7:=gr.mono s47
     have nld:l≠d:=Qx hl7 hd7 (λz=>nomatch z)
     have hq7:=(hq2.mono sm).mono s27
     clear kg6 rwT tlT dat6 kg dat5
     refine⟨4,rfl,by decide,by decide,?_⟩
     refine Qn (lo:=0) (n:=4) (λj σ' G'=>∃v6 v7 v8 n3 t3,σ'=[some (.ref a),some (.int (0+(i:Int))),some (.ref d),some (.ref l),some (.ref x),some (.ref D),v6,v7,v8]/\Fr H7 d G'/\G' d=some (.dK (src n3 sd t3)))
       ⟨_,_,_,n2,t2,rfl,Fr.refl,hd7⟩ ?_ ?_
     . rintro j σ' G' hj ⟨v6,v7,v8,n3,t3,rfl,fr,hdG⟩
       have hlG:=fr _ _ hl7 nld
       have ratG:=rat7.fr hd7 fr
       have grG:=gr7.src pos hd7 fr
       have rdG:Rd G' D (.dK kvs):=rd7.elim (λe=>.inl (fr _ _ e nDd)) λ⟨o,e⟩=>.inr ⟨o,fr _ _ e nDd⟩
       have fullG:Jk K G' kvs rs:=λr hr'=>let ⟨v,e1,e2⟩:=full7 r hr';⟨v,e1,e2.fr hd7 fr⟩
       refine⟨_,rfl,_,rfl,_,rfl,D,l,d,kvs,ps,rs,tF rs,n3,sd,t3,rfl,rdG,ek,fullG,bd,hlG,ratG,good,pos,le14,nDd,hdG,λD1 n4 t4 G1 hD1 out1 hd1 fr1=>?_⟩
       have hD1d:D1≠d:=λz=>by rw[z,hdG]at hD1;cases hD1
       have hl1:=fr1 _ _ hlG nld
       refine⟨_,rfl,_,rfl,l,d,ps,rs,n4,sd,t4,rfl,hl1,ratG.fr hdG fr1,good,le14,hd1,λD2 kv2 fe2 n5 t5 G2 hD2 hDk2 ek2 ent2 bd2 hd2' fr2'=>?_⟩
       have hD2d:D2≠d:=λz=>by rw[z,hd1]at hD2;cases hD2
       have out1':=out1.fr hd1 fr2' hD1d
       obtain⟨kn2,kl2,kg2⟩:=Y3 good ek2 ent2 λr _=>bd2 r.1
       have out2:WC P w K G2 D2 rs:=.inl ⟨kv2,hDk2,kn2,by omega,kg2⟩
       refine⟨Q9,λL hL=>?_⟩
       have sL:qu G2 (upd G2 L (.lst [.ref D1,.ref D2])):=qj hL
       have eL:upd G2 L (.lst [.ref D1,.ref D2]) L=some (.lst [.ref D1,.ref D2]):=qd
       have f3:Fr G' d (upd G2 L (.lst [.ref D1,.ref D2])):=λb u hb hn=>sL _ _ (fr2' _ _ (fr1 b u hb hn) hn)
       obtain⟨DD,ed,outD,freshD⟩:∃DD,JJ [V.ref D1,.ref D2] (if decide (V.int (0+(j:Int))=V.int 3)=true then 1 else 0)=some (.ref DD)/\WC P w K G2 DD rs/\G' DD=none:=by
         by_cases c:decide (V.int (0+(j:Int))=V.int 3)=true
         . rw[if_pos c]
           refine⟨D2,rfl,out2,?_⟩
           cases e:G' D2 with
           | none=>rfl
           | some o=>rw[fr1 _ _ e hD2d]at hD2;cases hD2
         . rw[if_neg c]
           exact⟨D1,rfl,out1',hD1⟩
       have hd3:=sL _ _ hd2'
       generalize upd G2 L (.lst [.ref D1,.ref D2])=G3 at sL eL f3 hd3
       have thD:Th P w K G3 rs (.ref DD):=(outD.mono sL).th good
       refine⟨_,rfl,rfl,.inr ⟨_,rfl,L,_,_,.ref DD,rfl,rfl,.of eL,ed,?_⟩⟩
       have nDDd:DD≠d:=λz=>by rw[z,hdG]at freshD;cases freshD
       have hl3:=f3 _ _ hlG nld
       have rat3:=ratG.fr hdG f3
       have gr3:=grG.src pos hdG f3
       refine⟨_,rfl,_,rfl,l,.ref DD,ps,rs,rfl,hl3,rat3,good,le14,?_⟩
       obtain⟨⟨dd,rwd,tld⟩,thD⟩:=thD
       rcases thD with pl | ⟨D0,kv0,f0,e0,rd0,V6,dat0,kin0,g0⟩
       . refine .inl ⟨pl,λG4 s4'=>?_⟩
         have f4:Fr H7 d G4:=λb u hb hn=>s4' _ _ (f3 _ _ (fr b u hb hn) hn)
         refine⟨_,rfl,_,rfl,jm (jm ?_)⟩
         have pl4:Pl P w K G4 rs (.ref DD) false:=by
           have:=(xZ.mono (P:=P) (w:=w) (K:=K) (rs:=rs) ⟨dd,rwd,tld,pl⟩ s4')
           obtain⟨_,_,_,pl'⟩:=this
           exact pl'
         refine⟨_,rfl,_,rfl,_,rfl,x,.ref DD,false,rs,dd,rfl,gr3.mono s4',good,le14,rwd.mono s4',tld,.inl ⟨pl4,rfl⟩,λG5 s5'=>⟨_,rfl,jm ?_⟩⟩
         exact⟨_,_,_,n5,t5,rfl,λb u hb hn=>s5' _ _ (f4 b u hb hn),s5' _ _ (s4' _ _ hd3)⟩
       . obtain rfl:DD=D0:=V.ref.inj e0
         refine .inr ⟨DD,kv0,f0,rfl,rd0,V6,dat0,kin0,λG4 b k4 rd4 hb=>?_⟩
         have oldN:∀y o,G' y=some o->y≠DD:=λy o e z=>by rw[z,freshD]at e;cases e
         have f4:Fr G' d G4:=λy u hy hn=>k4 _ _ (oldN y u hy) (f3 y u hy hn)
         have f4':Fr H7 d G4:=λy u hy hn=>f4 y u (fr y u hy hn) hn
         have hd4':=k4 _ _ (Ne.symm nDDd) hd3
         have gr4:=grG.src pos hdG f4
         have dat4:zR K G4 kv0 rs f0:=λr hr'=>let ⟨v,e1,e2,e3⟩:=dat0 r hr';⟨v,e1,e2.fr rd0 k4,e3⟩
         have full4:Jk K G4 kvs rs:=λr hr'=>let ⟨v,e1,e2⟩:=fullG r hr';⟨v,e1,e2.fr hdG f4⟩
         have rdT4:Rd G4 D (.dK kvs):=rdG.elim (λe=>.inl (f4 _ _ e nDd)) λ⟨o,e⟩=>.inr ⟨o,f4 _ _ e nDd⟩
         have rw4:∃d4,RW P w K G4 (.ref DD) d4/\Tl d4:=U2 rd4 (by omega) λp hp=>⟨(g0 p hp).1.rd rd0 k4,(g0 p hp).2⟩
         obtain⟨d4,rw4,tl4⟩:=rw4
         have fin:∀G5,qu G4 G5->∃v6 v7 v8 n3 t3,([some (.ref a),some (.int (0+(i:Int))),some (.ref d),some (.ref l),some (.ref x),some (.ref D),some (.int (0+(j:Int))),some (.ref DD),some (.bl b)]:L2.St)=[some (.ref a),some (.int (0+(i:Int))),some (.ref d),some (.ref l),some (.ref x),some (.ref D),v6,v7,v8]/\Fr H7 d G5/\G5 d=some (.dK (src n3 sd t3)):=λG5 s5'=>⟨_,_,_,n5,t5,rfl,λy u hy hn=>s5' _ _ (f4' y u hy hn),s5' _ _ hd4'⟩
         refine⟨_,rfl,_,rfl,?_⟩
         cases b with
         | false=>exact jm (jm ⟨_,rfl,_,rfl,_,rfl,x,.ref DD,false,rs,d4,rfl,gr4,good,le14,rw4,tl4,.inr ⟨DD,kv0,f0,rfl,rd4,V6,dat4,hb⟩,λG5 s5'=>⟨_,rfl,jm (fin G5 s5')⟩⟩)
         | true=>
           have same:=xF good tt (hb.mp rfl)
           refine j0 ⟨_,rfl,_,rfl,DD,D,kv0,kvs,rfl,rfl,rd4,rdT4,by rw[V6,klen],λp hp=>?_,_,rfl,jm ⟨_,rfl,_,rfl,_,rfl,x,.ref DD,true,rs,d4,rfl,gr4,good,le14,rw4,tl4,.inr ⟨DD,kv0,f0,rfl,rd4,V6,dat4,hb⟩,λG5 s5'=>⟨_,rfl,jm (fin G5 s5')⟩⟩⟩
           obtain⟨r,hr',e1,e2⟩:=kin0 p hp
           obtain⟨v,e3,e4,_⟩:=dat4 r hr'
           rw[e2]at e3
           cases e3
           obtain⟨u,e5,e6⟩:=full4 r hr'
           rw[same r hr']at e4
           exact⟨u,dE (tF rs r.1),by rw[e1];exact e5,e4,k8 e6,Ky _⟩
     . rintro σ' G' ⟨v6,v7,v8,n3,t3,rfl,fr,hdG⟩
       have grG:=gr7.src pos hd7 fr
       have rdG:Rd G' D (.dK kvs):=rd7.elim (λe=>.inl (fr _ _ e nDd)) λ⟨o,e⟩=>.inr ⟨o,fr _ _ e nDd⟩
       have fullG:Jk K G' kvs rs:=λr hr'=>let ⟨v,e1,e2⟩:=full7 r hr';⟨v,e1,e2.fr hd7 fr⟩
       have hqG:=hq7.fr hd7 fr
       obtain⟨_,_,kgG⟩:=Y3 good ek fullG bd
       refine⟨by decide,λe hee ne=>⟨_,rfl,D,kvs,rfl,rdG.mono (qj hee),λS pS G2 hS nS old atS lS atP=>⟨by decide,λtp htp dn hdn=>⟨by show 8<=sizeLine;decide,λL hL=>?_⟩⟩⟩⟩
       have sA:qu G' (upd G' e (.lst [])):=qj hee
       have eA:=old _ _ (show upd G' e (.lst []) e=some (.lst []) from qd)
       have s2:qu G' G2:=sA.trans old
       have b4:xZ P w K G2 rs (.ref S):=Uw s2 nS atS lS atP kgG (by omega)
       have s3:qu G2 (upd (upd (upd G2 tp (.tup [])) dn (.dK [])) L (.lst [V.non,.int 5,.bl true,.ref e,.ref S,.str (Str.ofString "a"),.ref tp,.ref dn])):=((qj htp).trans (qj hdn)).trans (qj hL)
       have eT:(upd (upd (upd G2 tp (.tup [])) dn (.dK [])) L (.lst [V.non,.int 5,.bl true,.ref e,.ref S,.str (Str.ofString "a"),.ref tp,.ref dn])) tp=some (.tup []):=qi (qi qd hdn) hL
       have eD:(upd (upd (upd G2 tp (.tup [])) dn (.dK [])) L (.lst [V.non,.int 5,.bl true,.ref e,.ref S,.str (Str.ofString "a"),.ref tp,.ref dn])) dn=some (.dK []):=qi qd hL
       have eL:(upd (upd (upd G2 tp (.tup [])) dn (.dK [])) L (.lst [V.non,.int 5,.bl true,.ref e,.ref S,.str (Str.ofString "a"),.ref tp,.ref dn])) L=some (.lst [V.non,.int 5,.bl true,.ref e,.ref S,.str (Str.ofString "a"),.ref tp,.ref dn]):=qd
       generalize upd (upd (upd G2 tp (.tup [])) dn (.dK [])) L (.lst [V.non,.int 5,.bl true,.ref e,.ref S,.str (Str.ofString "a"),.ref tp,.ref dn])=G3 at s3 eT eD eL
       have s03:=s2.trans s3
       have bad:∀v∈[V.non,.int 5,.bl true,.ref e,.ref S,.str (Str.ofString "a"),.ref tp,.ref dn],xZ P w K G3 rs v:=λv hv=>by
         simp only[List.mem_cons,List.mem_nil_iff,or_false]at hv
         rcases hv with rfl | rfl | rfl | rfl | rfl | rfl | rfl | rfl
         . exact .dat .non ⟨rfl,by decide,by decide+kernel,λi z=>nomatch z⟩
         . exact .dat (.int 5) ⟨rfl,by decide,by decide+kernel,λi z=>by cases z;decide+kernel⟩
         . exact .dat (.bl true) ⟨rfl,by decide,by decide+kernel,λi z=>nomatch z⟩
         . exact .dat (.lst (.of (s3 _ _ eA)) ne .nil) ⟨rfl,by decide,by decide+kernel,λi z=>nomatch z⟩
         . exact b4.mono s3
         . exact .dat (.str _) ⟨rfl,by decide,by decide+kernel,λi z=>nomatch z⟩
         . exact .dat (.tup (.of eT) .nil) ⟨rfl,by decide,by decide+kernel,λi z=>nomatch z⟩
         . exact⟨_,.dk (.inl eD) .nil,⟨rfl,by decide,by decide+kernel,λi z=>nomatch z⟩,Pl.to (.dk (.inl eD)) (by rw[decide_eq_false (λz=>by simp at z;omega)];rfl)⟩
       refine⟨L,rfl,⟨_,.of eL⟩,?_⟩
       refine Qa (K:=K) (a:=L) (xs:=[V.non,.int 5,.bl true,.ref e,.ref S,.str (Str.ofString "a"),.ref tp,.ref dn]) (λj σ' G4=>∃v7,σ'=[some (.ref a),some (.int (0+(i:Int))),some (.ref d),some (.ref l),some (.ref x),some (.ref D),v6,v7,v8]/\qu G3 G4)
         ⟨_,rfl,λ_ _ z=>z⟩ (λj σ' G4 _ ⟨_,_,s⟩=>.of (s _ _ eL)) ?_ ?_
       . rintro j y σ' G4 hy ⟨v7,rfl,s4'⟩
         obtain⟨dd,rwd,tld,pld⟩:=(bad y (List.mem_of_getElem? hy)).mono s4'
         refine⟨_,rfl,_,rfl,x,y,false,rs,dd,rfl,(grG.mono s03).mono s4',good,le14,rwd,tld,.inl ⟨pld,rfl⟩,λG5 s5'=>⟨_,rfl,jm ⟨_,rfl,s4'.trans s5'⟩⟩⟩
       . rintro σ' G4 ⟨v7,rfl,s4'⟩
         exact⟨_,_,_,_,_,_,_,_,rfl,(hqG.mono s03).mono s4'⟩
   . rintro σ H' ⟨v1,v2,v3,v4,v5,v6,v7,v8,rfl,hq2⟩
     exact k _
end
end Rh
set_option Elab.async false
set_option linter.all false
set_option maxRecDepth 100000
set_option maxHeartbeats 4000000
namespace Rh
open PySem L2 PyProof.Rows MPlay
theorem kss {K:PySem.W.Frag}:PySem.W.kitOne K (.type "str") (.type "str")=some true:=by kernel_rfl
theorem ktt {K:PySem.W.Frag}:PySem.W.kitOne K (.type "tuple") (.type "tuple")=some true:=by kernel_rfl
theorem kll {K:PySem.W.Frag}:PySem.W.kitOne K (.type "list") (.type "list")=some true:=by kernel_rfl
theorem kI {K:PySem.W.Frag}:∀t∈X4,∀c∈["int","bool","tuple","dict"],PySem.W.kitOne K (.type t) (.type c)=some (XJ t c):=by
 intro t ht c hc
 simp only[X4,List.mem_cons,List.mem_nil_iff,or_false]at ht hc
 rcases ht with rfl | rfl | rfl | rfl | rfl | rfl | rfl<;>rcases hc with rfl | rfl | rfl | rfl<;>kernel_rfl
section
variable {K:PySem.W.Frag}
def MF (K:PySem.W.Frag) (n q:Str) (s:Stmt) (f:Addr):Prop:=∃fd,Qw K n q s f fd
theorem MF.mk' {x qual:Str} {st:Stmt} {f:Addr} {oc:Value} {od an:Option Addr} {osl:Array (Option Value)} {kV doc pm cdv ct:Value} (l:K.lookup f=some ⟨oc,od,.func (PySem.W.fnOf x qual (Qk st) (j3 st) (qt st) .none kV doc pm an cdv ct),osl⟩) (c:PySem.W.codeIn K cdv qual=true) (k:PySem.W.keepIn K (.ref f)=true):MF K x qual st f:=⟨_,Wt l c k⟩
def HF (K:PySem.W.Frag) (n:Str) (s:Stmt) (f:Addr):Prop:=PySem.W.nsIn K mainGlobals n=some (some (.ref f))/\MF K n n s f
theorem HF.mk' {x:Str} {st:Stmt} {f:Addr} {oc:Value} {od an:Option Addr} {osl:Array (Option Value)} {kV doc pm cdv ct:Value} (a:PySem.W.nsIn K mainGlobals x=some (some (.ref f))) (l:K.lookup f=some ⟨oc,od,.func (PySem.W.fnOf x x (Qk st) (j3 st) (qt st) .none kV doc pm an cdv ct),osl⟩) (c:PySem.W.codeIn K cdv x=true) (k:PySem.W.keepIn K (.ref f)=true):HF K x st f:=⟨a,_,Wt l c k⟩
theorem HF.has {h:Heap} {mg:Str->Option Value} {n:Str} {s:Stmt} {f:Addr} {ps:List Str} (l:HF K n s f) (X:K.In h) (G:h.Ns mainGlobals mg) (b:∀{fd},Qw K n n s f fd->Qv K fd ps []):∃fd,jT K mg n s ps f fd:=let ⟨a,fd,F⟩:=l;⟨fd,F,PySem.W.mg_of X G a,b F⟩
end
theorem all_mk {l:PySem.W.OpenLaw} {w:World} {K:PySem.W.Frag} {h:Heap} {mg:Str->Option Value} {fa:Addr} (X:K.In h) (G:h.Ns mainGlobals mg) (hfa:mg "law"=some (.ref fa))
   {fO fL fT fN fD fR fA1 fA2 fA3 fA4 fA5 fA6 fA7 fA8 fB1 fB2 fB3 fB4 fB5 fB6 fB7 fB8 fB9 fE1 fE2 fE3 fE4 fE5 fE6 fE7 fCGi fCGM fCGF:Addr}
   {fLAW:Addr} {odLAW anLAW:Option Addr} {slLAW:Array (Option Value)} {ocLAW kVLAW dcLAW pmLAW cdLAW ctLAW:Value}
   {CG:Addr}
   {tm1:Tok}
   {tm2:Tok}
   {tm3:Tok}
   {tm4:Tok}
   {t5:Tok} {aDR:Addr} {odDR:Option Addr} {nDR:Nat} {slDR:Array (Option Value)}
   (lO:HF K "_law_cell_at" W3 fO)
   (lL:HF K "_law_source" ZO fL)
   (lT:HF K "_law_take" Jz fT)
   (lN:HF K "_law_names" Z5 fN)
   (lD:HF K "_law_leads" Z6 fD)
   (lR:HF K "_law_rows" W0 fR)
   (lA1:HF K "is_name" J2 fA1)
   (lA2:HF K "is_tuple_of_names" Ya fA2)
   (lA3:HF K "is_row" Z7 fA3)
   (lA4:HF K "need_form" W1 fA4)
   (lA5:HF K "need_own_names" yB fA5)
   (lA6:HF K "need_ends" W2 fA6)
   (lA7:HF K "need_few_roads" yC fA7)
   (lA8:HF K "need_rows" Xs fA8)
   (lB1:HF K "settled_in" Zo fB1)
   (lB2:HF K "settled_places" Z1 fB2)
   (lB3:HF K "table_of" YK fB3)
   (lB4:HF K "is_whole" Zn fB4)
   (lB5:HF K "is_dict_of_places" U1 fB5)
   (lB6:HF K "is_entry" Z8 fB6)
   (lB7:HF K "entry_fits" Zp fB7)
   (lB8:HF K "place_fits" Z3 fB8)
   (lB9:HF K "shows_single" Z0 fB9)
   (lE1:HF K "_law_tuple_good" ZZ fE1)
   (lE2:HF K "_law_place_good" Z2 fE2)
   (lE3:HF K "_law_shows" ZP fE3)
   (lE4:HF K "_law_other" Z4 fE4)
   (lE5:HF K "_law_spoiled" YL fE5)
   (lE6:HF K "_law_drawn" YN fE6)
   (lE7:HF K "_law_told" WZ fE7)
   (aLAW:PySem.W.nsIn K mainGlobals "law"=some (some (.ref fLAW)))
   (lLAW:K.lookup fLAW=some ⟨ocLAW,odLAW,.func (PySem.W.fnOf "law" "law" (Qk YM) (j3 YM) (qt YM) .none kVLAW dcLAW pmLAW anLAW cdLAW ctLAW),slLAW⟩)
   (cLAW:PySem.W.codeIn K cdLAW "law"=true)
   (kLAW:PySem.W.keepIn K (.ref fLAW)=true)
   (nCG:PySem.W.nsIn K mainGlobals "Ground"=some (some (.ref CG)))
   (pgCG:PySem.W.plainGet K CG Str.empty=true)
   (hdCG:PySem.W.hasDictIn K CG=true)
   (poCG:PySem.W.plainOver K CG=true)
   (saCG:PySem.W.findIn K (.ref CG) "__setattr__"=some (some (.builtin "object.__setattr__")))
   (mkCG:PySem.W.makesIn K CG=true)
   (inCG:PySem.W.findIn K (.ref CG) "__init__"=some (some (.ref fCGi)))
   (fiCG:PySem.W.isFn K (.ref fCGi)=true)
   (kcCG:PySem.W.keepIn K (.ref CG)=true)
   (noCG:PySem.W.findIn K (.ref CG) "order"=some none)
   (nrCG:PySem.W.findIn K (.ref CG) "roads"=some none)
   (lCGi:MF K "__init__" "Ground.__init__" Wh fCGi)
   (atCGM:PySem.W.findIn K (.ref CG) "names"=some (some (.ref fCGM)))
   (fnCGM:PySem.W.isFn K (.ref fCGM)=true)
   (lCGM:MF K "names" "Ground.names" J3 fCGM)
   (atCGF:PySem.W.findIn K (.ref CG) "roads_from"=some (some (.ref fCGF)))
   (fnCGF:PySem.W.isFn K (.ref fCGF)=true)
   (lCGF:MF K "roads_from" "Ground.roads_from" Z9 fCGF)
   (zlen:PySem.W.nsIn K mainGlobals "len"=some none)
   (zmax:PySem.W.nsIn K mainGlobals "max"=some none)
   (zmin:PySem.W.nsIn K mainGlobals "min"=some none)
   (zint:PySem.W.nsIn K mainGlobals "int"=some none)
   (zrange:PySem.W.nsIn K mainGlobals "range"=some none)
   (zisinstance:PySem.W.nsIn K mainGlobals "isinstance"=some none)
   (zstr:PySem.W.nsIn K mainGlobals "str"=some none)
   (zall:PySem.W.nsIn K mainGlobals "all"=some none)
   (zenumerate:PySem.W.nsIn K mainGlobals "enumerate"=some none)
   (zsum:PySem.W.nsIn K mainGlobals "sum"=some none)
   (zsorted:PySem.W.nsIn K mainGlobals "sorted"=some none)
   (zlist:PySem.W.nsIn K mainGlobals "list"=some none)
   (zreversed:PySem.W.nsIn K mainGlobals "reversed"=some none)
   (zset:PySem.W.nsIn K mainGlobals "set"=some none)
   (ztuple:PySem.W.nsIn K mainGlobals "tuple"=some none)
   (zdict:PySem.W.nsIn K mainGlobals "dict"=some none)
   (zbool:PySem.W.nsIn K mainGlobals "bool"=some none)
   (zrepr:PySem.W.nsIn K mainGlobals "repr"=some none)
   (m1:PySem.W.nsIn K mainGlobals "LETTERS"=some (some (.str "abcdefghijklmnopqrstuvwxyz" tm1)))
   (m2:PySem.W.nsIn K mainGlobals "LONGEST_NAME"=some (some (.int 8 tm2)))
   (m3:PySem.W.nsIn K mainGlobals "MOST_PLACES"=some (some (.int 14 tm3)))
   (m4:PySem.W.nsIn K mainGlobals "MOST_ROADS"=some (some (.int 40 tm4)))
   (m5:PySem.W.nsIn K mainGlobals "DRAWN"=some (some (.ref aDR)))
   (lDR:K.lookup aDR=some ⟨.type "tuple",odDR,.seq #[.str "drawn" t5,.none] nDR,slDR⟩)
   :
   ∃fd:FuncData,(∀(s:Shared) (v:Value),BindsTo s fd ⟨[v],[]⟩ [("_law_script",v)])/\∀base:Heap,K.In base->base.Ns mainGlobals mg->qI l.prog w K mg base ji 8 fa fd ["_law_script"] (WV K):=by
 have e:=hfa.symm.trans (PySem.W.mg_of X G aLAW)
 cases e
 obtain⟨_,hO⟩:=lO.has (ps:=["_law_script","_law_k"]) X G λF=>F.binds λ_ _ _ _ _ _ us hl=>by obtain⟨_,_,rfl⟩:=J9 hl;rfl
 obtain⟨_,hL⟩:=lL.has (ps:=["_law_cell"]) X G λF=>F.binds λ_ _ _ _ _ _ us hl=>by obtain⟨_,rfl⟩:=JL hl;rfl
 obtain⟨_,hT⟩:=lT.has (ps:=["_law_source_here","_law_many"]) X G λF=>F.binds λ_ _ _ _ _ _ us hl=>by obtain⟨_,_,rfl⟩:=J9 hl;rfl
 obtain⟨_,hN⟩:=lN.has (ps:=["_law_source_here","_law_many"]) X G λF=>F.binds λ_ _ _ _ _ _ us hl=>by obtain⟨_,_,rfl⟩:=J9 hl;rfl
 obtain⟨_,hD⟩:=lD.has (ps:=["_law_source_here","_law_many","_law_shape","_law_low"]) X G λF=>F.binds λ_ _ _ _ _ _ us hl=>by obtain⟨_,_,_,_,rfl⟩:=RJ hl;rfl
 obtain⟨_,hR⟩:=lR.has (ps:=["_law_source_here","_law_most"]) X G λF=>F.binds λ_ _ _ _ _ _ us hl=>by obtain⟨_,_,rfl⟩:=J9 hl;rfl
 obtain⟨_,hA1⟩:=lA1.has (ps:=["thing"]) X G λF=>F.binds λ_ _ _ _ _ _ us hl=>by obtain⟨_,rfl⟩:=JL hl;rfl
 obtain⟨_,hA2⟩:=lA2.has (ps:=["thing"]) X G λF=>F.binds λ_ _ _ _ _ _ us hl=>by obtain⟨_,rfl⟩:=JL hl;rfl
 obtain⟨_,hA3⟩:=lA3.has (ps:=["thing"]) X G λF=>F.binds λ_ _ _ _ _ _ us hl=>by obtain⟨_,rfl⟩:=JL hl;rfl
 obtain⟨_,hA4⟩:=lA4.has (ps:=["rows"]) X G λF=>F.binds λ_ _ _ _ _ _ us hl=>by obtain⟨_,rfl⟩:=JL hl;rfl
 obtain⟨_,hA5⟩:=lA5.has (ps:=["order"]) X G λF=>F.binds λ_ _ _ _ _ _ us hl=>by obtain⟨_,rfl⟩:=JL hl;rfl
 obtain⟨_,hA6⟩:=lA6.has (ps:=["ends","order"]) X G λF=>F.binds λ_ _ _ _ _ _ us hl=>by obtain⟨_,_,rfl⟩:=J9 hl;rfl
 obtain⟨_,hA7⟩:=lA7.has (ps:=["rows"]) X G λF=>F.binds λ_ _ _ _ _ _ us hl=>by obtain⟨_,rfl⟩:=JL hl;rfl
 obtain⟨_,hA8⟩:=lA8.has (ps:=["rows"]) X G λF=>F.binds λ_ _ _ _ _ _ us hl=>by obtain⟨_,rfl⟩:=JL hl;rfl
 obtain⟨_,hB1⟩:=lB1.has (ps:=["ground","table","number"]) X G λF=>F.binds λ_ _ _ _ _ _ us hl=>by obtain⟨_,_,_,rfl⟩:=V5 hl;rfl
 obtain⟨_,hB2⟩:=lB2.has (ps:=["ground"]) X G λF=>F.binds λ_ _ _ _ _ _ us hl=>by obtain⟨_,rfl⟩:=JL hl;rfl
 obtain⟨_,hB3⟩:=lB3.has (ps:=["ground"]) X G λF=>F.binds λ_ _ _ _ _ _ us hl=>by obtain⟨_,rfl⟩:=JL hl;rfl
 obtain⟨_,hB4⟩:=lB4.has (ps:=["thing"]) X G λF=>F.binds λ_ _ _ _ _ _ us hl=>by obtain⟨_,rfl⟩:=JL hl;rfl
 obtain⟨_,hB5⟩:=lB5.has (ps:=["ground","thing"]) X G λF=>F.binds λ_ _ _ _ _ _ us hl=>by obtain⟨_,_,rfl⟩:=J9 hl;rfl
 obtain⟨_,hB6⟩:=lB6.has (ps:=["thing"]) X G λF=>F.binds λ_ _ _ _ _ _ us hl=>by obtain⟨_,rfl⟩:=JL hl;rfl
 obtain⟨_,hB7⟩:=lB7.has (ps:=["entry","behind"]) X G λF=>F.binds λ_ _ _ _ _ _ us hl=>by obtain⟨_,_,rfl⟩:=J9 hl;rfl
 obtain⟨_,hB8⟩:=lB8.has (ps:=["ground","told","name"]) X G λF=>F.binds λ_ _ _ _ _ _ us hl=>by obtain⟨_,_,_,rfl⟩:=V5 hl;rfl
 obtain⟨_,hB9⟩:=lB9.has (ps:=["ground","told"]) X G λF=>F.binds λ_ _ _ _ _ _ us hl=>by obtain⟨_,_,rfl⟩:=J9 hl;rfl
 obtain⟨_,hE1⟩:=lE1.has (ps:=["_law_thing"]) X G λF=>F.binds λ_ _ _ _ _ _ us hl=>by obtain⟨_,rfl⟩:=JL hl;rfl
 obtain⟨_,hE2⟩:=lE2.has (ps:=["_law_told_here","_law_leads_here","_law_place"]) X G λF=>F.binds λ_ _ _ _ _ _ us hl=>by obtain⟨_,_,_,rfl⟩:=V5 hl;rfl
 obtain⟨_,hE3⟩:=lE3.has (ps:=["_law_rows_here","_law_told_here"]) X G λF=>F.binds λ_ _ _ _ _ _ us hl=>by obtain⟨_,_,rfl⟩:=J9 hl;rfl
 obtain⟨_,hE4⟩:=lE4.has (ps:=["_law_one","_law_source_here"]) X G λF=>F.binds λ_ _ _ _ _ _ us hl=>by obtain⟨_,_,rfl⟩:=J9 hl;rfl
 obtain⟨_,hE5⟩:=lE5.has (ps:=["_law_told_here","_law_rows_here","_law_source_here"]) X G λF=>F.binds λ_ _ _ _ _ _ us hl=>by obtain⟨_,_,_,rfl⟩:=V5 hl;rfl
 obtain⟨_,hE6⟩:=lE6.has (ps:=["_law_rows_here","_law_source_here"]) X G λF=>F.binds λ_ _ _ _ _ _ us hl=>by obtain⟨_,_,rfl⟩:=J9 hl;rfl
 obtain⟨_,hE7⟩:=lE7.has (ps:=["_law_ground","_law_thing","_law_due"]) X G λF=>F.binds λ_ _ _ _ _ _ us hl=>by obtain⟨_,_,_,rfl⟩:=V5 hl;rfl
 have FLAW:=Wt (st:=YM) lLAW cLAW kLAW
 obtain⟨_,FiCG⟩:=lCGi
 have clCG:Gy K mg CG fCGi _:=⟨⟨pgCG,hdCG,poCG,saCG⟩,⟨mkCG,inCG,fiCG,kcCG⟩,PySem.W.mg_of X G nCG,noCG,nrCG,FiCG,FiCG.binds (ps:=["self","rows"]) λ_ _ _ _ _ _ us hl=>by obtain⟨_,_,rfl⟩:=J9 hl;rfl⟩
 obtain⟨_,FCGM⟩:=lCGM
 have mCGM:Kb K CG "names" "Ground.names" J3 ["self"] fCGM _:=⟨FCGM,⟨atCGM,fnCGM,FCGM.kp⟩,FCGM.binds (ps:=["self"]) λ_ _ _ _ _ _ us hl=>by obtain⟨_,rfl⟩:=JL hl;rfl⟩
 obtain⟨_,FCGF⟩:=lCGF
 have mCGF:Kb K CG "roads_from" "Ground.roads_from" Z9 ["self","name"] fCGF _:=⟨FCGF,⟨atCGF,fnCGF,FCGF.kp⟩,FCGF.binds (ps:=["self","name"]) λ_ _ _ _ _ _ us hl=>by obtain⟨_,_,rfl⟩:=J9 hl;rfl⟩
 have B:JU mg:=⟨PySem.W.mg_none_of X G zlen,PySem.W.mg_none_of X G zmax,PySem.W.mg_none_of X G zmin,PySem.W.mg_none_of X G zint,PySem.W.mg_none_of X G zrange⟩
 have Gk:Q7 mg:=⟨PySem.W.mg_none_of X G zsorted,PySem.W.mg_none_of X G zlist,PySem.W.mg_none_of X G zreversed,PySem.W.mg_none_of X G zset,PySem.W.mg_none_of X G ztuple⟩
 have T:JQ K mg:=⟨PySem.W.mg_none_of X G zisinstance,PySem.W.mg_none_of X G zstr,PySem.W.mg_none_of X G zall,PySem.W.mg_none_of X G zenumerate,PySem.W.mg_none_of X G zsum,⟨_,PySem.W.mg_of X G m1⟩,⟨_,PySem.W.mg_of X G m2⟩,⟨_,PySem.W.mg_of X G m3⟩,⟨_,PySem.W.mg_of X G m4⟩,kss,ktt,kll⟩
 have Nn:xX K mg:=⟨⟨_,_,hA1⟩,⟨_,_,hA2⟩,⟨_,_,hA3⟩,⟨_,_,hA4⟩,⟨_,_,hA5⟩,⟨_,_,hA6⟩,⟨_,_,hA7⟩⟩
 have M:GM K mg CG:=⟨⟨_,_,clCG⟩,⟨_,_,mCGM⟩,⟨_,_,mCGF⟩,⟨_,_,hA1⟩,aDR,PySem.W.mg_of X G m5,_,_,_,lDR,rfl,rfl,by show 2<=sizeLine;decide,.cons ⟨_,rfl⟩ (.cons rfl .nil)⟩
 have TI:ZL K mg:=⟨PySem.W.mg_none_of X G zisinstance,PySem.W.mg_none_of X G zbool,PySem.W.mg_none_of X G ztuple,PySem.W.mg_none_of X G zdict,kI⟩
 have Z:Gw K mg:=⟨⟨_,_,hO⟩,⟨_,_,hL⟩,⟨_,_,hT⟩,⟨_,_,hN⟩,⟨_,_,hD⟩,⟨_,_,hR⟩,⟨_,_,hA8⟩,⟨_,_,hB1⟩,⟨_,_,hB2⟩,⟨_,_,hB3⟩,⟨_,_,hB4⟩,⟨_,_,hB5⟩,⟨_,_,hB6⟩,⟨_,_,hB7⟩,⟨_,_,hB8⟩,⟨_,_,hB9⟩,⟨_,_,hE1⟩,⟨_,_,hE2⟩,⟨_,_,hE3⟩,⟨_,_,hE4⟩,⟨_,_,hE5⟩,⟨_,_,hE6⟩,⟨_,_,hE7⟩⟩
 exact⟨PySem.W.fnOf "law" "law" (Qk YM) (j3 YM) (qt YM) .none kVLAW dcLAW pmLAW anLAW cdLAW ctLAW,λs v=>.of_eq rfl,λbase _ _=>ur FLAW B Gk T TI (PySem.W.mg_none_of X G zrepr) Nn M Z⟩
theorem walk {l:PySem.W.OpenLaw} {q:Program} {loose:List Str} {XP:(Str->Option Value)->Heap->Prop} {YP:World->Heap->Prop} {d:DefRec} {K:Params->PySem.W.Frag} (hn:l.most=some 63) (hdf:d.params.defaults=[])
   (hY:∀(w:World) (h:Heap),YP w h->(K w.params).In h)
   (F:∀(w:World) (mg:Str->Option Value) (fa:Addr) (h:Heap),(K w.params).In h->h.Ns mainGlobals mg->mg d.name=some (.ref fa)->
     ∃fd:FuncData,(∀(s:Shared) (u:Value),BindsTo s fd ⟨[u],[]⟩ [("_law_script",u)])/\∀base:Heap,(K w.params).In base->base.Ns mainGlobals mg->qI l.prog w (K w.params) mg base ji 8 fa fd ["_law_script"] (WV (K w.params))):
   PySem.W.WalkO q loose XP YP l.row.toRowW d [] (λf vs=>PySem.call f vs):=
 L2.walk_of (n:=63) (k:=8) (x:="_law_script") (CX:=λ_=>ji) (sp:=λw=>WV (K w.params)) hn (by decide) hdf ⟨rfl,by decide,by decide,rfl⟩ hY F (λ_ _ a ns hl _ hS=>⟨a,ns,rfl,hS,hl,λ_=>rfl⟩) λ_ _ _ _ _ z=>z
end Rh
open PySem PySem.W PyProof.Rows
def PySem.W.Fast.tw17791866116700250274 : Unit := ()
def PySem.W.Fast.tw861502493610598483 : Unit := ()
def PySem.W.Fast.tw917690371228188093 : Unit := ()
def PySem.W.Fast.tw18418602432707496033 : Unit := ()
def PySem.W.Fast.tw7774113678449685934 : Unit := ()
def PySem.W.Fast.tw8579255650390675538 : Unit := ()
def PySem.W.Fast.tw206458477050631689 : Unit := ()
def PySem.W.Fast.tw16520785806668781166 : Unit := ()
def PySem.W.Fast.tw3403988585091769449 : Unit := ()
def PySem.W.Fast.tw9469130538284437310 : Unit := ()
def PySem.W.Fast.tw17724038513149304489 : Unit := ()
def PySem.W.Fast.tw9402243437249704421 : Unit := ()
def PySem.W.Fast.tw12103309309050226592 : Unit := ()
def PySem.W.Fast.tw7172948962289856510 : Unit := ()
def PySem.W.Fast.tw6798380500665416597 : Unit := ()
def PySem.W.Fast.tw12147665669636231765 : Unit := ()
def PySem.W.Fast.tw6512149657230936976 : Unit := ()
def PySem.W.Fast.tw18328257000508772394 : Unit := ()
def PySem.W.Fast.tw9387514328989991554 : Unit := ()
def PySem.W.Fast.tw1070438729232803039 : Unit := ()
def PySem.W.Fast.tw10167646349310259628 : Unit := ()
def PySem.W.Fast.tw2399617604181995578 : Unit := ()
def PySem.W.Fast.tw4906484309439969231 : Unit := ()
def PySem.W.Fast.tw866717566613908145 : Unit := ()
def PySem.W.Fast.tw12954591660760965231 : Unit := ()
def PySem.W.Fast.tw12200699767478067731 : Unit := ()
def PySem.W.Fast.tw17817366049700826239 : Unit := ()
def PySem.W.Fast.tw11692469974320434101 : Unit := ()
def PySem.W.Fast.tw6522051377940421278 : Unit := ()
def PySem.W.Fast.tw12770481643036789091 : Unit := ()
def PySem.W.Fast.tw209982475168477708 : Unit := ()
def PySem.W.Fast.tw8737599933303070863 : Unit := ()
def PySem.W.Fast.tw5890639436620234070 : Unit := ()
def PySem.W.Fast.tw13956191218907399338 : Unit := ()
def PySem.W.Fast.tw18367749455379333440 : Unit := ()
def PySem.W.Fast.tw14391293386007564604 : Unit := ()
def PySem.W.Fast.tw14387916025512776202 : Unit := ()
def PySem.W.Fast.tw12843764043397292189 : Unit := ()
def PySem.W.Fast.tw17435391645217708394 : Unit := ()
def PySem.W.Fast.tw3945831679567021610 : Unit := ()
def PySem.W.Fast.tw13674586047789940208 : Unit := ()
def PySem.W.Fast.tw9461873434466728008 : Unit := ()
def PySem.W.Fast.tw9806118890596472461 : Unit := ()
def PySem.W.Fast.tw4699756791338806529 : Unit := ()
def PySem.W.Fast.tw14172470266813156586 : Unit := ()
def PySem.W.Fast.tw13421457143807847188 : Unit := ()
def PySem.W.Fast.tw2144661209622563809 : Unit := ()
def PySem.W.Fast.tw15590096980072825465 : Unit := ()
def PySem.W.Fast.tw9972681490609642005 : Unit := ()
def PySem.W.Fast.tw16226643914720891334 : Unit := ()
def PySem.W.Fast.tw3308634892276815127 : Unit := ()
def PySem.W.Fast.tw3215387988796971590 : Unit := ()
def PySem.W.Fast.tw15685335758407661847 : Unit := ()
def PySem.W.Fast.tw16108870410212019532 : Unit := ()
def PySem.W.Fast.tw12768989823518198380 : Unit := ()
def PySem.W.Fast.tw3671519592330383864 : Unit := ()
def PySem.W.Fast.tw2827255003249426055 : Unit := ()
def PySem.W.Fast.tw13757698761724263525 : Unit := ()
def PySem.W.Fast.tw12431713363859531893 : Unit := ()
def PySem.W.Fast.tw3475869608268796686 : Unit := ()
def PySem.W.Fast.tw7164969610272591079 : Unit := ()
def PySem.W.Fast.tw17334828202450815106 : Unit := ()
def PySem.W.Fast.tw3721919958574915784 : Unit := ()
def PySem.W.Fast.tw11907897558876765624 : Unit := ()
def PySem.W.Fast.tw8157277791214410489 : Unit := ()
def PySem.W.Fast.tw14760874974797668852 : Unit := ()
def PySem.W.Fast.tw4480162626587320490 : Unit := ()
def PySem.W.Fast.tw15401437161963490237 : Unit := ()
def PySem.W.Fast.tw12727641955093265886 : Unit := ()
def PySem.W.Fast.tw8080008513338510535 : Unit := ()
def PySem.W.Fast.tw13444670453868202053 : Unit := ()
def PySem.W.Fast.tw17292613610259460706 : Unit := ()
def PySem.W.Fast.tw11266997524610791606 : Unit := ()
def PySem.W.Fast.tw5002640475654186023 : Unit := ()
def PySem.W.Fast.tw14958820412457663293 : Unit := ()
def PySem.W.Fast.tw10042083083395451092 : Unit := ()
def PySem.W.Fast.tw15227483606004533461 : Unit := ()
def PySem.W.Fast.tw17963105932079019327 : Unit := ()
def PySem.W.Fast.tw8733291241859026926 : Unit := ()
def PySem.W.Fast.tw17464319187374939960 : Unit := ()
def PySem.W.Fast.tw12887044766017154078 : Unit := ()
def PySem.W.Fast.tw6822071536725586909 : Unit := ()
def PySem.W.Fast.tw5217270863462422736 : Unit := ()
def PySem.W.Fast.tw9116068151291705539 : Unit := ()
def PySem.W.Fast.tw15402603294489630176 : Unit := ()
def PySem.W.Fast.tw12459912946257978736 : Unit := ()
def PySem.W.Fast.tw10295913840692754127 : Unit := ()
def PySem.W.Fast.tw11373181179767321252 : Unit := ()
def PySem.W.Fast.tw3919386906821981792 : Unit := ()
def PySem.W.Fast.tw4096438862311573950 : Unit := ()
def PySem.W.Fast.tw740290905518256060 : Unit := ()
def PySem.W.Fast.tw17518593693041627797 : Unit := ()
def PySem.W.Fast.tw8219003486749837733 : Unit := ()
def PySem.W.Fast.tw11401859456886640639 : Unit := ()
def PySem.W.Fast.tw16919654943277366748 : Unit := ()
def PySem.W.Fast.tw2107523057676978006 : Unit := ()
def PySem.W.Fast.tw13769103115541136327 : Unit := ()
def PySem.W.Fast.tw12652081859355081885 : Unit := ()
def PySem.W.Fast.tw3374319085511977134 : Unit := ()
def PySem.W.Fast.tw15925456577456769635 : Unit := ()
def PySem.W.Fast.tw17214186515701724070 : Unit := ()
def PySem.W.Fast.tw9582823730064241283 : Unit := ()
def PySem.W.Fast.tw15438627641174518403 : Unit := ()
def PySem.W.Fast.tw726351398001015727 : Unit := ()
def PySem.W.Fast.tw13913613514976480042 : Unit := ()
def PySem.W.Fast.tw15042883488752021643 : Unit := ()
def PySem.W.Fast.tw12917704675397863716 : Unit := ()
set_option maxRecDepth 100000
set_option maxHeartbeats 0
open_top hd for PySem.Challenge.rw_ringheaps_k12_tables_looked_through
set_option maxRecDepth 100000 in
set_option maxHeartbeats 0 in
theorem PySem.Challenge.cw_ringheaps_k12_tables_looked_through_holds : PySem.Challenge.rw_ringheaps_k12_tables_looked_through.Holds := by
 refine hd ?_
 k_fill
 refine Rh.walk (l:=PySem.Challenge.rw_ringheaps_k12_tables_looked_through) rfl rfl (λw h Y=>PySem.W.kIn_of Y) ?F
 case F=>
   intro w mg fa h KX G hmg
   refine' Rh.all_mk KX G hmg ?_ ?_ ?_ ?_ ?_ ?_ ?_ ?_ ?_ ?_ ?_ ?_ ?_ ?_ ?_ ?_ ?_ ?_ ?_ ?_ ?_ ?_ ?_ ?_ ?_ ?_ ?_ ?_ ?_ ?_ ?_ ?_ ?_ ?_ ?_ ?_ ?_ ?_ ?_ ?_ ?_ ?_ ?_ ?_ ?_ ?_ ?_ ?_ ?_ ?_ ?_ ?_ ?_ ?_ ?_ ?_ ?_ ?_ ?_ ?_ ?_ ?_ ?_ ?_ ?_ ?_ ?_ ?_ ?_ ?_ ?_ ?_ ?_ ?_ ?_ ?_
   any_goals first | (apply Rh.HF.mk'<;>k_is) | (apply Rh.MF.mk'<;>k_is) | k_is | kernel_rfl | rfl | decide
