import PyProof.Rows.All
import Wide.All
import OpenK.AllK
import Wide.FinOn
import Lean
import PyProof.EqAt
import PyProof.EqKinds
import PyProof.TupleCall
import PySem.Challenge.RW_ringheaps_k32_worths_told_and_read
set_option Elab.async false
set_option linter.all false
set_option maxRecDepth 100000
namespace L2
open PySem PySem.Spec PyProof.Rows
abbrev qU:=Sum Int Str
def ZB:qU->Value->Bool
 | .inl k,v=>Value.isInt k v
 | .inr x,v=>Value.isStrOf x v
def yM (w:World):qU->Int
 | .inl k=>hashInt k
 | .inr x=>hashStr w x
theorem qL:∀{k:qU} {v:Value},ZB k v=true->(∃i t,k=Sum.inl i/\v=Value.int i t)\/(∃x t,k=Sum.inr x/\v=Value.str x t)
 | .inl i,v,h=>by
   obtain⟨t,e⟩:=Value.isInt_shape (k:=i) (v:=v) h
   exact .inl ⟨i,t,rfl,e⟩
 | .inr x,v,h=>by
   obtain⟨t,e⟩:=Value.isStrOf_shape (x:=x) (v:=v) h
   exact .inr ⟨x,t,rfl,e⟩
theorem XH (i:Int) (t:Tok):ZB (.inl i) (.int i t)=true:=by simp [ZB,Value.isInt]
theorem XG (x:Str) (t:Tok):ZB (.inr x) (.str x t)=true:=by simp [ZB,Value.isStrOf]
theorem vm (a b:Int):decide ((Sum.inl a:qU)=Sum.inl b)=(a==b):=by
 by_cases e:a=b
 . subst e;simp
 . have h:¬(Sum.inl a:qU)=Sum.inl b:=λq=>e (Sum.inl.inj q)
   rw[decide_eq_false h]
   exact(beq_eq_false_iff_ne.mpr e).symm
theorem vi (a b:Str):decide ((Sum.inr a:qU)=Sum.inr b)=decide (a=b):=by
 by_cases e:a=b
 . subst e;simp
 . have h:¬(Sum.inr a:qU)=Sum.inr b:=λq=>e (Sum.inr.inj q)
   rw[decide_eq_false h,decide_eq_false e]
theorem vk (a:Int) (b:Str):decide ((Sum.inl a:qU)=Sum.inr b)=false:=decide_eq_false (λq=>nomatch q)
theorem vj (a:Str) (b:Int):decide ((Sum.inr a:qU)=Sum.inl b)=false:=decide_eq_false (λq=>nomatch q)
def qP (prog:Program) (w:World):PySem.KeyKind prog w qU where
 is:=ZB
 hash:=yM w
 inj:=λv a b ha hb=>by
   rcases qL ha with ⟨i,t,rfl,rfl⟩ | ⟨x,t,rfl,rfl⟩
   . rcases qL hb with ⟨j,u,rfl,e⟩ | ⟨y,u,rfl,e⟩
     . injection e with e1 _;rw[e1]
     . exact nomatch e
   . rcases qL hb with ⟨j,u,rfl,e⟩ | ⟨y,u,rfl,e⟩
     . exact nomatch e
     . injection e with e1 _;rw[e1]
 byValue:=λk v h=>by
   rcases qL h with ⟨i,t,rfl,rfl⟩ | ⟨x,t,rfl,rfl⟩<;>rfl
 pyHash:=λhv h=>by
   rcases qL hv with ⟨i,t,rfl,rfl⟩ | ⟨x,t,rfl,rfl⟩
   . exact wpAny_pyHash_int h
   . exact wpAny_pyHash_str h
 eqBool:=λhu hv h=>by
   rcases qL hu with ⟨i,t,rfl,rfl⟩ | ⟨x,t,rfl,rfl⟩
   . rcases qL hv with ⟨j,u,rfl,rfl⟩ | ⟨y,u,rfl,rfl⟩
     . rw[vm]at h;exact wpAny_eqBool_int h
     . rw[vk]at h;exact SeqAt.EqAt.int_str i t y u _ _ _ _ h
   . rcases qL hv with ⟨j,u,rfl,rfl⟩ | ⟨y,u,rfl,rfl⟩
     . rw[vj]at h;exact SeqAt.EqAt.str_int x t j u _ _ _ _ h
     . rw[vi]at h;exact wpAny_eqBool_str h
 «strs»:=λk x t v h=>by
   rcases qL h with ⟨i,u,rfl,e⟩ | ⟨y,u,rfl,e⟩
   . exact nomatch e
   . injection e with e1 _
     subst e1
     cases v<;>rfl
theorem zL (prog:Program) (w:World) (i:Int) (t:Tok):(qP prog w).is (.inl i) (.int i t)=true:=XH i t
theorem zK (prog:Program) (w:World) (x:Str) (t:Tok):(qP prog w).is (.inr x) (.str x t)=true:=XG x t
end L2
namespace L2
open PySem PySem.Spec PyProof.Rows
inductive V where
 | non | bl (b:Bool) | int (i:Int) | str (x:Str) | byt (b:Array UInt8) | flt (b:UInt64) | ref (a:Addr) | ty (n:String)
 deriving DecidableEq
def qA:V->Value->Prop
 | .non,u=>u=Value.none
 | .bl b,u=>u=Value.bool b
 | .int i,u=>∃t,u=Value.int i t
 | .str x,u=>∃t,u=Value.str x t
 | .byt b,u=>∃t,u=Value.bytes b t
 | .flt b,u=>∃t,u=Value.float b t
 | .ref a,u=>u=Value.ref a
 | .ty n,u=>u=Value.type n
abbrev qy:List V->List Value->Prop:=Paired qA
theorem qy.length {xs:List V} {us:List Value} (r:qy xs us):xs.length=us.length:=Paired.length r
theorem qy.get:∀{xs:List V} {us:List Value} {i:Nat} {x:V},qy xs us->xs[i]?=some x->∃u,us[i]?=some u/\qA x u
 | _,_,_,_,.nil,e=>by simp at e
 | _,_,0,_,.cons r _,e=>by simp at e;subst e;exact⟨_,rfl,r⟩
 | _,_,i+1,x,.cons _ t,e=>by
   obtain⟨u,h1,h2⟩:=qy.get (i:=i) (x:=x) t (by simpa using e)
   exact⟨u,by simpa using h1,h2⟩
theorem qy.append:∀{xs ys:List V} {us ws:List Value},qy xs us->qy ys ws->qy (xs++ys) (us++ws)
 | _,_,_,_,.nil,s=>s
 | _,_,_,_,.cons r t,s=>.cons r (qy.append t s)
theorem qy.take:∀{xs:List V} {us:List Value} (n:Nat),qy xs us->qy (xs.take n) (us.take n)
 | _,_,0,_=>.nil
 | _,_,_+1,.nil=>.nil
 | _,_,n+1,.cons r t=>.cons r (qy.take n t)
theorem qy.drop:∀{xs:List V} {us:List Value} (n:Nat),qy xs us->qy (xs.drop n) (us.drop n)
 | _,_,0,r=>r
 | _,_,_+1,.nil=>.nil
 | _,_,n+1,.cons _ t=>qy.drop n t
theorem qy.none_of:∀{xs:List V} {us:List Value} {i:Nat},qy xs us->xs[i]?=none->us[i]?=none:=λ{xs us i} r e=>by
 have h1:=r.length
 have h2:xs.length<=i:=List.getElem?_eq_none_iff.mp e
 exact List.getElem?_eq_none_iff.mpr (by omega)
def Qc:Option V->Option Value->Prop
 | some v,some u=>qA v u
 | none,none=>True
 | _,_=>False
def KV {κ:Type}:List (κ×V)->List (κ×Value)->Prop:=Paired λ(p:κ×V) (q:κ×Value)=>p.1=q.1/\qA p.2 q.2
def kV:qU->V
 | .inl i=>.int i
 | .inr x=>.str x
inductive HO where
 | lst (xs:List V)
 | tup (xs:List V)
 | dK (kvs:List (qU×V)) | dT (kvs:List (List qU×V))
 | set (S:Int->Bool) (n:Nat)
 | ins (C dx:Addr) (fs:List (Str×V))
 | own (x:Addr)
 | xd (fs:List (Str×V))
 | met (f x:Addr)
 | rng (lo hi:Int)
 | frz (o:Obj) (u:HO)
 | tbl (ps:Array Value)
 | ext (φ:Heap->Prop)
abbrev Hp:=Addr->Option HO
def qr (H:Hp) (a:Addr) (o:HO):Hp:=λb=>if b=a then some o else H b
theorem qe {H:Hp} {a:Addr} {o:HO}:qr H a o a=some o:=by unfold qr;rw[if_pos rfl]
theorem qg {H:Hp} {a b:Addr} {o:HO} (h:b≠a):qr H a o b=H b:=by unfold qr;rw[if_neg h]
theorem ZR {H:Hp} {a:Addr} {o u:HO}:qr (qr H a o) a u=qr H a u:=by
 funext b;unfold qr;split<;>rfl
theorem kB {H:Hp} {a b:Addr} {o u:HO} (h:H a=some o) (h':H b=some u) (d:o≠u):a≠b:=by
 intro e;subst e;rw[h]at h';exact d (Option.some.inj h')
theorem qk {H:Hp} {a b:Addr} {o:HO} (h:H a=some o) (h':H b=none):a≠b:=by
 intro e;subst e;rw[h]at h';cases h'
def k6 (ps:Array Value) (oc:Obj):Prop:=∃(q:Str) (t:Tok) (vs:Array Value) (t':Tok),ps[0]?=some (.str q t)/\oc.data=.fields vs/\vs[1]?=some (.str q t')
section
variable (P:Program) (w:World)
def qw (H:Hp) (h:Heap) (a:Addr):HO->Prop
 | .lst xs=>xs.length<=sizeLine/\∃(its:List Value) (n:Nat),qy xs its/\h.get? a=some {cls:=.type "list",data:=.seq its.toArray n}
 | .tup xs=>xs.length<=sizeLine/\∃its:List Value,qy xs its/\IsTup h a its.toArray
 | .dK kvs=>kvs.length<=sizeLine/\(a==sysModules)=false/\∃vs,KV kvs vs/\h.DictOf (qP P w) a vs
 | .dT kvs=>kvs.length<=sizeLine/\(a==sysModules)=false/\∃xs:List (List qU×Addr×Value),
     Paired (λ(p:List qU×V) (q:List qU×Addr×Value)=>p.1=q.1/\H q.2.1=some (.tup (p.1.map kV))/\qA p.2 q.2.2) kvs xs/\
     ∃o es ep,h.get? a=some o/\o.ExactDict/\o.data=.dict es ep/\es.toList=xs.map (entryOfKey (tupleKind (qP P w)))/\(xs.map (·.1)).Nodup
 | .set S n=>h.SetOf (intKind P w) a S n
 | .ins C dx fs=>H dx=some (.own a)/\fs.length<=1000/\dx≠a/\h.get? a=some (PySem.W.instObj C dx)/\
     ∃mA,h.Ns1 dx mA/\(∀f,Qc (fs.lookup f) (mA f))/\PySem.Within mA (fs.map (·.1))
 | .own _=>∃o,h.get? a=some o
 | .xd fs=>∃mA,h.Ns1 a mA/\∀f,Qc (fs.lookup f) (mA f)
 | .rng lo hi=>∃t u v,h.get? a=some {cls:=.type "range",data:=.fields #[.int lo t,.int hi u,.int 1 v]}
 | .frz o u=>h.get? a=some o/\qw H h a u
 | .tbl ps=>∃ts:Array Value,h.get? a=some {cls:=.none,data:=.fields ts}/\TriplesOk ts.toList/\∀pos cv,codeAmong pos ts.toList=some cv->∃c oc,cv=.ref c/\H c=some (.frz oc (.own a))/\k6 ps oc
 | .met f x=>h.get? a=some (PySem.W.methodObj (.ref f) (.ref x))
 | .ext φ=>φ h/\(∃o,h.get? a=some o)/\∀h1 h2:Heap,φ h1->(∀o,h1.get? a=some o->h2.get? a=some o)->φ h2
def Qa (H:Hp) (h:Heap):Prop:=∀a o,H a=some o->qw P w H h a o
end
section
variable {P:Program} {w:World} {H H':Hp} {h h':Heap} {a:Addr} {o:HO}
theorem qw.lt (x:qw P w H h a o):a < h.objs.size:=by
 cases o with
 | lst xs=>obtain⟨_,_,_,_,e⟩:=x;exact Heap.lt_size e
 | tup xs=>obtain⟨_,_,_,p⟩:=x;exact p.lt
 | dK kvs=>obtain⟨_,_,_,_,o,_,_,e,_⟩:=x;exact Heap.lt_size e
 | dT kvs=>obtain⟨_,_,_,_,o,_,_,e,_⟩:=x;exact Heap.lt_size e
 | set S n=>obtain⟨o,_,_,_,e,_⟩:=x;exact Heap.lt_size e
 | ins C dx fs=>obtain⟨_,_,_,e,_⟩:=x;exact Heap.lt_size e
 | own y=>obtain⟨_,e⟩:=x;exact Heap.lt_size e
 | xd fs=>obtain⟨_,⟨_,_,_,e,_⟩,_⟩:=x;exact Heap.lt_size e
 | rng lo hi=>obtain⟨_,_,_,e⟩:=x;exact Heap.lt_size e
 | frz ob u=>obtain⟨e,_⟩:=x;exact Heap.lt_size e
 | tbl ps=>obtain⟨_,e,_⟩:=x;exact Heap.lt_size e
 | met f y=>exact Heap.lt_size (show h.get? a=some _ from x)
 | ext φ=>obtain⟨_,⟨_,e⟩,_⟩:=x;exact Heap.lt_size e
theorem Paired.mapP {α β:Type} {F G:α->β->Prop}:∀{l₁:List α} {l₂:List β},Paired F l₁ l₂->(∀a b,F a b->G a b)->Paired G l₁ l₂
 | _,_,.nil,_=>.nil
 | _,_,.cons r t,f=>.cons (f _ _ r) (Paired.mapP t f)
theorem qw.stay (x:qw P w H h a o) (k:∀b u,(b=a\/H b=some (.own a))->h.get? b=some u->h'.get? b=some u)
   (ho:∀b,H b=some (.own a)->H' b=some (.own a)) (ht:∀b xs,H b=some (.tup xs)->H' b=some (.tup xs)) (hf:∀b o,H b=some (.frz o (.own a))->H' b=some (.frz o (.own a)):=by exact λ_ _ q=>q):qw P w H' h' a o:=by
 induction o with
 | lst xs=>obtain⟨z,its,n,r,e⟩:=x;exact⟨z,its,n,r,k _ _ (.inl rfl) e⟩
 | tup xs=>obtain⟨z,its,r,ob,e,c⟩:=x;exact⟨z,its,r,ob,k _ _ (.inl rfl) e,c⟩
 | dK kvs=>obtain⟨z,y,vs,r,ob,es,ep,e,c⟩:=x;exact⟨z,y,vs,r,ob,es,ep,k _ _ (.inl rfl) e,c⟩
 | dT kvs=>
   obtain⟨z,y,xs,r,ob,es,ep,e,c⟩:=x
   exact⟨z,y,xs,Paired.mapP r λp q z=>⟨z.1,ht _ _ z.2.1,z.2.2⟩,ob,es,ep,k _ _ (.inl rfl) e,c⟩
 | set S n=>obtain⟨ob,es,ep,t,e,c⟩:=x;exact⟨ob,es,ep,t,k _ _ (.inl rfl) e,c⟩
 | ins C dx fs=>
   obtain⟨d,z,ne,e,mA,⟨od,es,ep,e2,c⟩,r⟩:=x
   exact⟨ho _ d,z,ne,k _ _ (.inl rfl) e,mA,⟨od,es,ep,k _ _ (.inr d) e2,c⟩,r⟩
 | own y=>obtain⟨ob,e⟩:=x;exact⟨ob,k _ _ (.inl rfl) e⟩
 | xd fs=>obtain⟨mA,⟨od,es,ep,e,c⟩,r⟩:=x;exact⟨mA,⟨od,es,ep,k _ _ (.inl rfl) e,c⟩,r⟩
 | rng lo hi=>obtain⟨t,u,v,e⟩:=x;exact⟨t,u,v,k _ _ (.inl rfl) e⟩
 | frz ob u ih=>obtain⟨e,q⟩:=x;exact⟨k _ _ (.inl rfl) e,ih q⟩
 | tbl ps=>
   obtain⟨ts,e,tr,cs⟩:=x
   exact⟨ts,k a _ (.inl rfl) e,tr,λpos cv q=>let ⟨c,oc,e1,e2,e3⟩:=cs pos cv q;⟨c,oc,e1,hf c oc e2,e3⟩⟩
 | met f y=>
   have e:h.get? a=some (PySem.W.methodObj (.ref f) (.ref y)):=x
   show h'.get? a=some (PySem.W.methodObj (.ref f) (.ref y))
   exact k a _ (.inl rfl) e
 | ext φ=>obtain⟨p,⟨o,e⟩,st⟩:=x;exact⟨st _ _ p λo q=>k _ _ (.inl rfl) q,⟨o,k _ _ (.inl rfl) e⟩,st⟩
theorem Qa.lt (x:Qa P w H h) (e:H a=some o):a < h.objs.size:=(x a o e).lt
theorem Qa.fresh (x:Qa P w H h) (e:h.objs.size<=a):H a=none:=by
 cases q:H a with
 | none=>rfl
 | some u=>exact absurd (Nat.lt_of_lt_of_le (x.lt q) e) (Nat.lt_irrefl _)
theorem Qa.kept (x:Qa P w H h) (k:∀b u,h.get? b=some u->h'.get? b=some u):Qa P w H h':=λa o e=>
 (x a o e).stay (λb u _ q=>k b u q) (λ_ q=>q) λ_ _ q=>q
theorem Qa.laid (x:Qa P w H h) (k:∀b u,h.get? b=some u->h'.get? b=some u) (hp:h.objs.size<=a) (new:qw P w (qr H a o) h' a o):Qa P w (qr H a o) h':=λb u e=>by
 have hn:=x.fresh hp
 by_cases hb:b=a
 . subst hb;rw[qe]at e;cases e;exact new
 . rw[qg hb]at e
   exact(x b u e).stay (λc v _ q=>k c v q) (λc q=>by rw[qg (qk q hn)];exact q) (λc xs q=>by rw[qg (qk q hn)];exact q) (λc o q=>by rw[qg (qk q hn)];exact q)
end
def Rd (H:Hp) (a:Addr) (u:HO):Prop:=H a=some u\/∃o,H a=some (.frz o u)
theorem Rd.ok {P:Program} {w:World} {H:Hp} {h:Heap} {a:Addr} {u:HO} (r:Rd H a u) (x:Qa P w H h):qw P w H h a u:=by
 rcases r with r | ⟨o,r⟩
 . exact x a u r
 . obtain⟨_,q⟩:=x a _ r
   exact q
def vL:Option HO->Prop
 | some (.lst _)=>True
 | some (.dK _)=>True
 | some (.dT _)=>True
 | some (.set _ _)=>True
 | some (.ins _ _ _)=>True
 | some (.ext _)=>True
 | _=>False
section
variable {P:Program} {w:World} {H:Hp} {h h':Heap} {x e:Addr} {o':HO}
theorem Qa.write (ok:Qa P w H h) (mu:vL (H x)) (he:e=x\/H e=some (.own x)) (k:∀b u,b≠e->h.get? b=some u->h'.get? b=some u) (heo:∃u,h'.get? e=some u)
   (new:qw P w (qr H x o') h' x o'):Qa P w (qr H x o') h':=λb u q=>by
 have nown:∀c y,H c=some (.own y)->c≠x:=λc y r z=>by subst z;rw[r]at mu;exact mu
 have ntup:∀c xs,H c=some (.tup xs)->c≠x:=λc xs r z=>by subst z;rw[r]at mu;exact mu
 by_cases hb:b=x
 . subst hb;rw[qe]at q;cases q;exact new
 . rw[qg hb]at q
   by_cases hbe:b=e
   . have q':H b=some (.own x):=by
       rcases he with z | z
       . exact absurd (hbe.trans z) hb
       . rw[hbe];exact z
     rw[q]at q';cases q'
     obtain⟨v,hv⟩:=heo
     exact⟨v,by rw[hbe];exact hv⟩
   . refine(ok b u q).stay (λc v hc r=>k c v ?_ r) (λc r=>by rw[qg (nown c b r)];exact r) (λc xs r=>by rw[qg (ntup c xs r)];exact r) (λc o r=>by rw[qg (λz=>by subst z;rw[r]at mu;exact mu)];exact r)
     rcases hc with rfl | hc
     . exact hbe
     . rintro rfl
       rcases he with z | z
       . exact nown c b hc z
       . rw[hc]at z;cases z;exact hb rfl
end
structure Un (fs ex:List Addr) (H H':Hp) (h h':Heap):Prop where
 keep:∀b o,h.get? b=some o->H b=none->b∉fs->b∉ex->h'.get? b=some o
 slot:∀b o,h.get? b=some o->H b=none->b∈fs->b∉ex->∃sl,h'.get? b=some {o with slots:=sl}
 free:∀b o,h.get? b=some o->H b=none->b∉ex->H' b=none
 there:∀b o,h.get? b=some o->b∉ex->∃o',h'.get? b=some o'
 tups:∀b xs,H b=some (.tup xs)->H' b=some (.tup xs)
 frzs:∀b o u,H b=some (.frz o u)->H' b=some (.frz o u)
 tbls:∀b ps,H b=some (.tbl ps)->∃more,H' b=some (.tbl (ps++more))
section
variable {fs fs' ex ex':List Addr} {H H1 H2:Hp} {h h1 h2 h':Heap} {a x e:Addr} {o:HO}
theorem Un.any (u:Un fs ex H H1 h h1) {b:Addr} {ob:Obj} (q:h.get? b=some ob) (n:H b=none) (hx:b∉ex):∃sl,h1.get? b=some {ob with slots:=sl}:=by
 by_cases hb:b∈fs
 . exact u.slot b ob q n hb hx
 . exact⟨ob.slots,u.keep b ob q n hb hx⟩
theorem Un.kept (k:∀b u,h.get? b=some u->h'.get? b=some u):Un fs ex H H h h':=
 ⟨λb ob q _ _ _=>k b ob q,λb ob q _ _ _=>⟨ob.slots,k b ob q⟩,λ_ _ _ n _=>n,λb ob q _=>⟨ob,k b ob q⟩,λ_ _ q=>q,λ_ _ _ q=>q,λ_ ps q=>⟨#[],by rw[q];simp⟩⟩
theorem Un.refl:Un fs ex H H h h:=Un.kept λ_ _ q=>q
theorem Un.laid (k:∀b u,h.get? b=some u->h'.get? b=some u) (hp:h.objs.size<=a) (hn:H a=none):Un fs ex H (qr H a o) h h' where
 keep:=λb u q _ _ _=>k b u q
 slot:=λb u q _ _ _=>⟨u.slots,k b u q⟩
 free:=λb u q n _=>by rw[qg (Nat.ne_of_lt (Nat.lt_of_lt_of_le (Heap.lt_size q) hp))];exact n
 there:=λb u q _=>⟨u,k b u q⟩
 tups:=λb xs q=>by rw[qg (qk q hn)];exact q
 frzs:=λb u xs q=>by rw[qg (qk q hn)];exact q
 tbls:=λb ps q=>⟨#[],by rw[qg (qk q hn),q];simp⟩
theorem Un.write (mu:vL (H x)) (he:e=x\/H e=some (.own x)) (k:∀b u,b≠e->h.get? b=some u->h'.get? b=some u) (heo:∃u,h'.get? e=some u):Un fs ex H (qr H x o) h h':=by
 have hx:∀b,H b=none->b≠x:=λb n z=>by subst z;rw[n]at mu;exact mu
 have hb:∀b,H b=none->b≠e:=λb n z=>by
   subst z
   rcases he with r | r
   . exact hx b n r
   . rw[n]at r;cases r
 have hm:∀b u,H b=some u->¬vL (some u)->b≠x:=λb u q nm z=>by subst z;rw[q]at mu;exact nm mu
 refine⟨λb u q n _ _=>k b u (hb b n) q,λb u q n _ _=>⟨u.slots,k b u (hb b n) q⟩,λb u q n _=>by rw[qg (hx b n)];exact n,λb u q _=>?_,
   λb xs q=>by rw[qg (hm b _ q λz=>z)];exact q,λb u xs q=>by rw[qg (hm b _ q λz=>z)];exact q,λb ps q=>⟨#[],by rw[qg (hm b _ q λz=>z),q];simp⟩⟩
 by_cases hbe:b=e
 . subst hbe;exact heo
 . exact⟨u,k b u hbe q⟩
end
def k8 (h:Heap) (H:Hp):List Addr:=(List.range h.objs.size).filter λa=>(H a).isSome
def Zq (h:Heap) (H:Hp):Heap:=PySem.W.hideAll h (k8 h H)
theorem XO (h:Heap) (H:Hp):(Zq h H).objs.size=h.objs.size:=PySem.W.hideAll_size _ _
theorem W3 {h:Heap} {H:Hp} {b:Addr} {o:Obj} (e:h.get? b=some o) (n:H b=none):(Zq h H).get? b=some o:=
 PySem.W.hideAll_get _ e λhm=>by
   have q:(H b).isSome=true:=(List.mem_filter.mp hm).2
   rw[n]at q;simp at q
theorem V0 {h:Heap} {H:Hp} {b:Addr} {o:Obj} (e:(Zq h H).get? b=some o):h.get? b=some o/\H b=none:=by
 have e':h.get? b=some o:=PySem.W.of_hideAll (k8 h H) e
 refine⟨e',?_⟩
 cases q:H b with
 | none=>rfl
 | some x=>
   have hm:b∈k8 h H:=List.mem_filter.mpr ⟨List.mem_range.mpr (Heap.lt_size e'),by simp [q]⟩
   have z:(Zq h H).get? b=none:=PySem.W.hideAll_none (k8 h H) hm
   rw[z]at e;cases e
def Ui (g h:Heap) (L:Addr):List (Addr×Obj):=(List.range h.objs.size).filterMap λa=>if a=L\/(g.get? a).isSome=true then none else (h.get? a).map λo=>(a,o)
def rest (g h:Heap) (L d:Addr):List (Addr×Obj):=(Ui g h L).filter λp=>decide (p.1≠d)
end L2
namespace L2
open PySem PySem.Spec PyProof.Rows
structure Mod (K:PySem.W.Frag) (mg:Str->Option Value) (base:Heap):Prop where
 kin:K.In base
 glob:base.Ns mainGlobals mg
 blt:∃mb,base.Ns builtinsNs mb/\∀x:Str,x≠"__name__"->mb x=bootBuiltins x
 nolimit:base.NoLimit
structure Cx where
 prog:Program
 w:World
 K:PySem.W.Frag
 mg:Str->Option Value
 base:Heap
 A:Around
 N:List Str
 s₀:Shared
 H₀:Hp
 env:Env
 outer:List Env
 stack:List Env
 ex:List Addr
 fn:Str->Bool
 calm:Bool
 pn:List (Addr×Obj)
 xe:Value->Shared->Prop
def Jk (l:List Env):List Addr:=l.filterMap (·.frame)
abbrev Cx.fs (X:Cx):List Addr:=Jk X.outer
def vJ (sc:Scope) (x:Str):Prop:=sc.names.lookup x=some .local\/sc.names.lookup x=some .cell\/sc.names.lookup x=some .free
def vM (sc:Scope) (x:Str):Prop:=sc.names.lookup x=some .local\/sc.names.lookup x=some .cell
def yR (env:Env) (h:Heap) (m:Str->Option Value) (x:Str) (u:Value):Prop:=
 (env.kindOf x=some .local/\m x=some u)\/((env.kindOf x=some .cell\/env.kindOf x=some .free)/\∃c,env.cells.lookup x=some c/\h.IsCell c (some u))
structure Cx.Ok (X:Cx):Prop where
 mod:Mod X.K X.mg X.base
 kind:X.env.scope.kind=.function
 glob:X.env.globals=mainGlobals
 blt:X.env.builtins=builtinsNs
 above:X.s₀.heap.objs.size<=X.env.locals
 inj:∀x y c,X.env.cells.lookup x=some c->X.env.cells.lookup y=some c->x=y
 has:∀x,(X.env.kindOf x=some .cell\/X.env.kindOf x=some .free)->∃c,X.env.cells.lookup x=some c
 cab:∀x c,X.fn x=true->X.env.cells.lookup x=some c->X.s₀.heap.objs.size<=c
 hd:X.calm=true->X.A.handled=none
 frames:X.A.frames=some X.stack
 stk:X.stack=X.outer\/(X.stack=X.env::X.outer/\X.env.frame=some X.env.locals)
 exf:∀b∈X.ex,b≠X.env.locals/\∀x c,X.env.cells.lookup x=some c->c≠b
 bs:∀b o,X.base.get? b=some o->X.s₀.heap.get? b=some o/\X.H₀ b=none
 bsz:X.base.objs.size<=X.s₀.heap.objs.size
 noex:∀b o,X.base.get? b=some o->b∉X.ex
 exfs:∀b∈X.ex,b∉X.fs
 funs:X.s₀.heap.FunFrames X.base X.outer
 frf:∀b∈X.fs,X.H₀ b=none
structure qp (X:Cx) (pins:List (Addr×Obj)) (σ:List (Option V)) (H:Hp) (s:Shared):Prop where
 ok:X.Ok
 os:s.os=X.s₀.os
 bare:AllBare s.gens
 base:Un X.fs X.ex X.H₀ H X.s₀.heap s.heap
 loc:∃m,s.heap.Ns X.env.locals m/\∀(i:Nat) (x:Str) (v:V),X.N[i]?=some x->σ[i]?=some (some v)->vJ X.env.scope x->∃u,qA v u/\yR X.env s.heap m x u
 cell:∀x c,X.env.cells.lookup x=some c->∃v,s.heap.IsCell c v
 free:H X.env.locals=none
 freeC:∀x c,X.env.cells.lookup x=some c->H c=none\/(X.fn x=false/\∃o,H c=some (.frz o (.frz o (.own 0))))
 pin:∀p∈X.pn++pins,s.heap.get? p.1=some p.2/\H p.1=none/\p.1≠X.env.locals/\p.1∉X.fs/\∀v,p.2.data≠.cell v
 hok:Qa X.prog X.w H s.heap
 len:σ.length=X.N.length
section
variable {X:Cx} {pins:List (Addr×Obj)} {σ:List (Option V)} {H H':Hp} {s:Shared} {h':Heap}
theorem Cx.Ok.nofr (ok:X.Ok) {b:Addr} {o:Obj} (e:X.base.get? b=some o):b∉X.fs:=λhb=>by
 have:=(ok.funs.mem hb).1
 rw[e]at this;cases this
theorem qp.bs (I:qp X pins σ H s):∀b o,X.base.get? b=some o->s.heap.get? b=some o/\H b=none:=λb o e=>
 ⟨I.base.keep b o (I.ok.bs b o e).1 (I.ok.bs b o e).2 (I.ok.nofr e) (I.ok.noex b o e),I.base.free b o (I.ok.bs b o e).1 (I.ok.bs b o e).2 (I.ok.noex b o e)⟩
theorem qp.bk (I:qp X pins σ H s):∀b o,X.base.get? b=some o->s.heap.get? b=some o:=λb o e=>(I.bs b o e).1
theorem qp.mod (I:qp X pins σ H s):Mod X.K X.mg X.base:=I.ok.mod
theorem qp.kIn (I:qp X pins σ H s):X.K.In s.heap:=I.ok.mod.kin.keeps I.bk
theorem qp.lt (I:qp X pins σ H s):X.env.locals < s.heap.objs.size:=let ⟨_,hn,_⟩:=I.loc;hn.lt
theorem qp.sz (I:qp X pins σ H s):X.s₀.heap.objs.size<=s.heap.objs.size:=Nat.le_trans I.ok.above (Nat.le_of_lt I.lt)
theorem qp.nofs (I:qp X pins σ H s) {a:Addr} (h:s.heap.objs.size<=a):a∉X.fs:=λhb=>by
 obtain⟨_,o,ho,_⟩:=I.ok.funs.mem hb
 exact absurd (Nat.lt_of_lt_of_le (Heap.lt_size ho) (Nat.le_trans I.sz h)) (Nat.lt_irrefl _)
theorem qp.cne (I:qp X pins σ H s):∀x c,X.env.cells.lookup x=some c->c≠X.env.locals:=λx c e z=>by
 obtain⟨v,o,ho,hd⟩:=I.cell x c e
 obtain⟨m,⟨o',es,ep,ho',hd',_⟩,_⟩:=I.loc
 rw[z,ho']at ho;cases ho;rw[hd']at hd;cases hd
theorem qp.funs (I:qp X pins σ H s):s.heap.FunFrames X.base X.outer:=by
 have all:∀(l:List Env),(∀b∈Jk l,b∈X.fs)->X.s₀.heap.FunFrames X.base l->s.heap.FunFrames X.base l:=by
   intro l
   induction l with
   | nil=>intro _ _;trivial
   | cons env r ih=>
     intro hs hl
     obtain⟨hk,⟨L,o,hf,hn,ho,hd⟩,hr⟩:=hl
     have hL:L∈X.fs:=hs L (by unfold Jk;rw[List.filterMap_cons,hf];exact List.mem_cons_self)
     obtain⟨sl,e⟩:=I.base.slot L o ho (I.ok.frf L hL) hL λz=>I.ok.exfs L z hL
     exact⟨hk,⟨L,_,hf,hn,e,hd⟩,ih (λb hb=>hs b (by unfold Jk;rw[List.filterMap_cons,hf];exact List.mem_cons_of_mem _ hb)) hr⟩
 exact all X.outer (λ_ hb=>hb) I.ok.funs
theorem qp.stack (I:qp X pins σ H s):s.heap.FunFrames X.base X.stack:=by
 rcases I.ok.stk with e | ⟨e,hf⟩
 . rw[e];exact I.funs
 . rw[e]
   obtain⟨m,hn,_⟩:=I.loc
   refine .cons (by rw[I.ok.kind];decide) hf hn ?_ I.funs
   exact Heap.get?_none_of_le (Nat.le_trans I.ok.bsz I.ok.above)
theorem qp.stkSub (I:qp X pins σ H s):∀b∈Jk X.stack,b∈X.env.locals::X.fs:=λb hb=>by
 rcases I.ok.stk with e | ⟨e,hf⟩
 . rw[e]at hb;exact List.mem_cons_of_mem _ hb
 . rw[e]at hb
   unfold Jk at hb
   rw[List.filterMap_cons,hf]at hb
   exact hb
theorem qp.stkFree (I:qp X pins σ H s):∀b∈Jk X.stack,H b=none:=λb hb=>by
 rcases List.mem_cons.mp (I.stkSub b hb) with e | hb
 . rw[e];exact I.free
 . obtain⟨_,o,ho,_⟩:=I.ok.funs.mem hb
   exact I.base.free b o ho (I.ok.frf b hb) λz=>I.ok.exfs b z hb
theorem qp.step {g':Array GenState} {t':Nat} {d':Drawn} {ch:List Addr} (I:qp X pins σ H s)
   (hch:∀b∈ch,(b∈X.ex\/X.s₀.heap.objs.size<=b)/\b≠X.env.locals/\(∀x c,X.env.cells.lookup x=some c->c≠b)/\∀p∈X.pn++pins,p.1≠b)
   (keep:∀b o,b≠X.env.locals->b∉X.fs->b∉ch->s.heap.get? b=some o->H b=none->h'.get? b=some o)
   (slot:∀b o,b≠X.env.locals->b∈X.fs->b∉ch->s.heap.get? b=some o->H b=none->∃sl,h'.get? b=some {o with slots:=sl}) (free:∀b o,b∉ch->s.heap.get? b=some o->H b=none->H' b=none)
   (there:∀b o,b∉ch->s.heap.get? b=some o->∃o',h'.get? b=some o')
   (tups:∀b xs,H b=some (.tup xs)->H' b=some (.tup xs)) (frzs:∀b o u,H b=some (.frz o u)->H' b=some (.frz o u)) (tbls:∀b ps,H b=some (.tbl ps)->∃more,H' b=some (.tbl (ps++more)))
   (ns:∀m,s.heap.Ns X.env.locals m->h'.Ns X.env.locals m) (hok:Qa X.prog X.w H' h') (hg:AllBare g'):
   qp X pins σ H' {s with heap:=h',gens:=g',drawn:=d',toks:=t'}:=by
 have neL:∀b o,X.s₀.heap.get? b=some o->b≠X.env.locals:=λb o e=>Nat.ne_of_lt (Nat.lt_of_lt_of_le (Heap.lt_size e) I.ok.above)
 have neC:∀b o,X.s₀.heap.get? b=some o->b∉X.ex->b∉ch:=λb o e hx hb=>by
   rcases(hch b hb).1 with z | z
   . exact hx z
   . exact absurd (Nat.lt_of_lt_of_le (Heap.lt_size e) z) (Nat.lt_irrefl _)
 have cellK:∀x c,X.env.cells.lookup x=some c->∀v,s.heap.IsCell c v->h'.IsCell c v:=λx c e v ⟨o,ho,hd⟩=>by
   have nch:c∉ch:=λz=>(hch c z).2.2.1 x c e rfl
   rcases I.freeC x c e with fc | ⟨_,oc,fc⟩
   . by_cases hc:c∈X.fs
     . obtain⟨sl,q⟩:=slot c o (I.cne x c e) hc nch ho fc
       exact⟨_,q,hd⟩
     . exact⟨o,keep c o (I.cne x c e) hc nch ho fc,hd⟩
   . obtain⟨e1,_⟩:=(show qw X.prog X.w H s.heap c (.frz oc (.frz oc (.own 0))) from I.hok c _ fc)
     obtain⟨e2,_⟩:=(show qw X.prog X.w H' h' c (.frz oc (.frz oc (.own 0))) from hok c _ (frzs c oc _ fc))
     rw[ho]at e1
     cases e1
     exact⟨o,e2,hd⟩
 refine⟨I.ok,I.os,hg,⟨λb o e n hb hx=>?_,λb o e n hb hx=>?_,λb o e n hx=>?_,λb o e hx=>?_,λb xs e=>tups b xs (I.base.tups b xs e),λb o xs e=>frzs b o xs (I.base.frzs b o xs e),λb ps e=>?_⟩,?_,λx c e=>?_,?_,λx c e=>?_,λp hp=>?_,hok,I.len⟩
 . exact keep b o (neL b o e) hb (neC b o e hx) (I.base.keep b o e n hb hx) (I.base.free b o e n hx)
 . obtain⟨sl,e1⟩:=I.base.slot b o e n hb hx
   obtain⟨sl',e2⟩:=slot b _ (neL b o e) hb (neC b o e hx) e1 (I.base.free b o e n hx)
   exact⟨sl',e2⟩
 . obtain⟨o',e1⟩:=I.base.there b o e hx
   exact free b o' (neC b o e hx) e1 (I.base.free b o e n hx)
 . obtain⟨o',e1⟩:=I.base.there b o e hx
   exact there b o' (neC b o e hx) e1
 . obtain⟨m1,e1⟩:=I.base.tbls b ps e
   obtain⟨m2,e2⟩:=tbls b _ e1
   exact⟨m1++m2,by rw[e2,Array.append_assoc]⟩
 . obtain⟨m,hn,hl⟩:=I.loc
   refine⟨m,ns m hn,λi x v e1 e2 e3=>?_⟩
   obtain⟨u,r,l⟩:=hl i x v e1 e2 e3
   refine⟨u,r,?_⟩
   rcases l with l | ⟨k,c,e,z⟩
   . exact .inl l
   . exact .inr ⟨k,c,e,cellK x c e _ z⟩
 . obtain⟨v,z⟩:=I.cell x c e
   exact⟨v,cellK x c e v z⟩
 . obtain⟨m,⟨o,_,_,ho,_⟩,_⟩:=I.loc
   exact free _ o (λz=>(hch _ z).2.1 rfl) ho I.free
 . obtain⟨v,o,ho,hd⟩:=I.cell x c e
   rcases I.freeC x c e with fc | ⟨fx,oc,fc⟩
   . exact .inl (free c o (λz=>(hch c z).2.2.1 x c e rfl) ho fc)
   . exact .inr ⟨fx,oc,frzs c oc _ fc⟩
 . obtain⟨e,n,ne,nf,d⟩:=I.pin p hp
   have nch:p.1∉ch:=λz=>(hch p.1 z).2.2.2 p hp rfl
   exact⟨keep p.1 p.2 ne nf nch e n,free p.1 p.2 nch e n,ne,nf,d⟩
theorem qp.un {t':Nat} (I:qp X pins σ H s) (u:Un X.fs [] H H' s.heap h') (hok:Qa X.prog X.w H' h'):qp X pins σ H' {s with heap:=h',toks:=t'}:=by
 obtain⟨m,⟨o,es,ep,ho,r⟩,_⟩:=id I.loc
 obtain⟨sl,hL⟩:=u.any ho I.free (by simp)
 exact I.step (g':=s.gens) (d':=s.drawn) (ch:=[]) (λ_ z=>nomatch z) (λb o _ hb _ e n=>u.keep b o e n hb (by simp)) (λb o _ hb _ e n=>u.slot b o e n hb (by simp)) (λb o _ e n=>u.free b o e n (by simp)) (λb o _ e=>u.there b o e (by simp)) u.tups u.frzs u.tbls (λm' hm=>by
   obtain⟨o',es',ep',ho',r'⟩:=hm
   rw[ho]at ho';cases ho'
   exact⟨_,es',ep',hL,r'⟩) hok I.bare
theorem qp.call {g':Array GenState} {t':Nat} {d':Drawn} {ch:List Addr} (I:qp X pins σ H s) (u:Un (Jk X.stack) ch H H' s.heap h') (hok:Qa X.prog X.w H' h') (hg:AllBare g')
   (hch:∀b∈ch,(b∈X.ex\/X.s₀.heap.objs.size<=b)/\b≠X.env.locals/\(∀x c,X.env.cells.lookup x=some c->c≠b)/\∀p∈X.pn++pins,p.1≠b):
   qp X pins σ H' {s with heap:=h',gens:=g',drawn:=d',toks:=t'}:=by
 obtain⟨m,⟨o,es,ep,ho,r⟩,_⟩:=id I.loc
 obtain⟨sl,hL⟩:=u.any ho I.free λz=>(hch _ z).2.1 rfl
 exact I.step (ch:=ch) hch (λb o hL hb hc e n=>u.keep b o e n (λz=>(List.mem_cons.mp (I.stkSub b z)).elim hL hb) hc) (λb o _ _ hc e n=>u.any e n hc) (λb o hc e n=>u.free b o e n hc) (λb o hc e=>u.there b o e hc) u.tups u.frzs u.tbls (λm' hm=>by
   obtain⟨o',es',ep',ho',r'⟩:=hm
   rw[ho]at ho';cases ho'
   exact⟨_,es',ep',hL,r'⟩) hok hg
theorem qp.turned {t':Nat} {it:Addr} (I:qp X pins σ H s) (k:∀b o,b≠it->s.heap.get? b=some o->h'.get? b=some o) (hn:H it=none) (hL:it≠X.env.locals)
   (h1:it∈X.ex\/X.s₀.heap.objs.size<=it) (h2:∀x c,X.env.cells.lookup x=some c->c≠it) (h3:∀p∈X.pn++pins,p.1≠it):qp X pins σ H {s with heap:=h',toks:=t'}:=by
 have nit:∀b u,H b=some u->b≠it:=λb u e z=>by rw[z,hn]at e;cases e
 refine I.step (g':=s.gens) (d':=s.drawn) (ch:=[it]) (λb hb=>?_) (λb o _ _ hc e _=>k b o (λz=>hc (by simp [z])) e) (λb o _ _ hc e _=>⟨o.slots,k b o (λz=>hc (by simp [z])) e⟩) (λ_ _ _ _ n=>n)
   (λb o hc e=>⟨o,k b o (λz=>hc (by simp [z])) e⟩) (λ_ _ e=>e) (λ_ _ _ e=>e) (λb ps e=>⟨#[],by rw[e];simp⟩) (λm hm=>?_) (λb u e=>?_) I.bare
 . have e:b=it:=by simpa using hb
   subst e
   exact⟨h1,hL,h2,h3⟩
 . obtain⟨o,es,ep,ho,r⟩:=hm
   exact⟨o,es,ep,k _ o (Ne.symm hL) ho,r⟩
 . refine(I.hok b u e).stay (λc v hc q=>k c v ?_ q) (λ_ q=>q) λ_ _ q=>q
   rcases hc with z | z
   . rw[z];exact nit b u e
   . exact nit c _ z
theorem qp.tok (I:qp X pins σ H s) (t:Nat):qp X pins σ H {s with toks:=t}:=I.un (h':=s.heap) (t':=t) Un.refl I.hok
theorem qp.kept {t':Nat} (I:qp X pins σ H s) (k:∀b u,s.heap.get? b=some u->h'.get? b=some u):qp X pins σ H {s with heap:=h',toks:=t'}:=I.un (Un.kept k) (I.hok.kept k)
theorem qp.laid {a:Addr} {o:HO} {t':Nat} (I:qp X pins σ H s) (k:∀b u,s.heap.get? b=some u->h'.get? b=some u) (hp:s.heap.objs.size<=a) (new:qw X.prog X.w (qr H a o) h' a o):
   qp X pins σ (qr H a o) {s with heap:=h',toks:=t'}:=I.un (Un.laid k hp (I.hok.fresh hp)) (I.hok.laid k hp new)
theorem qp.write {x e:Addr} {o:HO} {t':Nat} (I:qp X pins σ H s) (mu:vL (H x)) (he:e=x\/H e=some (.own x)) (k:∀b u,b≠e->s.heap.get? b=some u->h'.get? b=some u) (heo:∃u,h'.get? e=some u)
   (new:qw X.prog X.w (qr H x o) h' x o):qp X pins σ (qr H x o) {s with heap:=h',toks:=t'}:=I.un (Un.write mu he k heo) (I.hok.write mu he k heo new)
theorem qp.pins_of {pins':List (Addr×Obj)} (I:qp X pins σ H s) (h:∀p∈pins',s.heap.get? p.1=some p.2/\H p.1=none/\p.1≠X.env.locals/\p.1∉X.fs/\∀v,p.2.data≠.cell v):qp X pins' σ H s:=
 ⟨I.ok,I.os,I.bare,I.base,I.loc,I.cell,I.free,I.freeC,λp hp=>(List.mem_append.mp hp).elim (λz=>I.pin p (List.mem_append_left _ z)) (h p),I.hok,I.len⟩
theorem J6 {N:List Str} (hN:N.Nodup) {i j:Nat} {x:Str} (a:N[i]?=some x) (b:N[j]?=some x):i=j:=by
 obtain⟨h1,e1⟩:=List.getElem?_eq_some_iff.mp a
 obtain⟨h2,e2⟩:=List.getElem?_eq_some_iff.mp b
 exact(List.getElem_inj hN).mp (e1.trans e2.symm)
theorem Zu {M:Model} {A:Around} {E:Value->Shared->Prop} {i:Nat} {x:Str} {v:V} {u:Value} {Q:Unit->Shared->Prop} (I:qp X pins σ H s) (hN:X.N.Nodup) (hi:X.N[i]?=some x) (hx:vM X.env.scope x) (r:qA v u)
   (h:∀s',qp X pins (σ.set i (some v)) H s'->(∃a,Heap.SameBut a s.heap s'.heap/\(a=X.env.locals\/X.env.cells.lookup x=some a))->Q () s') (hf:X.fn x=true\/X.env.scope.names.lookup x=some .local:=by first | exact .inl rfl | exact .inr rfl | assumption):wpAny M A (storeName X.env x u) Q E s:=by
 obtain⟨m,hn,hl⟩:=id I.loc
 have hcls:(X.env.scope.kind==.class || (X.env.scope.kind==.module&&X.env.locals != X.env.globals))=false:=by rw[I.ok.kind];rfl
 have hiσ:i < σ.length:=by rw[I.len];exact(List.getElem?_eq_some_iff.mp hi).1
 have cne:=I.cne
 have tracked:∀{a:Addr} {h':Heap},(∃o,s.heap.get? a=some o/\H a=none)->Heap.SameBut a s.heap h'->Qa X.prog X.w H h':=λ{a h'} ha hs b ob e=>by
   obtain⟨_,_,hfree⟩:=ha
   refine(I.hok b ob e).stay (λc w' hc q=>(hs.2 c ?_).trans q) (λ_ q=>q) λ_ _ q=>q
   rintro rfl
   rcases hc with rfl | hc
   . rw[hfree]at e;cases e
   . rw[hfree]at hc;cases hc
 rcases hx with hk | hk
 . refine wpAny_storeName_local hk hn (λh' hn' hs=>?_) hcls
   obtain⟨oL,_,_,hoL,_⟩:=id hn
   refine h _ ⟨I.ok,I.os,I.bare,⟨λb o e n hb hx=>?_,λb o e n hb hx=>?_,I.base.free,λb o e hx=>?_,I.base.tups,I.base.frzs,I.base.tbls⟩,⟨_,hn',λj y v' e1 e2 e3=>?_⟩,λy c e=>?_,I.free,I.freeC,λp hp=>?_,tracked ⟨oL,hoL,I.free⟩ hs,by simpa using I.len⟩ ⟨_,hs,.inl rfl⟩
   . exact(hs.2 b (Nat.ne_of_lt (Nat.lt_of_lt_of_le (Heap.lt_size e) I.ok.above))).trans (I.base.keep b o e n hb hx)
   . obtain⟨sl,e1⟩:=I.base.slot b o e n hb hx
     exact⟨sl,(hs.2 b (Nat.ne_of_lt (Nat.lt_of_lt_of_le (Heap.lt_size e) I.ok.above))).trans e1⟩
   . obtain⟨o',e1⟩:=I.base.there b o e hx
     exact⟨o',(hs.2 b (Nat.ne_of_lt (Nat.lt_of_lt_of_le (Heap.lt_size e) I.ok.above))).trans e1⟩
   . by_cases hj:j=i
     . subst hj
       rw[hi]at e1;cases e1
       rw[List.getElem?_set_self hiσ]at e2
       cases e2
       exact⟨u,r,.inl ⟨hk,by simp⟩⟩
     . rw[List.getElem?_set_ne (Ne.symm hj)]at e2
       obtain⟨u',r',q⟩:=hl j y v' e1 e2 e3
       refine⟨u',r',?_⟩
       rcases q with ⟨k,e⟩ | ⟨k,c,e,z⟩
       . refine .inl ⟨k,?_⟩
         have:y≠x:=λe=>hj (J6 hN e1 (e▸hi))
         simp [this,e]
       . exact .inr ⟨k,c,e,z.sameBut hs (cne y c e)⟩
   . obtain⟨w',z⟩:=I.cell y c e
     exact⟨w',z.sameBut hs (cne y c e)⟩
   . obtain⟨e,n,ne,nf,d⟩:=I.pin p hp
     exact⟨(hs.2 p.1 ne).trans e,n,ne,nf,d⟩
 . have hfn:X.fn x=true:=by
     rcases hf with z | z
     . exact z
     . rw[z]at hk;cases hk
   obtain⟨c,hc⟩:=I.ok.has x (.inl hk)
   obtain⟨w',z⟩:=I.cell x c hc
   refine wpAny_storeName_cell I.ok.kind hk hc z (λh' hc' hs=>?_)
   obtain⟨oc,hoc,hocd⟩:=id z
   have fcn:H c=none:=(I.freeC x c hc).elim id λz=>by rw[hfn]at z;cases z.1
   refine h {s with heap:=h'} ⟨I.ok,I.os,I.bare,⟨λb o e n hb hx=>?_,λb o e n hb hx=>?_,I.base.free,λb o e hx=>?_,I.base.tups,I.base.frzs,I.base.tbls⟩,⟨m,hn.sameBut hs (Ne.symm (cne x c hc)),λj y v' e1 e2 e3=>?_⟩,λy c' e=>?_,I.free,I.freeC,λp hp=>?_,tracked ⟨oc,hoc,fcn⟩ hs,by simpa using I.len⟩ ⟨c,hs,.inr hc⟩
   . exact(hs.2 b (Nat.ne_of_lt (Nat.lt_of_lt_of_le (Heap.lt_size e) (I.ok.cab x c hfn hc)))).trans (I.base.keep b o e n hb hx)
   . obtain⟨sl,e1⟩:=I.base.slot b o e n hb hx
     exact⟨sl,(hs.2 b (Nat.ne_of_lt (Nat.lt_of_lt_of_le (Heap.lt_size e) (I.ok.cab x c hfn hc)))).trans e1⟩
   . obtain⟨o',e1⟩:=I.base.there b o e hx
     exact⟨o',(hs.2 b (Nat.ne_of_lt (Nat.lt_of_lt_of_le (Heap.lt_size e) (I.ok.cab x c hfn hc)))).trans e1⟩
   . by_cases hj:j=i
     . subst hj
       rw[hi]at e1;cases e1
       rw[List.getElem?_set_self hiσ]at e2
       cases e2
       exact⟨u,r,.inr ⟨.inl hk,c,hc,hc'⟩⟩
     . rw[List.getElem?_set_ne (Ne.symm hj)]at e2
       obtain⟨u',r',q⟩:=hl j y v' e1 e2 e3
       refine⟨u',r',?_⟩
       rcases q with q | ⟨k,c',e,z'⟩
       . exact .inl q
       . refine .inr ⟨k,c',e,z'.sameBut hs ?_⟩
         rintro rfl
         exact hj (J6 hN e1 (I.ok.inj _ _ _ e hc▸hi))
   . by_cases hcc:c'=c
     . subst hcc;exact⟨_,hc'⟩
     . obtain⟨w2,z2⟩:=I.cell y c' e
       exact⟨w2,z2.sameBut hs hcc⟩
   . obtain⟨e,n,ne,nf,d⟩:=I.pin p hp
     refine⟨(hs.2 p.1 ?_).trans e,n,ne,nf,d⟩
     intro q
     rw[q,hoc]at e
     have q':oc=p.2:=Option.some.inj e
     exact d w' (by rw[<-q'];exact hocd)
theorem JR {M:Model} {A:Around} {E:Value->Shared->Prop} {i:Nat} {x:Str} {v:V} {u:Value} {Q:Unit->Shared->Prop} (I:qp X pins σ H s) (hN:X.N.Nodup) (hi:X.N[i]?=some x) (hx:vM X.env.scope x) (r:qA v u)
   (h:∀s',qp X pins (σ.set i (some v)) H s'->Q () s') (hf:X.fn x=true\/X.env.scope.names.lookup x=some .local:=by first | exact .inl rfl | exact .inr rfl | assumption):wpAny M A (storeName X.env x u) Q E s:=
 Zu I hN hi hx r (λs' I' _=>h s' I') hf
theorem qp.call' {s':Shared} {ch:List Addr} (I:qp X pins σ H s) (ho:s'.os=s.os) (u:Un (Jk X.stack) ch H H' s.heap s'.heap) (hok:Qa X.prog X.w H' s'.heap) (hg:AllBare s'.gens)
   (hch:∀b∈ch,(b∈X.ex\/X.s₀.heap.objs.size<=b)/\b≠X.env.locals/\(∀x c,X.env.cells.lookup x=some c->c≠b)/\∀p∈X.pn++pins,p.1≠b):qp X pins σ H' s':=by
 obtain⟨h',g',d',t',o'⟩:=s'
 have e:o'=s.os:=ho
 subst e
 exact I.call (g':=g') (t':=t') (d':=d') u hok hg hch
end
abbrev XK:=Value->Option Addr->Hp->Prop
abbrev St:=List (Option V)
abbrev VK:=V->Hp->Prop
abbrev TE:=St->Hp->VK->Prop
abbrev TT:=St->Hp->(Bool->Hp->Prop)->Prop
abbrev TA:=St->Hp->(List V->Hp->Prop)->Prop
structure Jy where
 nx:St->Hp->Prop
 rt:VK
 bk:St->Hp->Prop:=λ_ _=>False
 ct:St->Hp->Prop:=λ_ _=>False
abbrev TS:=Jy->St->Hp->Prop
def EP (X:Cx) (pins:List (Addr×Obj)) (σ:St) (Q:VK) (u:Value) (s':Shared):Prop:=∃v H',qp X pins σ H' s'/\qA v u/\Q v H'
def TP (X:Cx) (pins:List (Addr×Obj)) (σ:St) (Q:Bool->Hp->Prop) (b:Bool) (s':Shared):Prop:=∃H',qp X pins σ H' s'/\Q b H'
def AP (X:Cx) (pins:List (Addr×Obj)) (σ:St) (Q:List V->Hp->Prop) (us:List Value) (s':Shared):Prop:=∃vs H',qp X pins σ H' s'/\qy vs us/\Q vs H'
def SP (X:Cx) (pins:List (Addr×Obj)) (D:Jy) (f:Flow) (s':Shared):Prop:=
 match f with
 | .next=>∃σ' H',qp X pins σ' H' s'/\D.nx σ' H'
 | .brk=>∃σ' H',qp X pins σ' H' s'/\D.bk σ' H'
 | .cont=>∃σ' H',qp X pins σ' H' s'/\D.ct σ' H'
 | .ret u=>∃v σ' H',qp X pins σ' H' s'/\qA v u/\D.rt v H'
def PE (X:Cx) (e:Expr) (t:TE):Prop:=
 ∀(pins:List (Addr×Obj)) (s:Shared) (σ:St) (H:Hp) (Q:VK),qp X pins σ H s->t σ H Q->wpAny (model X.prog X.w) X.A (eval e X.env) (EP X pins σ Q) X.xe s
@[irreducible] def JE (X:Cx) (e:Expr) (t:TE):Prop:=PE X e t
theorem JE.of {X:Cx} {e:Expr} {t:TE} (h:PE X e t):JE X e t:=by unfold JE;exact h
theorem JE.to {X:Cx} {e:Expr} {t:TE} (h:JE X e t):PE X e t:=by unfold JE at h;exact h
def PT (X:Cx) (e:Expr) (t:TT):Prop:=
 ∀(pins:List (Addr×Obj)) (s:Shared) (σ:St) (H:Hp) (Q:Bool->Hp->Prop),qp X pins σ H s->t σ H Q->wpAny (model X.prog X.w) X.A (isTrue e X.env (eval e X.env)) (TP X pins σ Q) X.xe s
@[irreducible] def JT (X:Cx) (e:Expr) (t:TT):Prop:=PT X e t
theorem JT.of {X:Cx} {e:Expr} {t:TT} (h:PT X e t):JT X e t:=by unfold JT;exact h
theorem JT.to {X:Cx} {e:Expr} {t:TT} (h:JT X e t):PT X e t:=by unfold JT at h;exact h
def PW (X:Cx) (e:Expr) (t:TT):Prop:=
 ∀(whole:Sem Value) (pins:List (Addr×Obj)) (s:Shared) (σ:St) (H:Hp) (Q:Bool->Hp->Prop),qp X pins σ H s->t σ H Q->wpAny (model X.prog X.w) X.A (isTrue e X.env whole) (TP X pins σ Q) X.xe s
theorem PW.pt {X:Cx} {e:Expr} {t:TT} (h:PW X e t):PT X e t:=h _
@[irreducible] def JW (X:Cx) (e:Expr) (t:TT):Prop:=PW X e t
theorem JW.of {X:Cx} {e:Expr} {t:TT} (h:PW X e t):JW X e t:=by unfold JW;exact h
theorem JW.to {X:Cx} {e:Expr} {t:TT} (h:JW X e t):PW X e t:=by unfold JW at h;exact h
theorem JW.pt {X:Cx} {e:Expr} {t:TT} (h:JW X e t):JT X e t:=.of h.to.pt
def PA (X:Cx) (es:List Expr) (t:TA):Prop:=
 ∀(pos:Pos) (pins:List (Addr×Obj)) (s:Shared) (σ:St) (H:Hp) (Q:List V->Hp->Prop),qp X pins σ H s->t σ H Q->wpAny (model X.prog X.w) X.A (spliced (backTo pos (starEach es X.env))) (AP X pins σ Q) X.xe s
@[irreducible] def JA (X:Cx) (es:List Expr) (t:TA):Prop:=PA X es t
theorem JA.of {X:Cx} {es:List Expr} {t:TA} (h:PA X es t):JA X es t:=by unfold JA;exact h
theorem JA.to {X:Cx} {es:List Expr} {t:TA} (h:JA X es t):PA X es t:=by unfold JA at h;exact h
def PS (X:Cx) (st:Stmt) (t:TS):Prop:=
 ∀(pins:List (Addr×Obj)) (s:Shared) (σ:St) (H:Hp) (D:Jy),qp X pins σ H s->t D σ H->wpAny (model X.prog X.w) X.A (exec st X.env) (SP X pins D) X.xe s
@[irreducible] def JS (X:Cx) (st:Stmt) (t:TS):Prop:=PS X st t
theorem JS.of {X:Cx} {st:Stmt} {t:TS} (h:PS X st t):JS X st t:=by unfold JS;exact h
theorem JS.to {X:Cx} {st:Stmt} {t:TS} (h:JS X st t):PS X st t:=by unfold JS at h;exact h
def Vs (X:Cx) (st:List Stmt) (t:TS):Prop:=
 ∀(pins:List (Addr×Obj)) (s:Shared) (σ:St) (H:Hp) (D:Jy),qp X pins σ H s->t D σ H->wpAny (model X.prog X.w) X.A (execs st X.env) (SP X pins D) X.xe s
@[irreducible] def zp (X:Cx) (st:List Stmt) (t:TS):Prop:=Vs X st t
theorem zp.of {X:Cx} {st:List Stmt} {t:TS} (h:Vs X st t):zp X st t:=by unfold zp;exact h
theorem zp.to {X:Cx} {st:List Stmt} {t:TS} (h:zp X st t):Vs X st t:=by unfold zp at h;exact h
theorem qO {α:Type} {t:Sem α} {Q Q':α->Shared->Prop} {M:Model} {A:Around} {E:Value->Shared->Prop} {s:Shared} (h:wpAny M A t Q E s) (hQ:∀a s,Q a s->Q' a s):wpAny M A t Q' E s:=wpAny_mono h hQ λ_ _ x=>x
end L2
namespace L2
open PySem PySem.Spec PyProof.Rows
section
variable {X:Cx}
def JQ (i:Nat):TE:=λσ H Q=>∃v,σ[i]?=some (some v)/\Q v H
def tC (v:V):TE:=λ_ H Q=>Q v H
theorem Wy {i:Nat} {x:Str} {pos:Pos} (hN:X.N[i]?=some x) (hv:vJ X.env.scope x) (hd:(x==("__debug__":Str))=false:=by decide) (hcd:(x==("__classdict__":Str))=false:=by decide):PE X (.Name x pos) (JQ i):=by
 intro pins s σ H Q I h
 obtain⟨v,e,h⟩:=h
 obtain⟨m,hn,hl⟩:=I.loc
 obtain⟨u,r,l⟩:=hl i x v hN e hv
 have fin:EP X pins σ Q u s:=⟨v,H,I,r,h⟩
 rcases l with ⟨hk,hm⟩ | ⟨hk,c,hc,hcell⟩
 . exact wpAny_Name (wpAny_loadName_local I.ok.kind hk hn hm fin) hd
 . rcases hk with hk | hk
   . exact wpAny_Name (wpAny_loadName_cell I.ok.kind hk hc hcell fin) hd
   . exact wpAny_Name (wpAny_loadName_free I.ok.kind hk hc hcell fin hcd) hd
theorem qj {i j pos}:JE X (.Constant (.int i) j pos) (tC (.int i)):=.of (by
 exact λ_ _ _ H _ I h=>wpAny_Constant_int ⟨.int i,H,I.tok _,⟨_,rfl⟩,h⟩)
theorem QJ {b j pos}:JE X (.Constant (.bool b) j pos) (tC (.bl b)):=.of (by
 exact λ_ _ _ H _ I h=>Constant_bool ⟨.bl b,H,I,rfl,h⟩)
theorem Jj {j pos}:JE X (.Constant .none j pos) (tC .non):=.of (by
 exact λ_ _ _ H _ I h=>Constant_none ⟨.non,H,I,rfl,h⟩)
theorem qq {x j pos}:JE X (.Constant (.str x) j pos) (tC (.str x)):=.of (by
 exact λ_ _ _ H _ I h=>Calls.Constant_str ⟨.str x,H,I.tok _,⟨_,rfl⟩,h⟩)
def Gl (X:Cx) (x:Str):Prop:=X.env.kindOf x=some .globalImplicit
theorem Q1 {E:Value->Shared->Prop} {pins:List (Addr×Obj)} {s:Shared} {σ:St} {H:Hp} {x:Str} {u:Value} {pos:Pos} {Q:Value->Shared->Prop} (I:qp X pins σ H s) (hg:Gl X x) (hm:X.mg x=some u) (h:Q u s)
   (hd:(x==("__debug__":Str))=false:=by decide):wpAny (model X.prog X.w) X.A (eval (.Name x pos) X.env) Q E s:=
 Calls.Name_function_global I.ok.kind hg (Calls.loadGlobal_global (by rw[I.ok.glob];exact I.mod.glob.keeps I.bk) hm h) hd
theorem QM {E:Value->Shared->Prop} {pins:List (Addr×Obj)} {s:Shared} {σ:St} {H:Hp} {x:Str} {u:Value} {pos:Pos} {Q:Value->Shared->Prop} (I:qp X pins σ H s) (hg:Gl X x) (hm:X.mg x=none) (hv:bootBuiltins x=some u) (h:Q u s)
   (hn:x≠"__name__":=by decide) (hd:(x==("__debug__":Str))=false:=by decide):wpAny (model X.prog X.w) X.A (eval (.Name x pos) X.env) Q E s:=by
 obtain⟨mb,h1,h2⟩:=I.mod.blt
 exact Calls.Name_function_global I.ok.kind hg (Calls.loadGlobal_builtin (by rw[I.ok.glob];exact I.mod.glob.keeps I.bk) hm (by rw[I.ok.blt];exact h1.keeps I.bk) ((h2 x hn).trans hv) h) hd
theorem YW {x:Str} {v:V} {u:Value} {pos:Pos} (hg:Gl X x) (hm:X.mg x=some u) (r:qA v u) (hd:(x==("__debug__":Str))=false:=by decide):PE X (.Name x pos) (tC v):=
 λ_ _ _ H _ I h=>Q1 I hg hm ⟨v,H,I,r,h⟩ hd
theorem jD {x:Str} {v:V} {u:Value} {pos:Pos} (hg:Gl X x) (hm:X.mg x=some u) (r:qA v u) (hd:(x==("__debug__":Str))=false:=by decide):JE X (.Name x pos) (tC v):=.of (YW hg hm r hd)
theorem jE {x:Str} {v:V} {u:Value} {pos:Pos} (hg:Gl X x) (hm:X.mg x=none) (hv:bootBuiltins x=some u) (r:qA v u) (hn:x≠"__name__":=by decide) (hd:(x==("__debug__":Str))=false:=by decide):JE X (.Name x pos) (tC v):=.of (by
 exact λ_ _ _ H _ I h=>QM I hg hm hv ⟨v,H,I,r,h⟩ hn hd)
variable {a b:Expr} {ta tb:TE} {pos:Pos}
def tB (t:TE):TT:=λσ H Q=>t σ H λx H1=>∃c,x=.bl c/\Q c H1
theorem qZ {e:Expr} {t:TE} (h:JE X e t) (he:∀whole,isTrue e X.env whole=(do let v <-whole;standAt e.pos;holding [v] (truthy v)):=by intro _;rfl):JT X e (tB t):=.of (by
 have h:=h.to
 intro pins s σ H Q I hw
 refine isTrue_plain (qO (h pins s σ H _ I hw) λv s1 ⟨x,H1,I1,r1,q1⟩=>?_) (he _)
 obtain⟨d,rfl,q⟩:=q1
 cases r1
 exact wpAny_truthy_bool ⟨H1,I1,q⟩)
variable {tA tB':TT} {rest:List Expr}
def tOr (t u:TT):TT:=λσ H Q=>t σ H λc H1=>if c=true then Q true H1 else u σ H1 Q
def yj (t:TT):TT:=λσ H Q=>t σ H λc H1=>Q (!c) H1
theorem zb (ha:JT X a tA):JW X (.BoolOp .Or [a] pos) tA:=.of (by
 have ha:=ha.to
 intro wh pins s σ H Q I h
 refine isTrue_or (qO (ha pins s σ H Q I h) λc s1 e=>?_)
 cases c with
 | false=>exact isTrue_or_nil e
 | true=>exact e)
theorem zN (ha:JT X a tA) (hb:JW X (.BoolOp .Or (b::rest) pos) tB'):JW X (.BoolOp .Or (a::b::rest) pos) (tOr tA tB'):=.of (by
 have ha:=ha.to
 have hb:=hb.to
 intro wh pins s σ H Q I h
 refine isTrue_or (qO (ha pins s σ H _ I h) λc s1 ⟨H1,I1,q1⟩=>?_)
 cases c with
 | true=>exact⟨H1,I1,q1⟩
 | false=>exact hb wh pins s1 σ H1 Q I1 q1)
theorem jh (ha:JT X a tA):JT X (.UnaryOp .Not a pos) (yj tA):=.of (by
 have ha:=ha.to
 intro pins s σ H Q I h
 exact isTrue_not (ha pins s σ H (λc H1=>Q (!c) H1) I h))
def vW (ta tb:TE):TE:=λσ H Q=>ta σ H λx H1=>∃c,x=.bl c/\if c=true then tb σ H1 Q else Q (.bl false) H1
def vP (ta:TE):TE:=λσ H Q=>ta σ H λx H1=>∃c,x=.bl c/\Q (.bl (!c)) H1
theorem Qm {op} {t:TE} (h:JE X a t):JE X (.BoolOp op [a] pos) t:=.of (by
 have h:=h.to
 exact λpins s σ H Q I hw=>BoolOp_one (h pins s σ H Q I hw))
theorem jA (ha:JE X a ta) (hb:JE X (.BoolOp .And (b::rest) pos) tb):JE X (.BoolOp .And (a::b::rest) pos) (vW ta tb):=.of (by
 have ha:=ha.to
 have hb:=hb.to
 intro pins s σ H Q I h
 refine BoolOp_and (qO (ha pins s σ H _ I h) λv s1 ⟨x,H1,I1,r1,q1⟩=>?_)
 obtain⟨c,rfl,q1⟩:=q1
 cases r1
 refine wpAny_truthy_bool ?_
 cases c with
 | true=>exact hb pins s1 σ H1 Q I1 q1
 | false=>exact⟨.bl false,H1,I1,rfl,q1⟩)
theorem Yt (ha:JE X a ta):JE X (.UnaryOp .Not a pos) (vP ta):=.of (by
 have ha:=ha.to
 intro pins s σ H Q I h
 refine UnaryOp_ (qO (ha pins s σ H _ I h) λv s1 ⟨x,H1,I1,r1,q1⟩=>?_)
 obtain⟨c,rfl,q1⟩:=q1
 cases r1
 exact not_of (wpAny_truthy_bool ⟨.bl (!c),H1,I1,rfl,q1⟩))
end
end L2
namespace L2
open PySem PySem.Spec PyProof.Rows
def SqL (K:PySem.W.Frag) (H:Hp) (a:Addr) (xs:List V):Prop:=
 Rd H a (.lst xs)\/
   ∃(o:Obj) (its:Array Value) (n:Nat),K.lookup a=some o/\o.cls=.type "list"/\o.dict=none/\o.data=.seq its n/\its.size<=sizeLine/\qy xs its.toList
def SqT (K:PySem.W.Frag) (H:Hp) (a:Addr) (xs:List V):Prop:=
 Rd H a (.tup xs)\/
   ∃(o:Obj) (its:Array Value) (n:Nat),K.lookup a=some o/\o.cls=.type "tuple"/\o.data=.seq its n/\its.size<=sizeLine/\qy xs its.toList
def yN:Value->Option V
 | .none=>some .non
 | .bool b=>some (.bl b)
 | .int i _=>some (.int i)
 | .str x _=>some (.str x)
 | .bytes b _=>some (.byt b)
 | .float b _=>some (.flt b)
 | .ref a=>some (.ref a)
 | .type n=>some (.ty n)
 | _=>none
theorem qA.abs {x:V} {u:Value} (r:qA x u):yN u=some x:=by
 cases x with
 | non=>cases r;rfl
 | bl _=>cases r;rfl
 | int _=>obtain⟨t,rfl⟩:=r;rfl
 | str _=>obtain⟨t,rfl⟩:=r;rfl
 | byt _=>obtain⟨t,rfl⟩:=r;rfl
 | flt _=>obtain⟨t,rfl⟩:=r;rfl
 | ref _=>cases r;rfl
 | ty _=>cases r;rfl
theorem qA.inj {x y:V} {u:Value} (r:qA x u) (q:qA y u):x=y:=Option.some.inj (r.abs.symm.trans q.abs)
theorem qy.inj:∀{xs ys:List V} {us:List Value},qy xs us->qy ys us->xs=ys
 | _,_,_,.nil,.nil=>rfl
 | _,_,_,.cons r t,.cons r' t'=>by rw[r.inj r',qy.inj t t']
section
variable {X:Cx} {pins:List (Addr×Obj)} {σ:St} {H:Hp} {s:Shared} {a:Addr} {xs ys:List V}
theorem SqL.of {K:PySem.W.Frag} (h:H a=some (.lst xs)):SqL K H a xs:=.inl (.inl h)
theorem SqT.of {K:PySem.W.Frag} (h:H a=some (.tup xs)):SqT K H a xs:=.inl (.inl h)
theorem qp.list (I:qp X pins σ H s) (h:SqL X.K H a xs):∃its:List Value,qy xs its/\PlainL s.heap a its.toArray/\xs.length<=sizeLine:=by
 rcases h with h | ⟨o,its,n,hk,hc,hd,hs,hz,r⟩
 . obtain⟨z,its,n,r,e⟩:=h.ok I.hok
   exact⟨its,r,⟨_,n,e,rfl,rfl,rfl⟩,z⟩
 . refine⟨its.toList,r,⟨o,n,I.kIn a o hk,hc,hd,by simpa using hs⟩,?_⟩
   have e:=r.length
   simp only[Array.length_toList]at e
   omega
theorem qp.tuple (I:qp X pins σ H s) (h:SqT X.K H a xs):∃its:List Value,qy xs its/\IsTup s.heap a its.toArray/\xs.length<=sizeLine:=by
 rcases h with h | ⟨o,its,n,hk,hc,hs,hz,r⟩
 . obtain⟨z,its,r,p⟩:=h.ok I.hok
   exact⟨its,r,p,z⟩
 . refine⟨its.toList,r,⟨o,I.kIn a o hk,hc,n,by simpa using hs⟩,?_⟩
   have e:=r.length
   simp only[Array.length_toList]at e
   omega
theorem qp.list_inj (I:qp X pins σ H s) (h:SqL X.K H a xs) (h':SqL X.K H a ys):xs=ys:=by
 obtain⟨its,r,⟨o,n,e,_,_,d⟩,_⟩:=I.list h
 obtain⟨its',r',⟨o',n',e',_,_,d'⟩,_⟩:=I.list h'
 rw[e]at e';cases e'
 rw[d]at d'
 injection d' with d1 _
 have:its=its':=by simpa using congrArg Array.toList d1
 subst this
 exact r.inj r'
end
abbrev Cx.wish (X:Cx) (E:Value->Shared->Prop):Cx:={X with xe:=E}
abbrev Cx.nox (X:Cx):Cx:=X.wish λ_ _=>False
theorem Cx.Ok.wish {X:Cx} (ok:X.Ok) (E:Value->Shared->Prop):(X.wish E).Ok:=
 ⟨ok.mod,ok.kind,ok.glob,ok.blt,ok.above,ok.inj,ok.has,ok.cab,ok.hd,ok.frames,ok.stk,ok.exf,ok.bs,ok.bsz,ok.noex,ok.exfs,ok.funs,ok.frf⟩
theorem Cx.Ok.unwish {X:Cx} {E:Value->Shared->Prop} (ok:(X.wish E).Ok):X.Ok:=
 ⟨ok.mod,ok.kind,ok.glob,ok.blt,ok.above,ok.inj,ok.has,ok.cab,ok.hd,ok.frames,ok.stk,ok.exf,ok.bs,ok.bsz,ok.noex,ok.exfs,ok.funs,ok.frf⟩
section
variable {X:Cx} {pins:List (Addr×Obj)} {σ:St} {H:Hp} {s:Shared} {E:Value->Shared->Prop}
theorem qp.wish (I:qp X pins σ H s) (E:Value->Shared->Prop):qp (X.wish E) pins σ H s:=⟨I.ok.wish E,I.os,I.bare,I.base,I.loc,I.cell,I.free,I.freeC,I.pin,I.hok,I.len⟩
theorem qp.unwish (I:qp (X.wish E) pins σ H s):qp X pins σ H s:=⟨I.ok.unwish,I.os,I.bare,I.base,I.loc,I.cell,I.free,I.freeC,I.pin,I.hok,I.len⟩
theorem SP.unwish {D:Jy} {f:Flow} {s':Shared} (h:SP (X.wish E) pins D f s'):SP X pins D f s':=by
 cases f with
 | next=>obtain⟨σ',H',I,q⟩:=h;exact⟨σ',H',I.unwish,q⟩
 | brk=>obtain⟨σ',H',I,q⟩:=h;exact⟨σ',H',I.unwish,q⟩
 | cont=>obtain⟨σ',H',I,q⟩:=h;exact⟨σ',H',I.unwish,q⟩
 | ret u=>obtain⟨v,σ',H',I,r,q⟩:=h;exact⟨v,σ',H',I.unwish,r,q⟩
theorem Vs.nox {st:List Stmt} {t:TS} (h:Vs X.nox st t):Vs X st t:=λpins s σ H D I hw=>
 wpAny_mono (h pins s σ H D (I.wish _) hw) (λ_ _ q=>q.unwish) λ_ _ z=>False.elim z
end
section
variable {X:Cx} {st:Stmt} {rest:List Stmt} {t u:TS} {e:Expr} {te:TE} {pos:Pos}
def vQ:TS:=λD σ H=>D.nx σ H
def yh (t u:TS):TS:=λD σ H=>t {D with nx:=u D} σ H
theorem qv:zp X [] vQ:=.of (by
 exact λ_ _ σ H _ I h=>wpAny_execs_nil ⟨σ,H,I,h⟩)
theorem qh (h1:JS X st t) (h2:zp X rest u):zp X (st::rest) (yh t u):=.of (by
 have h1:=h1.to
 have h2:=h2.to
 intro pins s σ H D I h
 refine wpAny_execs_cons (qO (h1 pins s σ H {D with nx:=u D} I h) λf s1 q=>?_)
 cases f with
 | next=>
   obtain⟨σ',H',I',q⟩:=q
   exact h2 pins s1 σ' H' D I' q
 | ret v=>exact q
 | brk=>exact q
 | cont=>exact q)
theorem qi (h1:JS X st t):zp X [st] t:=.of (by
 have h1:=h1.to
 intro pins s σ H D I h
 refine wpAny_execs_cons (qO (h1 pins s σ H D I h) λf s1 q=>?_)
 cases f with
 | next=>exact wpAny_execs_nil q
 | ret v=>exact q
 | brk=>exact q
 | cont=>exact q)
theorem qp.quiet {pins:List (Addr×Obj)} {σ:St} {H:Hp} {s:Shared} (I:qp X pins σ H s):interactive X.env=false:=by simp [interactive,I.ok.kind]
def vT (te:TE):TS:=λD σ H=>te σ H λ_ H1=>D.nx σ H1
theorem Y5 (he:JE X e te) (hs:swapsWith e none pos.line X.env=pure false:=by rfl):JS X (.Expr e pos) (vT te):=.of (by
 have he:=he.to
 intro pins s σ H D I h
 exact wpAny_Expr_any (qO (he pins s σ H _ I h) λv s1 ⟨x,H1,I1,r1,q1⟩=>⟨σ,H1,I1,q1⟩) I.quiet hs)
def yi (te:TE):TS:=λD σ H=>te σ H D.rt
theorem qt (he:JE X e te):JS X (.Return (some e) pos) (yi te):=.of (by
 have he:=he.to
 intro pins s σ H D I h
 exact wpAny_Return_some (qO (he pins s σ H _ I h) λv s1 ⟨x,H1,I1,r1,q1⟩=>⟨x,σ,H1,I1,r1,q1⟩))
def yn (c:TT) (t u:TS):TS:=λD σ H=>c σ H λb H1=>if b=true then t D σ H1 else u D σ H1
theorem qJ {c:Expr} {a b:List Stmt} {tc:TT} (hc:JT X c tc) (ha:zp X a t) (hb:zp X b u):JS X (.If c a b pos) (yn tc t u):=.of (by
 have hc:=hc.to
 have ha:=ha.to
 have hb:=hb.to
 intro pins s σ H D I h
 refine wpAny_If (qO (hc pins s σ H _ I h) λd s1 ⟨H1,I1,q1⟩=>?_)
 cases d with
 | true=>exact ha pins s1 σ H1 D I1 q1
 | false=>exact hb pins s1 σ H1 D I1 q1)
def UJ:TS:=λ_ _ _=>False
theorem qS {sts:List Stmt}:zp X sts UJ:=.of (by
 exact λ_ _ _ _ _ _ h=>h.elim)
end
abbrev TG:=V->St->Hp->(St->Hp->Prop)->Prop
def PG (X:Cx) (target:Expr) (t:TG):Prop:=
 ∀(pins:List (Addr×Obj)) (s:Shared) (σ:St) (H:Hp) (v:V) (u:Value) (Q:St->Hp->Prop),qp X pins σ H s->qA v u->t v σ H Q->
   wpAny (model X.prog X.w) X.A (assign target X.env u) (λ_ s'=>∃σ' H',qp X pins σ' H' s'/\Q σ' H') X.xe s
@[irreducible] def JG (X:Cx) (target:Expr) (t:TG):Prop:=PG X target t
theorem JG.of {X:Cx} {target:Expr} {t:TG} (h:PG X target t):JG X target t:=by unfold JG;exact h
theorem JG.to {X:Cx} {target:Expr} {t:TG} (h:JG X target t):PG X target t:=by unfold JG at h;exact h
section
variable {X:Cx} {pos:Pos}
def Jv (i:Nat):TG:=λv σ H Q=>Q (σ.set i (some v)) H
theorem qQ {i:Nat} {x:Str} (hN:X.N.Nodup) (hi:X.N[i]?=some x) (hx:vM X.env.scope x) (hf:X.fn x=true\/X.env.scope.names.lookup x=some .local:=by first | exact .inl rfl | exact .inr rfl | assumption):JG X (.Name x pos) (Jv i):=.of (by
 intro pins s σ H v u Q I r h
 exact wpAny_assign_Name (JR I hN hi hx r (λs' I'=>⟨_,H,I',h⟩) hf))
def VB (te:TE) (g:TG):TS:=λD σ H=>te σ H λx H1=>g x σ H1 D.nx
theorem qB {i:Nat} {x:Str} {e:Expr} {te:TE} {pos':Pos} (hN:X.N.Nodup) (hi:X.N[i]?=some x) (hx:vM X.env.scope x) (he:JE X e te) (hs:swapsWith e (some (.Name x pos')) pos.line X.env=pure false:=by rfl) (hf:X.fn x=true\/X.env.scope.names.lookup x=some .local:=by first | exact .inl rfl | exact .inr rfl | assumption):JS X (.Assign [.Name x pos'] e pos) (VB te (Jv i)):=.of (by
 have he:=he.to
 intro pins s σ H D I h
 refine wpAny_Assign_Name (qO (he pins s σ H _ I h) λv s1 ⟨y,H1,I1,r1,q1⟩=>?_) hs
 exact JR I1 hN hi hx r1 (λs2 I2=>⟨_,H1,I2,q1⟩) hf)
end
section
variable {X:Cx} {pos:Pos}
end
structure It where
 go:Nat->Hp->Prop
 yld:Nat->Hp->V->Hp->Prop
 stop:Nat->Hp->Prop
def Zk (X:Cx) (pins:List (Addr×Obj)) (H:Hp) (b:Addr):Prop:=
 H b=none/\b≠X.env.locals/\b∉X.fs/\(b∈X.ex\/X.s₀.heap.objs.size<=b)/\(∀x c,X.env.cells.lookup x=some c->c≠b)/\∀p∈X.pn++pins,p.1≠b
theorem qp.fpOk {X:Cx} {pins:List (Addr×Obj)} {σ:St} {H H':Hp} {s:Shared} {b:Addr} (I:qp X pins σ H s) (hb:s.heap.objs.size<=b) (hn:H' b=none):Zk X pins H' b:=by
 refine⟨hn,Nat.ne_of_gt (Nat.lt_of_lt_of_le I.lt hb),I.nofs hb,.inr (Nat.le_trans I.sz hb),λx c e z=>?_,λp hp z=>?_⟩
 . obtain⟨v,q⟩:=I.cell x c e
   exact absurd (Nat.lt_of_lt_of_le q.lt (by rw[z];exact hb)) (Nat.lt_irrefl _)
 . exact absurd (Nat.lt_of_lt_of_le (Heap.lt_size (I.pin p hp).1) (by rw[z];exact hb)) (Nat.lt_irrefl _)
structure Vm (P:Program) (w:World) (K:PySem.W.Frag) (tg:Expr) (J:It) (fp:List Addr) (it:Addr) (tn:Nat->Heap->Prop):Prop where
 mem:it∈fp
 obj:∀i h,tn i h->∀b∈fp,∃o,h.get? b=some o/\∀v,o.data≠.cell v
 keep:∀i h h',tn i h->(∀b∈fp,∀o,h.get? b=some o->h'.get? b=some o)->tn i h'
 item:∀(X:Cx),X.prog=P->X.w=w->X.K=K->X.calm=true->∀(i:Nat) (pins:List (Addr×Obj)) (s:Shared) (σ:St) (H:Hp) (E:Value->Shared->Prop),qp X pins σ H s->(∀b∈fp,Zk X pins H b)->tn i s.heap->J.go i H->
   wpAny (model P w) X.A (pyNext (.ref it)) (λr s1=>∃u,r=some u/\
     wpAny (model P w) X.A (letOwnedTupleGo tg (.ref it) u) (λ_ s2=>∃x H',qp X pins σ H' s2/\qA x u/\J.yld i H x H'/\tn (i+1) s2.heap/\∀b∈fp,H' b=none) E s1) E s
 done:∀(X:Cx),X.prog=P->X.w=w->X.K=K->X.calm=true->∀(i:Nat) (pins:List (Addr×Obj)) (s:Shared) (σ:St) (H:Hp) (E:Value->Shared->Prop),qp X pins σ H s->(∀b∈fp,Zk X pins H b)->tn i s.heap->J.stop i H->
   wpAny (model P w) X.A (pyNext (.ref it)) (λr s1=>r=none/\qp X pins σ H s1) E s
 self:∀(A:Around) (i:Nat) (s:Shared) (Q:Value->Shared->Prop) (E:Value->Shared->Prop),tn i s.heap->Q (.ref it) s->wpAny (model P w) A (pyIter (.ref it)) Q E s
abbrev TI:=St->Hp->(It->Hp->Prop)->Prop
def PIE (X:Cx) (pins:List (Addr×Obj)) (σ:St) (tg:Expr) (R:It->Hp->Prop) (itv:Value) (s2:Shared):Prop:=
 ∃(it:Addr) (fp:List Addr) (tn:Nat->Heap->Prop) (J:It) (H':Hp),itv=.ref it/\qp X pins σ H' s2/\Vm X.prog X.w X.K tg J fp it tn/\tn 0 s2.heap/\(∀b∈fp,Zk X pins H' b)/\R J H'
def PI (X:Cx) (tg iter:Expr) (wi:TI):Prop:=
 ∀(pins:List (Addr×Obj)) (s:Shared) (σ:St) (H:Hp) (R:It->Hp->Prop),qp X pins σ H s->wi σ H R->
   wpAny (model X.prog X.w) X.A (eval iter X.env) (λv s1=>wpAny (model X.prog X.w) X.A (pyIter v) (PIE X pins σ tg R) X.xe s1) X.xe s
@[irreducible] def JI (X:Cx) (tg iter:Expr) (wi:TI):Prop:=PI X tg iter wi
theorem JI.of {X:Cx} {tg iter:Expr} {wi:TI} (h:PI X tg iter wi):JI X tg iter wi:=by unfold JI;exact h
theorem JI.to {X:Cx} {tg iter:Expr} {wi:TI} (h:JI X tg iter wi):PI X tg iter wi:=by unfold JI at h;exact h
theorem W5 {M:Model} {A:Around} {E:Value->Shared->Prop} {s:Shared} {tg:Expr} {it:Addr} {u:Value} {o:Obj} {n:String} {vs:Array Value} {Q:Unit->Shared->Prop} (ho:s.heap.get? it=some o) (hc:o.cls=.type n) (hd:o.data=.fields vs)
   (hn:["enumerate","zip","dict_itemiterator","dict_reverseitemiterator","odict_iterator","itertools.zip_longest","itertools.pairwise"].contains n=false) (hQ:Q () s):wpAny M A (letOwnedTupleGo tg (.ref it) u) Q E s:=by
 unfold letOwnedTupleGo
 cases tg<;>first
   | exact wpAny_pure hQ
   | (cases u<;>first
       | exact wpAny_pure hQ
       | (refine wpAny_bind (wpAny_load ho ?_)
          rw[hc,hd]
          show wpAny M A (if (["enumerate","zip","dict_itemiterator","dict_reverseitemiterator","odict_iterator","itertools.zip_longest","itertools.pairwise"].contains n&&vs[0]?==some (rawInt _))=true then _ else _) Q E s
          rw[if_neg (by intro h;rw[hn,Bool.false_and]at h;cases h)]
          exact wpAny_pure hQ))
def vD (K:PySem.W.Frag) (a:Addr):It:=
 ⟨λi H=>∃xs x,SqL K H a xs/\xs[i]?=some x,λi H x H'=>H'=H/\∀xs,SqL K H a xs->xs[i]?=some x,λi H=>∃xs,SqL K H a xs/\xs.length<=i⟩
def UF (lo:Int) (n:Nat):It:=⟨λi _=>i < n,λi H x H'=>H'=H/\x=.int (lo+i),λi _=>n<=i⟩
theorem Xk {P:Program} {w:World} {K:PySem.W.Frag} {tg:Expr} (a it:Addr):Vm P w K tg (vD K a) [it] it (λi h=>h.IsListIter it a i) where
 mem:=by simp
 obj:=λi h st b hb=>by
   have e:b=it:=by simpa using hb
   subst e
   obtain⟨o,e,c,d⟩:=st
   exact⟨o,e,λv z=>by rw[d]at z;cases z⟩
 keep:=λi h h' st k=>st.at λo e=>k it (by simp) o e
 item:=by
   intro X hP hw hK hc i pins s σ H E I hf st hg
   subst hP hw hK
   obtain⟨xs,x,hq,hx⟩:=hg
   obtain⟨its,rv,p,hz⟩:=I.list hq
   obtain⟨u,hu,ru⟩:=rv.get hx
   obtain⟨f0,f1,f2,f3,f4,f5⟩:=hf it (by simp)
   refine wpAny_pyNext_list_item st p.isList (x:=u) (by simpa using hu) λh' st' sb=>?_
   have I1:qp X pins σ H {s with heap:=h'}:=I.turned (t':=s.toks) (λb o hb e=>(sb.2 b hb).trans e) f0 f1 f3 f4 f5
   obtain⟨o,e,c,d⟩:=id st'
   exact⟨u,rfl,W5 (s:={s with heap:=h'}) e c d (by decide) ⟨x,H,I1,ru,⟨rfl,λys hy=>by rw[I.list_inj hy hq];exact hx⟩,st',λb hb=>(hf b hb).1⟩⟩
 done:=by
   intro X hP hw hK hc i pins s σ H E I hf st hg
   subst hP hw hK
   obtain⟨xs,hq,hx⟩:=hg
   obtain⟨its,rv,p,hz⟩:=I.list hq
   obtain⟨f0,f1,f2,f3,f4,f5⟩:=hf it (by simp)
   have hl:=rv.length
   exact wpAny_pyNext_list_end (I.ok.hd hc) st p.isList (by simp;omega) λh' eb=>⟨rfl,I.turned (t':=s.toks) (λb o hb e=>eb b o hb e) f0 f1 f3 f4 f5⟩
 self:=λ_ _ _ _ _ st h=>wpAny_pyIter_listiter st h
theorem z9 {P:Program} {w:World} {K:PySem.W.Frag} {tg:Expr} (it:Addr) (lo:Int) (n:Nat):Vm P w K tg (UF lo n) [it] it (λi h=>IsRangeIter h it (lo+(i:Nat)*1) ((n:Int) - (i:Nat)) 1) where
 mem:=by simp
 obj:=λi h st b hb=>by
   have e:b=it:=by simpa using hb
   subst e
   exact⟨_,st,λv z=>by
     have z':Data.fields _=Data.cell v:=z
     cases z'⟩
 keep:=λi h h' st k=>k it (by simp) _ st
 item:=by
   intro X hP hw hK hc i pins s σ H E I hf st hg
   subst hP hw hK
   obtain⟨f0,f1,f2,f3,f4,f5⟩:=hf it (by simp)
   have W:=Walks.range (prog:=X.prog) (w:=X.w) (I.ok.hd hc) it lo 1 n
   refine W.item i s _ _ hg st λv h' tk hv st' kk=>?_
   obtain⟨t,rfl⟩:=hv
   have I1:qp X pins σ H {s with heap:=h',toks:=tk}:=I.turned (λb o hb e=>kk b o (by simpa using hb) e) f0 f1 f3 f4 f5
   refine⟨_,rfl,W5 (s:={s with heap:=h',toks:=tk}) (n:="range_iterator") st' rfl rfl (by decide) ⟨.int (lo+i),H,I1,⟨t,?_⟩,⟨rfl,rfl⟩,st',λb hb=>(hf b hb).1⟩⟩
   rw[Int.mul_one]
 done:=by
   intro X hP hw hK hc i pins s σ H E I hf st hg
   subst hP hw hK
   obtain⟨f0,f1,f2,f3,f4,f5⟩:=hf it (by simp)
   exact wpAny_pyNext_range_end (I.ok.hd hc) st (by have:n<=i:=hg;omega) λh' eb=>⟨rfl,I.turned (t':=s.toks) (λb o hb e=>eb b o hb e) f0 f1 f3 f4 f5⟩
 self:=λ_ _ _ _ _ st h=>wpAny_pyIter_rangeiter st h
end L2
namespace L2
open PySem PySem.Spec PyProof.Rows
section
variable {X:Cx} {tg:Expr}
def kR (K:PySem.W.Frag) (tl:TE):TI:=λσ H R=>tl σ H λx H1=>∃a,x=.ref a/\(∃xs,SqL K H1 a xs)/\R (vD K a) H1
theorem jS {l:Expr} {tl:TE} (hl:JE X l tl):JI X tg l (kR X.K tl):=.of (by
 have hl:=hl.to
 intro pins s σ H R I h
 refine qO (hl pins s σ H _ I h) λv s1 ⟨x,H1,I1,r1,q1⟩=>?_
 obtain⟨a,e,⟨xs,hq⟩,q⟩:=q1
 subst e
 cases r1
 obtain⟨its,rv,p,hz⟩:=I1.list hq
 refine wpAny_pyIter_list p.isList ?_
 refine⟨s1.heap.objs.size,[s1.heap.objs.size],_,_,H1,rfl,I1.kept (t':=s1.toks) λb o e=>Heap.get?_push_of_some _ e,Xk a _,⟨_,Heap.get?_push_size _ rfl,rfl,rfl⟩,λb hb=>?_,q⟩
 have e:b=s1.heap.objs.size:=by simpa using hb
 subst e
 exact I1.fpOk (Nat.le_refl _) (I1.hok.fresh (Nat.le_refl _)))
theorem Wt {pins:List (Addr×Obj)} {σ:St} {H:Hp} {s:Shared} {R:It->Hp->Prop} {E:Value->Shared->Prop} {lo hi:Int} {t u v:Tok} {tk:Nat} (I:qp X pins σ H s) (h1:-(2^62)<=lo) (h2:lo < 2^62) (h3:-(2^62)<=hi) (h4:hi < 2^62)
   (q:R (UF lo (hi - lo).toNat) H):wpAny (model X.prog X.w) X.A (pyIter (.ref s.heap.objs.size)) (PIE X pins σ tg R) E {s with heap:=s.heap.push {cls:=.type "range",data:=.fields #[.int lo t,.int hi u,.int 1 v]},toks:=tk}:=by
 refine wpAny_pyIter_range (IsRange.new ..) (small_one h1 h2 h3 h4) ?_
 have I1:qp X pins σ H {s with heap:=s.heap.push {cls:=.type "range",data:=.fields #[.int lo t,.int hi u,.int 1 v]},toks:=tk}:=I.kept λb o e=>Heap.get?_push_of_some _ e
 refine⟨(s.heap.push {cls:=.type "range",data:=.fields #[.int lo t,.int hi u,.int 1 v]}).objs.size,[(s.heap.push {cls:=.type "range",data:=.fields #[.int lo t,.int hi u,.int 1 v]}).objs.size],_,_,H,rfl,
   I1.kept (t':=tk) λb o e=>Heap.get?_push_of_some _ e,z9 _ lo (hi - lo).toNat,?_,λb hb=>?_,q⟩
 . have e1:lo+((0:Nat):Int)*1=lo:=by simp
   have e2:(((hi - lo).toNat:Nat):Int) - ((0:Nat):Int)=Builtin.Range.rangeSize lo hi 1:=by rw[rangeSize_one];split<;>omega
   show IsRangeIter _ _ (lo+((0:Nat):Int)*1) ((((hi - lo).toNat:Nat):Int) - ((0:Nat):Int)) 1
   rw[e1,e2]
   exact Heap.get?_push_size _ rfl
 . have e:b=(s.heap.push {cls:=.type "range",data:=.fields #[.int lo t,.int hi u,.int 1 v]}).objs.size:=by simpa using hb
   subst e
   exact I1.fpOk (Nat.le_refl _) (I1.hok.fresh (Nat.le_refl _))
def kQ (ta:TA):TI:=λσ H R=>ta σ H λvs H1=>∃j:Int,vs=[.int j]/\-(2^62)<=j/\j < 2^62/\R (UF 0 j.toNat) H1
theorem jG {a:Expr} {ta:TA} {p pos:Pos} (hg:Gl X "range") (hm:X.mg "range"=none) (ha:JA X [a] ta) (hs:starEach [a] X.env=[(false,eval a X.env)]:=by rfl):JI X tg (.Call (.Name "range" p) [a] [] pos) (kQ ta):=.of (by
 have ha:=ha.to
 intro pins s σ H R I h
 refine Call_ (QM I hg hm boot_range (PyProof.Rows.callWith_type1 (qO (ha pos pins s σ H _ I h) λus s1 ⟨vs,H1,I1,r1,q1⟩=>?_) hs rfl))
 obtain⟨j,e,q1,q2,q⟩:=q1
 subst e
 cases r1 with
 | cons r rr=>
   cases rr
   obtain⟨t,rfl⟩:=r
   exact call_range_1 (Wt I1 (by omega) (by omega) q1 q2 (by simpa using q)))
def yo (wi:TI) (g:TG) (tb:TS):TS:=λD σ H=>wi σ H λJ H1=>∃W:Nat->Nat->St->Hp->Prop,(∃m,W 0 m σ H1)/\∀i m σ H,W i m σ H->
 (J.stop i H/\D.nx σ H)\/(J.go i H/\∃N:St->Hp->Prop,(∀σ' H',N σ' H'->∃m',m' < m/\W (i+1) m' σ' H')/\∀x H',J.yld i H x H'->g x σ H' λσ2 H2=>tb {D with nx:=N,ct:=N,bk:=D.nx} σ2 H2)
def J5 (fp:List Addr) (h:Heap):List (Addr×Obj):=fp.filterMap λb=>(h.get? b).map λo=>(b,o)
theorem j7 {fp:List Addr} {h:Heap} {b:Addr} {o:Obj} (hb:b∈fp) (e:h.get? b=some o):(b,o)∈J5 fp h:=List.mem_filterMap.mpr ⟨b,hb,by rw[e];rfl⟩
theorem XA {fp:List Addr} {h:Heap} {p:Addr×Obj} (hp:p∈J5 fp h):p.1∈fp/\h.get? p.1=some p.2:=by
 obtain⟨b,hb,e⟩:=List.mem_filterMap.mp hp
 cases q:h.get? b with
 | none=>rw[q]at e;cases e
 | some o=>
   rw[q]at e
   have e':(b,o)=p:=Option.some.inj e
   subst e'
   exact⟨hb,q⟩
theorem qp.pinned {pins:List (Addr×Obj)} {σ:St} {H:Hp} {s:Shared} {fp:List Addr} (I:qp X pins σ H s) (hf:∀b∈fp,Zk X pins H b) (ho:∀b∈fp,∃o,s.heap.get? b=some o/\∀v,o.data≠.cell v):qp X (pins++J5 fp s.heap) σ H s:=
 I.pins_of λp hp=>(List.mem_append.mp hp).elim (λz=>I.pin p (List.mem_append_right _ z)) λz=>by
   obtain⟨hb,e⟩:=XA z
   obtain⟨f0,f1,f2,_⟩:=hf p.1 hb
   obtain⟨o,e',d⟩:=ho p.1 hb
   rw[e]at e';cases e'
   exact⟨e,f0,f1,f2,d⟩
theorem qp.unpinned {pins pl:List (Addr×Obj)} {σ:St} {H:Hp} {s:Shared} (I:qp X (pins++pl) σ H s):qp X pins σ H s:=I.pins_of λp hp=>I.pin p (List.mem_append_right _ (List.mem_append_left _ hp))
theorem Ql {iter:Expr} {body:List Stmt} {wi:TI} {g:TG} {tb:TS} {pos:Pos} (hp:PassesOwn (model X.prog X.w) X.A X.env X.xe) (hc:X.calm=true) (hi:JI X tg iter wi) (hg:JG X tg g) (hb:zp X body tb) (hs:∀x,foldedSetIterable iter X.env x=pure x:=by intro _;rfl):JS X (.For tg iter body [] pos) (yo wi g tb):=.of (by
 have hi:=hi.to
 have hg:=hg.to
 have hb:=hb.to
 intro pins s σ H D I h
 refine wpAny_For (qO (hi pins s σ H _ I h) λv s1 h1=>qO h1 λitv s2 h2=>?_) hs
 obtain⟨it,fp,tn,J,H2,e,I2,T,st2,f2,W,⟨m0,w0⟩,turn⟩:=h2
 subst e
 have stat:∀{H':Hp},(∀b∈fp,H' b=none)->∀b∈fp,Zk X pins H' b:=λhn b hb=>⟨hn b hb,(f2 b hb).2⟩
 refine codeAny_forLoop_any (λn s'=>∃i σ' H',qp X pins σ' H' s'/\tn i s'.heap/\(∀b∈fp,H' b=none)/\W i n σ' H') ?_ m0 ⟨0,σ,H2,I2,st2,λb hb=>(f2 b hb).1,w0⟩
 rintro n s3 ⟨i,σ3,H3,I3,st3,fr3,w3⟩
 rcases turn i n σ3 H3 w3 with ⟨stop,qn⟩ | ⟨go,N,hN,step⟩
 . refine wpAny_passesOwn hp (qO (T.done X rfl rfl rfl hc i pins s3 σ3 H3 X.xe I3 (stat fr3) st3 stop) λr s4 ⟨hr,I4⟩=>?_)
   subst hr
   exact wpAny_execs_nil ⟨σ3,H3,I4,qn⟩
 . refine wpAny_passesOwn hp (qO (T.item X rfl rfl rfl hc i pins s3 σ3 H3 X.xe I3 (stat fr3) st3 go) λr s4 ⟨u,hr,h4⟩=>?_)
   subst hr
   refine wpAny_passesOwn hp (qO h4 λ_ s5 ⟨x,H5,I5,r5,y5,st5,fr5⟩=>?_)
   have I5':=I5.pinned (stat fr5) (T.obj _ _ st5)
   refine wpAny_passesOwn hp (qO (hg _ s5 σ3 H5 x u _ I5' r5 (step x H5 y5)) λ_ s6 ⟨σ6,H6,I6,q6⟩=>?_)
   refine wpAny_passesOwn hp (qO (hb _ s6 σ6 H6 _ I6 q6) λf s7 q7=>?_)
   have again:∀{σ7:St} {H7:Hp},qp X (pins++J5 fp s5.heap) σ7 H7 s7->N σ7 H7->∃m,m < n/\∃i σ' H',qp X pins σ' H' s7/\tn i s7.heap/\(∀b∈fp,H' b=none)/\W i m σ' H':=λ{σ7 H7} I7 n7=>by
     obtain⟨m',hm,w7⟩:=hN σ7 H7 n7
     refine⟨m',hm,i+1,σ7,H7,I7.unpinned,T.keep _ _ _ st5 λb hb o e=>(I7.pin (b,o) (List.mem_append_right _ (List.mem_append_right _ (j7 hb e)))).1,λb hb=>?_,w7⟩
     obtain⟨o,e,d⟩:=T.obj _ _ st5 b hb
     exact(I7.pin (b,o) (List.mem_append_right _ (List.mem_append_right _ (j7 hb e)))).2.1
   cases f with
   | next=>obtain⟨σ7,H7,I7,n7⟩:=q7;exact again I7 n7
   | cont=>obtain⟨σ7,H7,I7,n7⟩:=q7;exact again I7 n7
   | brk=>obtain⟨σ7,H7,I7,q7⟩:=q7;exact⟨σ7,H7,I7.unpinned,q7⟩
   | ret v=>obtain⟨x7,σ7,H7,I7,r7,q7⟩:=q7;exact⟨x7,σ7,H7,I7.unpinned,r7,q7⟩)
end
theorem Q3 {K:PySem.W.Frag} {a:Addr} {xs:List V} {g:TG} {tb:TS} {D:Jy} {σ:St} {H:Hp} (Pv:Nat->St->Hp->Prop) (h0:Pv 0 σ H) (hl:∀i σ H,i<=xs.length->Pv i σ H->SqL K H a xs)
   (hs:∀i x σ H,xs[i]?=some x->Pv i σ H->g x σ H λσ2 H2=>tb {D with nx:=Pv (i+1),ct:=Pv (i+1),bk:=D.nx} σ2 H2) (hd:∀σ H,Pv xs.length σ H->D.nx σ H):
   ∃W:Nat->Nat->St->Hp->Prop,(∃m,W 0 m σ H)/\∀i m σ H,W i m σ H->
    ((vD K a).stop i H/\D.nx σ H)\/((vD K a).go i H/\∃N:St->Hp->Prop,(∀σ' H',N σ' H'->∃m',m' < m/\W (i+1) m' σ' H')/\∀x H',(vD K a).yld i H x H'->g x σ H' λσ2 H2=>tb {D with nx:=N,ct:=N,bk:=D.nx} σ2 H2):=by
 refine⟨λi m σ H=>m=xs.length - i/\i<=xs.length/\Pv i σ H,⟨xs.length,by simp,Nat.zero_le _,h0⟩,?_⟩
 rintro i m σ H ⟨rfl,hi,p⟩
 have q:=hl i σ H hi p
 by_cases hlt:i < xs.length
 . refine .inr ⟨⟨xs,xs[i],q,by simp [hlt]⟩,Pv (i+1),λσ' H' p'=>⟨xs.length - (i+1),by omega,rfl,hlt,p'⟩,λx H' y=>?_⟩
   obtain⟨e,y⟩:=y
   subst e
   exact hs i x σ _ (y xs q) p
 . have e:i=xs.length:=by omega
   subst e
   exact .inl ⟨⟨xs,q,Nat.le_refl _⟩,hd σ H p⟩
theorem Jl {lo:Int} {n:Nat} {g:TG} {tb:TS} {D:Jy} {σ:St} {H:Hp} (Pv:Nat->St->Hp->Prop) (h0:Pv 0 σ H)
   (hs:∀i σ H,i < n->Pv i σ H->g (.int (lo+i)) σ H λσ2 H2=>tb {D with nx:=Pv (i+1),ct:=Pv (i+1),bk:=D.nx} σ2 H2) (hd:∀σ H,Pv n σ H->D.nx σ H):
   ∃W:Nat->Nat->St->Hp->Prop,(∃m,W 0 m σ H)/\∀i m σ H,W i m σ H->
    ((UF lo n).stop i H/\D.nx σ H)\/((UF lo n).go i H/\∃N:St->Hp->Prop,(∀σ' H',N σ' H'->∃m',m' < m/\W (i+1) m' σ' H')/\∀x H',(UF lo n).yld i H x H'->g x σ H' λσ2 H2=>tb {D with nx:=N,ct:=N,bk:=D.nx} σ2 H2):=by
 refine⟨λi m σ H=>m=n - i/\i<=n/\Pv i σ H,⟨n,by simp,Nat.zero_le _,h0⟩,?_⟩
 rintro i m σ H ⟨rfl,hi,p⟩
 by_cases hlt:i < n
 . refine .inr ⟨hlt,Pv (i+1),λσ' H' p'=>⟨n - (i+1),by omega,rfl,hlt,p'⟩,λx H' y=>?_⟩
   obtain⟨e,y⟩:=y
   subst e y
   exact hs i σ _ hlt p
 . have e:i=n:=by omega
   subst e
   exact .inl ⟨Nat.le_refl _,hd σ H p⟩
end L2
namespace L2
open PySem PySem.Spec PyProof.Rows
abbrev R2:=V->V->Hp->VK->Prop
def QF (X:Cx) (f:Value->Value->Sem Value) (r:R2):Prop:=
 ∀(pins:List (Addr×Obj)) (s:Shared) (σ:St) (H:Hp) (x y:V) (v u:Value) (Q:VK),qp X pins σ H s->qA x v->qA y u->r x y H Q->
   wpAny (model X.prog X.w) X.A (f v u) (EP X pins σ Q) X.xe s
def yO (X:Cx) (f:Value->Sem Value) (r:V->Hp->VK->Prop):Prop:=
 ∀(pins:List (Addr×Obj)) (s:Shared) (σ:St) (H:Hp) (x:V) (v:Value) (Q:VK),qp X pins σ H s->qA x v->r x H Q->
   wpAny (model X.prog X.w) X.A (f v) (EP X pins σ Q) X.xe s
def Qr (X:Cx) (f:Value) (r:List V->Hp->VK->Prop):Prop:=
 ∀(pins:List (Addr×Obj)) (s:Shared) (σ:St) (H:Hp) (xs:List V) (us:List Value) (Q:VK),qp X pins σ H s->qy xs us->r xs H Q->
   wpAny (model X.prog X.w) X.A (call f us) (EP X pins σ Q) X.xe s
def vF (r:R2) (ta tb:TE):TE:=λσ H Q=>ta σ H λx H1=>tb σ H1 λy H2=>r x y H2 Q
def tUn (r:V->Hp->VK->Prop) (ta:TE):TE:=λσ H Q=>ta σ H λx H1=>r x H1 Q
def rI (C:Int->Int->Prop) (g:Int->Int->V):R2:=λx y H Q=>∃i j,x=.int i/\y=.int j/\C i j/\Q (g i j) H
def Vq (g:Int->Int->V):R2:=λx y H Q=>∃i j,x=.int i/\y=.int j/\Q (g i j) H
def rU (g:Int->V):V->Hp->VK->Prop:=λx H Q=>∃i,x=.int i/\Q (g i) H
section
variable {X:Cx} {a b c:Expr} {ta tb tc:TE} {pos:Pos}
theorem vz (ha:PE X a ta) (hb:PE X b tb) {pins:List (Addr×Obj)} {s:Shared} {σ:St} {H:Hp} {R:V->V->Hp->Prop} (I:qp X pins σ H s)
   (h:ta σ H λx H1=>tb σ H1 λy H2=>R x y H2) {Q:Value->Shared->Prop} {f:Value->Value->Sem Value}
   (hf:∀v u s2 x y H2,qp X pins σ H2 s2->qA x v->qA y u->R x y H2->wpAny (model X.prog X.w) X.A (f v u) Q X.xe s2):
   wpAny (model X.prog X.w) X.A (eval a X.env) (λv s₁=>wpAny (model X.prog X.w) X.A (eval b X.env) (λu s₂=>wpAny (model X.prog X.w) X.A (f v u) Q X.xe s₂) X.xe s₁) X.xe s:=by
 refine qO (ha pins s σ H _ I h) λv s1 ⟨x,H1,I1,r1,q1⟩=>?_
 refine qO (hb pins s1 σ H1 _ I1 q1) λu s2 ⟨y,H2,I2,r2,q2⟩=>?_
 exact hf v u s2 x y H2 I2 r1 r2 q2
theorem qz {op:Operator} {r:R2} (ho:QF X (binaryOp op) r) (ha:JE X a ta) (hb:JE X b tb):JE X (.BinOp a op b pos) (vF r ta tb):=.of (by
 have ha:=ha.to
 have hb:=hb.to
 intro pins s σ H Q I h
 exact wpAny_BinOp (vz ha hb I h λv u s2 x y H2 I2 rx ry q=>ho pins s2 σ H2 x y v u Q I2 rx ry q))
theorem Y9 {op:UnaryOp} {r:V->Hp->VK->Prop} (ho:yO X (unaryOp op) r) (ha:JE X a ta):JE X (.UnaryOp op a pos) (tUn r ta):=.of (by
 have ha:=ha.to
 intro pins s σ H Q I h
 exact UnaryOp_ (qO (ha pins s σ H _ I h) λv s1 ⟨x,H1,I1,r1,q1⟩=>ho pins s1 σ H1 x v Q I1 r1 q1))
theorem vH {f:Value->Value->Sem Value} {C:Int->Int->Prop} {g:Int->Int->Int}
   (rule:∀(i j:Int) (t u:Tok) (s:Shared) (Q:Value->Shared->Prop) (E:Value->Shared->Prop),C i j->Q (.int (g i j) s.toks) {s with toks:=s.toks+1}->wpAny (model X.prog X.w) X.A (f (.int i t) (.int j u)) Q E s):
   QF X f (rI C λi j=>.int (g i j)):=by
 intro pins s σ H x y v u Q I rx ry h
 obtain⟨i,j,rfl,rfl,hc,q⟩:=h
 obtain⟨t,rfl⟩:=rx
 obtain⟨t',rfl⟩:=ry
 exact rule i j t t' s _ _ hc ⟨.int (g i j),H,I.tok _,⟨_,rfl⟩,q⟩
theorem VT {f:Value->Value->Sem Value} {g:Int->Int->Int}
   (rule:∀(i j:Int) (t u:Tok) (s:Shared) (Q:Value->Shared->Prop) (E:Value->Shared->Prop),Q (.int (g i j) s.toks) {s with toks:=s.toks+1}->wpAny (model X.prog X.w) X.A (f (.int i t) (.int j u)) Q E s):
   QF X f (Vq λi j=>.int (g i j)):=by
 intro pins s σ H x y v u Q I rx ry h
 obtain⟨i,j,rfl,rfl,q⟩:=h
 obtain⟨t,rfl⟩:=rx
 obtain⟨t',rfl⟩:=ry
 exact rule i j t t' s _ _ ⟨.int (g i j),H,I.tok _,⟨_,rfl⟩,q⟩
theorem VU {f:Value->Value->Sem Value} {g:Int->Int->Bool}
   (rule:∀(i j:Int) (t u:Tok) (s:Shared) (Q:Value->Shared->Prop) (E:Value->Shared->Prop),Q (.bool (g i j)) s->wpAny (model X.prog X.w) X.A (f (.int i t) (.int j u)) Q E s):
   QF X f (Vq λi j=>.bl (g i j)):=by
 intro pins s σ H x y v u Q I rx ry h
 obtain⟨i,j,rfl,rfl,q⟩:=h
 obtain⟨t,rfl⟩:=rx
 obtain⟨t',rfl⟩:=ry
 exact rule i j t t' s _ _ ⟨.bl (g i j),H,I,rfl,q⟩
def yU (i j:Int):Prop:=0 < j/\j < 1073741824
def k7 (i j:Int):Prop:=0<=j/\j<=1000000/\i.natAbs < 2^64
def vE (i j:Int):Prop:=(-(2^64) < i/\i < 2^64)\/(-(2^64) < j/\j < 2^64)
theorem vE.ok {i j:Int} (h:vE i j):IntMulOk i j:=by
 rcases h with ⟨h1,h2⟩ | ⟨h1,h2⟩
 . exact .of_left (intBits_le_64 h1 h2)
 . exact .of_right (intBits_le_64 h1 h2)
theorem z8 (k:Nat):(0:Int)<=2^k:=by
 rw[two_pow_cast]
 exact Int.natCast_nonneg _
theorem jK:QF X (binaryOp .Add) (Vq λi j=>.int (i+j)):=VT λ_ _ _ _ _ _ _ q=>add_int q
theorem UY:QF X (binaryOp .Sub) (Vq λi j=>.int (i - j)):=VT λ_ _ _ _ _ _ _ q=>sub_int q
theorem QK:QF X (binaryOp .Mult) (rI vE λi j=>.int (i*j)):=vH λ_ _ _ _ _ _ _ hc q=>mul_int q hc.ok
theorem Z7:QF X (binaryOp .FloorDiv) (rI yU λi j=>.int (i / j)):=vH λi j _ _ _ _ _ hc q=>by
 have h1:(0:Int) < j:=hc.1
 have h2:j < 1073741824:=hc.2
 exact floordiv_int (by omega) (by rw[Int.fdiv_eq_ediv_of_nonneg i (by omega)];exact q) (.inl (PyProof.noPylong_small (by omega)))
theorem Qi:QF X (binaryOp .Mod) (rI (λ_ j=>0 < j) λi j=>.int (i % j)):=vH λi j _ _ _ _ _ hc q=>by
 have h1:(0:Int) < j:=hc
 exact mod_int' (by omega) (by rw[Int.fmod_eq_emod_of_nonneg i (by omega)];exact q)
theorem WA:QF X (binaryOp .Pow) (rI k7 λi j=>.int (i^j.toNat)):=vH λ_ _ _ _ _ _ _ hc q=>pow_int_small hc.1 hc.2.1 hc.2.2 q
theorem U0:QF X (binaryOp .LShift) (rI k7 λi j=>.int (i*2^j.toNat)):=vH λ_ _ _ _ _ _ _ hc q=>lshift_int_small hc.1 hc.2.1 hc.2.2 q
theorem UZ:QF X (binaryOp .RShift) (rI (λ_ j=>0<=j) λi j=>.int (i / 2^j.toNat)):=vH λi j _ _ _ _ _ hc q=>
 rshift_int hc (by rw[Int.fdiv_eq_ediv_of_nonneg i (z8 _)];exact q)
theorem U5:QF X (binaryOp .BitAnd) (Vq λi j=>.int (Builtin.bitAnd i j)):=VT λ_ _ _ _ _ _ _ q=>and_int q
theorem ku:QF X (binaryOp .BitOr) (Vq λi j=>.int (Builtin.bitOr i j)):=VT λ_ _ _ _ _ _ _ q=>or_int q
theorem unI {f:Value->Sem Value} {g:Int->Int}
   (rule:∀(i:Int) (t:Tok) (s:Shared) (Q:Value->Shared->Prop) (E:Value->Shared->Prop),Q (.int (g i) s.toks) {s with toks:=s.toks+1}->wpAny (model X.prog X.w) X.A (f (.int i t)) Q E s):
   yO X f (rU λi=>.int (g i)):=by
 intro pins s σ H x v Q I rx h
 obtain⟨i,rfl,q⟩:=h
 obtain⟨t,rfl⟩:=rx
 exact rule i t s _ _ ⟨.int (g i),H,I.tok _,⟨_,rfl⟩,q⟩
theorem ZS:yO X (unaryOp .USub) (rU λi=>.int (-i)):=unI λ_ _ _ _ _ q=>neg_int q
end
def v8:V->V->Bool
 | .non,.non=>true | .non,.int _=>true | .int _,.non=>true | .non,.bl _=>true | .bl _,.non=>true | .non,.str _=>true | .str _,.non=>true
 | .int _,.int _=>true | .bl _,.bl _=>true | .str _,.str _=>true | .byt _,.byt _=>true
 | .int _,.str _=>true | .str _,.int _=>true | .bl _,.str _=>true | .str _,.bl _=>true
 | _,_=>false
def rEq:R2:=λx y H Q=>v8 x y=true/\Q (.bl (decide (x=y))) H
def rNe:R2:=λx y H Q=>v8 x y=true/\Q (.bl (!decide (x=y))) H
theorem Xg {i j:Int}:decide (V.int i=V.int j)=(i==j):=by
 rw[Bool.eq_iff_iff]
 simp
theorem Vg {i j:Bool}:decide (V.bl i=V.bl j)=(i==j):=by
 rw[Bool.eq_iff_iff]
 simp
theorem Xf {i j:Str}:decide (V.str i=V.str j)=(i==j):=by
 rw[Bool.eq_iff_iff]
 simp
theorem Xh {i j:Array UInt8}:decide (V.byt i=V.byt j)=(i.toList==j.toList):=by
 rw[Bool.eq_iff_iff]
 cases i
 cases j
 simp
section
variable {X:Cx} {a b c:Expr} {ta tb tc:TE} {pos:Pos}
theorem qD {pins:List (Addr×Obj)} {σ:St} {H:Hp} {s:Shared} {Q:VK} {k k':Bool} (I:qp X pins σ H s) (q:Q (.bl k) H) (e:k=k'):EP X pins σ Q (.bool k') s:=by
 subst e
 exact⟨.bl k,H,I,rfl,q⟩
theorem jC:QF X (compareOp .Eq) rEq:=by
 intro pins s σ H x y v u Q I rx ry h
 obtain⟨hs,q⟩:=h
 cases x with
 | non=>
   cases rx
   cases y with
   | non=>cases ry;exact PySem.EqNone.eq_none_none (qD I q (by simp))
   | bl j=>cases ry;exact PySem.EqNone.eq_none_bool (qD I q (by simp))
   | int j=>obtain⟨t',rfl⟩:=ry;exact PySem.EqNone.eq_none_int (qD I q (by simp))
   | str j=>obtain⟨t',rfl⟩:=ry;exact PySem.EqNone.eq_none_str (qD I q (by simp))
   | _=>exact absurd (show false=true from hs) Bool.false_ne_true
 | bl i=>
   cases rx
   cases y with
   | non=>cases ry;exact PySem.EqNone.eq_bool_none (qD I q (by simp))
   | bl j=>cases ry;exact eq_bool (qD I q Vg)
   | str j=>obtain⟨t',rfl⟩:=ry;exact PySem.EqMixed.eq_bool_str (qD I q (by simp))
   | _=>exact absurd (show false=true from hs) Bool.false_ne_true
 | int i=>
   obtain⟨t,rfl⟩:=rx
   cases y with
   | non=>cases ry;exact PySem.EqNone.eq_int_none (qD I q (by simp))
   | int j=>obtain⟨t',rfl⟩:=ry;exact eq_int (qD I q Xg)
   | str j=>obtain⟨t',rfl⟩:=ry;exact PySem.EqMixed.eq_int_str (qD I q (by simp))
   | _=>exact absurd (show false=true from hs) Bool.false_ne_true
 | str i=>
   obtain⟨t,rfl⟩:=rx
   cases y with
   | non=>cases ry;exact PySem.EqNone.eq_str_none (qD I q (by simp))
   | bl j=>cases ry;exact PySem.EqMixed.eq_str_bool (qD I q (by simp))
   | int j=>obtain⟨t',rfl⟩:=ry;exact PySem.EqMixed.eq_str_int (qD I q (by simp))
   | str j=>obtain⟨t',rfl⟩:=ry;exact eq_str (qD I q Xf)
   | _=>exact absurd (show false=true from hs) Bool.false_ne_true
 | byt i=>
   obtain⟨t,rfl⟩:=rx
   cases y with
   | byt j=>obtain⟨t',rfl⟩:=ry;exact PySem.W.eq_bytes (qD I q Xh)
   | _=>exact absurd (show false=true from hs) Bool.false_ne_true
 | _=>cases y<;>exact absurd (show false=true from hs) Bool.false_ne_true
theorem Zx:QF X (compareOp .NotEq) rNe:=by
 intro pins s σ H x y v u Q I rx ry h
 obtain⟨hs,q⟩:=h
 cases x with
 | non=>
   cases rx
   cases y with
   | non=>cases ry;exact PySem.EqNone.ne_none_none (qD I q (by simp))
   | bl j=>cases ry;exact PySem.EqNone.ne_none_bool (qD I q (by simp))
   | int j=>obtain⟨t',rfl⟩:=ry;exact PySem.EqNone.ne_none_int (qD I q (by simp))
   | str j=>obtain⟨t',rfl⟩:=ry;exact PySem.EqNone.ne_none_str (qD I q (by simp))
   | _=>exact absurd (show false=true from hs) Bool.false_ne_true
 | bl i=>
   cases rx
   cases y with
   | non=>cases ry;exact PySem.EqNone.ne_bool_none (qD I q (by simp))
   | bl j=>cases ry;exact ne_bool (qD I q (congrArg not Vg))
   | str j=>obtain⟨t',rfl⟩:=ry;exact PySem.EqMixed.ne_bool_str (qD I q (by simp))
   | _=>exact absurd (show false=true from hs) Bool.false_ne_true
 | int i=>
   obtain⟨t,rfl⟩:=rx
   cases y with
   | non=>cases ry;exact PySem.EqNone.ne_int_none (qD I q (by simp))
   | int j=>obtain⟨t',rfl⟩:=ry;exact ne_int (qD I q (congrArg not Xg))
   | str j=>obtain⟨t',rfl⟩:=ry;exact PySem.EqMixed.ne_int_str (qD I q (by simp))
   | _=>exact absurd (show false=true from hs) Bool.false_ne_true
 | str i=>
   obtain⟨t,rfl⟩:=rx
   cases y with
   | non=>cases ry;exact PySem.EqNone.ne_str_none (qD I q (by simp))
   | bl j=>cases ry;exact PySem.EqMixed.ne_str_bool (qD I q (by simp))
   | int j=>obtain⟨t',rfl⟩:=ry;exact PySem.EqMixed.ne_str_int (qD I q (by simp))
   | str j=>obtain⟨t',rfl⟩:=ry;exact ne_str (qD I q (congrArg not Xf))
   | _=>exact absurd (show false=true from hs) Bool.false_ne_true
 | byt i=>
   obtain⟨t,rfl⟩:=rx
   cases y with
   | byt j=>obtain⟨t',rfl⟩:=ry;exact PySem.W.ne_bytes (qD I q (congrArg not Xh))
   | _=>exact absurd (show false=true from hs) Bool.false_ne_true
 | _=>cases y<;>exact absurd (show false=true from hs) Bool.false_ne_true
theorem kx:QF X (compareOp .Lt) (Vq λi j=>.bl (decide (i < j))):=VU λ_ _ _ _ _ _ _ q=>lt_int q
theorem Jp:QF X (compareOp .LtE) (Vq λi j=>.bl (decide (i<=j))):=VU λ_ _ _ _ _ _ _ q=>le_int q
theorem Uv:QF X (compareOp .Gt) (Vq λi j=>.bl (decide (j < i))):=VU λ_ _ _ _ _ _ _ q=>gt_int q
theorem ky:QF X (compareOp .GtE) (Vq λi j=>.bl (decide (j<=i))):=VU λ_ _ _ _ _ _ _ q=>ge_int q
theorem U3:QF X (compareOp .Is) (λx y H Q=>y=.non/\Q (.bl (decide (x=.non))) H):=by
 intro pins s σ H x y v u Q I rx ry h
 obtain⟨rfl,q⟩:=h
 cases ry
 refine is_none_gen (qD I q ?_)
 cases x<;>first
   | (cases rx;rfl)
   | (obtain⟨t,rfl⟩:=rx;rfl)
theorem QF.or {f:Value->Value->Sem Value} {r r':R2} (h:QF X f r) (h':QF X f r'):QF X f (λx y H Q=>r x y H Q\/r' x y H Q):=by
 intro pins s σ H x y v u Q I rx ry q
 rcases q with q | q
 . exact h pins s σ H x y v u Q I rx ry q
 . exact h' pins s σ H x y v u Q I rx ry q
theorem qx (b:Expr) {op:CmpOp} (h:op≠.In:=by decide) (h2:op≠.NotIn:=by decide):behindInMarks op b=false:=by
 have e1:(op==CmpOp.In)=false:=by cases op<;>first | rfl | exact absurd rfl h
 have e2:(op==CmpOp.NotIn)=false:=by cases op<;>first | rfl | exact absurd rfl h2
 cases b<;>simp [behindInMarks,e1,e2]
theorem qM {op:CmpOp} {r:R2} (ho:QF X (compareOp op) r) (ha:JE X a ta) (hb:JE X b tb) (hm:behindInMarks op b=false):JE X (.Compare a [op] [b] pos) (vF r ta tb):=.of (by
 have ha:=ha.to
 have hb:=hb.to
 intro pins s σ H Q I h
 exact wpAny_Compare1 (vz ha hb I h λv u s2 x y H2 I2 rx ry q=>ho pins s2 σ H2 x y v u Q I2 rx ry q) hm)
def Uo (t:TE):TT:=λσ H Q=>t σ H λx H'=>∃k,x=.bl k/\Q k H'
theorem qC {op:CmpOp} {r:R2} (ho:QF X (compareOp op) r) (ha:JE X a ta) (hb:JE X b tb) (hm:behindInMarks op b=false):JT X (.Compare a [op] [b] pos) (Uo (vF r ta tb)):=.of (by
 have ha:=ha.to
 have hb:=hb.to
 intro pins s σ H Q I h
 refine wpAny_isTrue_Compare1 (qO (ha pins s σ H _ I h) λv s1 ⟨x,H1,I1,r1,q1⟩=>qO (hb pins s1 σ H1 _ I1 q1) λu s2 ⟨y,H2,I2,r2,q2⟩=>
   qO (ho pins s2 σ H2 x y v u _ I2 r1 r2 q2) λc s3 ⟨z,H3,I3,r3,k,e,q3⟩=>?_) hm
 subst e
 cases r3
 exact wpAny_truthy_bool ⟨H3,I3,q3⟩)
theorem J9:(sizeLine:Nat) < 2^63:=by rw[sizeLine_eq];decide
theorem qV:QF X (binaryOp .Add) (λx y H Q=>∃i j,x=.str i/\y=.str j/\i.length+j.length<=sizeLine/\Q (.str (i++j)) H):=by
 intro pins s σ H x y v u Q I rx ry h
 obtain⟨i,j,rfl,rfl,hz,q⟩:=h
 obtain⟨t,rfl⟩:=rx
 obtain⟨t',rfl⟩:=ry
 exact add_str (λt' tk=>⟨.str (i++j),H,I.tok _,⟨_,rfl⟩,q⟩) hz
theorem QQ {x:V} {us:List Value} (r:qy [x] us):∃u,us=[u]/\qA x u:=by
 cases r with
 | cons r1 r2=>cases r2;exact⟨_,rfl,r1⟩
theorem YB {x y:V} {us:List Value} (r:qy [x,y] us):∃u w',us=[u,w']/\qA x u/\qA y w':=by
 cases r with
 | cons r1 r2=>
   cases r2 with
   | cons r3 r4=>cases r4;exact⟨_,_,rfl,r1,r3⟩
theorem ZI (hc:X.calm=true):Qr X (.builtin "max") (λxs H Q=>∃i j,xs=[.int i,.int j]/\Q (.int (if j > i then j else i)) H):=by
 intro pins s σ H xs us Q I r h
 obtain⟨i,j,rfl,q⟩:=h
 obtain⟨u,w',rfl,⟨t,rfl⟩,⟨t',rfl⟩⟩:=YB r
 refine max_two_ints (I.ok.hd hc) λh' tk k=>⟨_,H,I.kept k,?_,q⟩
 by_cases hj:j > i
 . rw[if_pos hj,if_pos hj];exact⟨_,rfl⟩
 . rw[if_neg hj,if_neg hj];exact⟨_,rfl⟩
theorem XW (hc:X.calm=true):Qr X (.builtin "min") (λxs H Q=>∃i j,xs=[.int i,.int j]/\Q (.int (if j < i then j else i)) H):=by
 intro pins s σ H xs us Q I r h
 obtain⟨i,j,rfl,q⟩:=h
 obtain⟨u,w',rfl,⟨t,rfl⟩,⟨t',rfl⟩⟩:=YB r
 refine min_two_ints (I.ok.hd hc) λh' tk k=>⟨_,H,I.kept k,?_,q⟩
 by_cases hj:j < i
 . rw[if_pos hj,if_pos hj];exact⟨_,rfl⟩
 . rw[if_neg hj,if_neg hj];exact⟨_,rfl⟩
theorem Jn:Qr X (.type "int") (λxs H Q=>(∃i,xs=[.int i]/\Q (.int i) H)\/∃k,xs=[.bl k]/\Q (.int (if k then 1 else 0)) H):=by
 intro pins s σ H xs us Q I r h
 rcases h with ⟨i,rfl,q⟩ | ⟨k,rfl,q⟩
 . obtain⟨u,rfl,t,rfl⟩:=QQ r
   exact call_int_int ⟨.int i,H,I,⟨_,rfl⟩,q⟩
 . obtain⟨u,rfl,r1⟩:=QQ r
   cases r1
   exact call_int_bool ⟨.int (if k then 1 else 0),H,I.tok _,⟨_,rfl⟩,q⟩
end
end L2
namespace L2
open PySem PySem.Spec PyProof.Rows
structure Yy (h:Heap) (x dx C:Addr) (mA:Str->Option Value):Prop where
 obj:h.get? x=some (PySem.W.instObj C dx)
 ns:h.Ns1 dx mA
 ne:dx≠x
theorem Jh {h:Heap} {dx:Addr} {mA:Str->Option Value} (n:h.Ns1 dx mA):∃od,h.get? dx=some od/\∀name,PySem.W.lookIn name od=some (mA name):=by
 obtain⟨o,es,ep,ho,hd,hk,_,hm⟩:=n
 refine⟨o,ho,λname=>?_⟩
 have e:=hm name
 unfold nsFind findBy at e
 rw[<-Array.find?_toList]at e
 unfold PySem.W.lookIn
 rw[hd]
 dsimp only
 split
 . rename_i y q
   rw[q]at e
   exact congrArg some e
 . rename_i q
   rw[q]at e
   have a:es.toList.any (·.refKey)=false:=by
     rw[List.any_eq_false]
     intro y hy
     obtain⟨z,t,hkey⟩:=hk y (Array.mem_toList_iff.mp hy)
     simp [DictEntry.refKey,hkey]
   have a':¬es.toList.any (·.refKey)=true:=by rw[a];exact Bool.false_ne_true
   rw[if_neg a']
   exact congrArg some e
theorem Yy.look {h:Heap} {x dx C:Addr} {mA:Str->Option Value} (I:Yy h x dx C mA):∃od,PySem.W.InstAt h x (PySem.W.instObj C dx) C (some od)/\∀name,PySem.W.lookIn name od=some (mA name):=
 let ⟨od,ho,hl⟩:=Jh I.ns
 ⟨od,⟨I.obj,rfl,rfl,ho⟩,hl⟩
section
variable {prog:Program} {w:World} {A:Around} {E:Value->Shared->Prop} {s:Shared} {K:PySem.W.Frag} {x dx C f:Addr} {mA:Str->Option Value} {name:Str} {v:Value}
theorem V9 {expr:Bool} {Q:Value->Shared->Prop} (X:K.In s.heap) (I:Yy s.heap x dx C mA) (hg:PySem.W.plainGet K C name=true) (hh:PySem.W.hasDictIn K C=true)
   (ha:PySem.W.findIn K (.ref C) name=some none) (hv:mA name=some v) (hv':PySem.W.handedIn v=true) (h:Q v {s with toks:=s.toks+1}):
   wpAny (model prog w) A (getAttr (.ref x) name expr) Q E s:=by
 obtain⟨od,J,hl⟩:=I.look
 exact PySem.W.get_value X J (PySem.W.plainGet_of hg).1 (PySem.W.findObj_own hh ha rfl (by rw[hl,hv])) hv' h
theorem W6 {pl:Sem Bool} {Q:Value×List Value->Shared->Prop} (X:K.In s.heap) (I:Yy s.heap x dx C mA) (hg:PySem.W.plainGet K C name=true)
   (hf:PySem.W.findIn K (.ref C) name=some (some (.ref f))) (ht:PySem.W.isFn K (.ref f)=true) (hv:mA name=none) (h:Q (.ref f,[.ref x]) s):
   wpAny (model prog w) A (getMethod (.ref x) name pl) Q E s:=by
 obtain⟨od,J,hl⟩:=I.look
 exact PySem.W.method_fn X J (PySem.W.plainGet_of hg).1 (PySem.W.plainGet_of hg).2 hf (beq_iff_eq.mp ht) (by show (PySem.W.lookIn name od).map (·.isSome)=some false;rw[hl,hv];rfl) h
theorem VF {ns:List Str} {Q:Unit->Shared->Prop} (X:K.In s.heap) (I:Yy s.heap x dx C mA)
   (hs:PySem.W.findIn K (.ref C) "__setattr__"=some (some (.builtin "object.__setattr__"))) (hp:PySem.W.plainOver K C=true) (ht:PySem.W.takerIn K C name=some none) (hh:PySem.W.hasDictIn K C=true)
   (hw:PySem.Within mA ns) (hsz:ns.length<=sizeLine)
   (h:∀h',Yy h' x dx C (λy=>if y=name then some v else mA y)->Heap.SameBut dx s.heap h'->Q () {s with heap:=h',toks:=s.toks+2}):
   wpAny (model prog w) A (setAttr (.ref x) name v) Q E s:=by
 obtain⟨od,J,hl⟩:=I.look
 refine PySem.W.set_plain X J hs (PySem.W.osa_open (s:={s with toks:=s.toks+1}) (r:=none) X J hp ht λb=>?_)
 obtain⟨cd,hc,hd'⟩:=PySem.W.any_some hh
 have hx:s.heap.get? x=some ⟨.ref C,some dx,.plain,#[]⟩:=I.obj
 refine wpAny_bind (wpAny_pure (wpAny_bind (wpAny_bind (wpAny_loadPart hx (wpAny_bind (PySem.W.Looks.here (s:={s with toks:=s.toks+1}) (PySem.W.looks_clsIn X hc) ?_))))))
 rw[hd']
 refine wpAny_pure (a:=some dx) (wpAny_bind (wpAny_pure (wpAny_bind ?_)))
 refine wpAny_nsSet1 (s:={s with toks:=s.toks+1}) I.ns λh' hn2 hs2=>?_
 obtain⟨oD,esD,epD,hoD,hdD,hcD⟩:=hn2.count (PySem.Within.cons name v hw)
 refine wpAny_bind (wpAny_lookBehind hoD (by rw[hdD];exact pastItsLine_dict (Nat.le_trans hcD (by rw[List.length_cons];omega))) ?_)
 exact wpAny_pure (h _ ⟨(hs2.2 _ (Ne.symm I.ne)).trans I.obj,hn2,I.ne⟩ hs2)
theorem WM {R:Result->Shared->Prop} {vs:List Value} {kw:List (Str×Value)} (X:K.In s.heap) (hm:PySem.W.makesIn K C=true)
   (hi:PySem.W.findIn K (.ref C) "__init__"=some (some (.ref f))) (hf:PySem.W.typeIn K (.ref f)=some (.type "function"))
   (h:codeAny (model prog w) (A.under (.builtin "type.__call__" ⟨.ref C::vs,kw⟩)) (.call (.ref f) ⟨.ref (s.heap.objs.size+1)::vs,kw⟩) (PySem.W.InitBack (s.heap.objs.size+1) R)
     {s with heap:=(s.heap.push PySem.W.emptyDict).push (PySem.W.instObj C s.heap.objs.size)}):
   codeAny (model prog w) A (.call (.ref C) ⟨vs,kw⟩) R s:=by
 obtain⟨hh,g,d,t,os⟩:=s
 exact PySem.W.make_core (PySem.W.makes_of X hm) (PySem.W.looks_findIn X hi) (λself=>PySem.W.bind_fn X self hf) (.inl rfl) h
end
def QB (f:Str) (v:V):List (Str×V)->List (Str×V)
 | []=>[(f,v)]
 | (g,x)::r=>if g=f then (g,v)::r else (g,x)::QB f v r
theorem Js (f g:Str) (v:V):∀fs:List (Str×V),(QB f v fs).lookup g=if g=f then some v else fs.lookup g
 | []=>by
   show List.lookup g [(f,v)]=_
   by_cases h:g=f
   . have hb:(g==f)=true:=beq_iff_eq.mpr h
     simp only[List.lookup,hb,if_pos h]
   . have hb:(g==f)=false:=beq_eq_false_iff_ne.mpr h
     simp only[List.lookup,hb,if_neg h]
 | (k,x)::r=>by
   have ih:=Js f g v r
   rw[show QB f v ((k,x)::r)=(if k=f then (k,v)::r else (k,x)::QB f v r) from rfl]
   by_cases hk:k=f
   . rw[if_pos hk]
     by_cases h:g=k
     . have hb:(g==k)=true:=beq_iff_eq.mpr h
       simp only[List.lookup,hb,if_pos (h.trans hk)]
     . have hb:(g==k)=false:=beq_eq_false_iff_ne.mpr h
       simp only[List.lookup,hb,if_neg (λe:g=f=>h (e.trans hk.symm))]
   . rw[if_neg hk]
     by_cases h:g=k
     . have hb:(g==k)=true:=beq_iff_eq.mpr h
       simp only[List.lookup,hb,if_neg (λe:g=f=>hk (h.symm.trans e))]
     . have hb:(g==k)=false:=beq_eq_false_iff_ne.mpr h
       simp only[List.lookup,hb]
       exact ih
theorem Ji (f:Str) (v:V):∀fs:List (Str×V),f∈(QB f v fs).map (·.1)/\∀g,g∈fs.map (·.1)->g∈(QB f v fs).map (·.1)
 | []=>⟨by simp [QB],λg h=>by simp at h⟩
 | (k,x)::r=>by
   obtain⟨i1,i2⟩:=Ji f v r
   rw[show QB f v ((k,x)::r)=(if k=f then (k,v)::r else (k,x)::QB f v r) from rfl]
   by_cases hk:k=f
   . rw[if_pos hk]
     subst hk
     exact⟨by simp,λg h=>by simpa using h⟩
   . rw[if_neg hk]
     refine⟨?_,λg h=>?_⟩
     . rw[List.map_cons]
       exact List.mem_cons_of_mem _ i1
     . rw[List.map_cons]at h ⊢
       rcases List.mem_cons.mp h with e | e
       . exact List.mem_cons.mpr (.inl e)
       . exact List.mem_cons_of_mem _ (i2 g e)
theorem Jt (f:Str) (v:V):∀fs:List (Str×V),(QB f v fs).length<=fs.length+1
 | []=>by simp [QB]
 | (k,x)::r=>by
   have ih:=Jt f v r
   rw[show QB f v ((k,x)::r)=(if k=f then (k,v)::r else (k,x)::QB f v r) from rfl]
   by_cases hk:k=f
   . rw[if_pos hk,List.length_cons,List.length_cons];omega
   . rw[if_neg hk,List.length_cons,List.length_cons];omega
theorem Qc.some_of {v:V} {o:Option Value} (r:Qc (some v) o):∃u,o=some u/\qA v u:=by
 cases o with
 | none=>exact(show False from r).elim
 | some u=>exact⟨u,rfl,r⟩
theorem Qc.none_of {o:Option Value} (r:Qc none o):o=none:=by
 cases o with
 | none=>rfl
 | some u=>exact(show False from r).elim
theorem ZH {v:V} {u:Value} (r:qA v u):PySem.W.handedIn u=true:=by
 cases v with
 | non=>cases (show u=Value.none from r);rfl
 | bl b=>cases (show u=Value.bool b from r);rfl
 | int i=>obtain⟨t,e⟩:=(show ∃t,u=Value.int i t from r);cases e;rfl
 | str x=>obtain⟨t,e⟩:=(show ∃t,u=Value.str x t from r);cases e;rfl
 | byt b=>obtain⟨t,e⟩:=(show ∃t,u=Value.bytes b t from r);cases e;rfl
 | flt b=>obtain⟨t,e⟩:=(show ∃t,u=Value.float b t from r);cases e;rfl
 | ref a=>cases (show u=Value.ref a from r);rfl
 | ty n=>cases (show u=Value.type n from r);rfl
section
variable {P:Program} {w:World} {H H':Hp} {h h':Heap} {a C dx:Addr} {fs fs':List (Str×V)}
theorem JL (hok:Qa P w H h) (e:H a=some (.ins C dx fs)):∃mA,Yy h a dx C mA/\(∀f,Qc (fs.lookup f) (mA f))/\PySem.Within mA (fs.map (·.1))/\fs.length<=1000/\H dx=some (.own a):=by
 obtain⟨d,z,ne,ob,mA,n,r,q⟩:=(show qw P w H h a (.ins C dx fs) from hok a _ e)
 exact⟨mA,⟨ob,n,ne⟩,r,q,z,d⟩
end
structure zr (K:PySem.W.Frag) (C:Addr):Prop where
 pg:PySem.W.plainGet K C Str.empty=true
 hd:PySem.W.hasDictIn K C=true
 po:PySem.W.plainOver K C=true
 sa:PySem.W.findIn K (.ref C) "__setattr__"=some (some (.builtin "object.__setattr__"))
theorem zr.get {K:PySem.W.Frag} {C:Addr} (c:zr K C) (f:Str):PySem.W.plainGet K C f=true:=c.pg
def q5 (K:PySem.W.Frag) (C:Addr) (f:Str):Prop:=PySem.W.findIn K (.ref C) f=some none
theorem q5.taker {K:PySem.W.Frag} {C:Addr} {f:Str} (n:q5 K C f):PySem.W.takerIn K C f=some none:=by
 unfold PySem.W.takerIn
 rw[show PySem.W.findIn K (.ref C) f=some none from n]
 rfl
structure Con (K:PySem.W.Frag) (C:Addr) (f:Str) (v:V) (u:Value):Prop where
 at_:PySem.W.findIn K (.ref C) f=some (some u)
 rel:qA v u
 get:PySem.W.specialIn K u "__get__"=some none
 cp:PySem.W.copiedNames.contains f=false
structure XZ (K:PySem.W.Frag) (C:Addr) (m:Str) (f:Addr):Prop where
 at_:PySem.W.findIn K (.ref C) m=some (some (.ref f))
 fn:PySem.W.isFn K (.ref f)=true
 kp:PySem.W.keepIn K (.ref f)=true
section
variable {X:Cx} {pins:List (Addr×Obj)} {σ:St} {H:Hp} {s:Shared} {a C dx:Addr} {fs:List (Str×V)} {f:Str} {v:V} {A:Around} {E:Value->Shared->Prop}
theorem Yu {b:Bool} {Q:Value->Shared->Prop} (I:qp X pins σ H s) (e:H a=some (.ins C dx fs)) (c:zr X.K C) (n:q5 X.K C f) (l:fs.lookup f=some v)
   (h:∀u s',qp X pins σ H s'->qA v u->Q u s'):wpAny (model X.prog X.w) A (getAttr (.ref a) f b) Q E s:=by
 obtain⟨mA,O,r,_,_,_⟩:=JL I.hok e
 obtain⟨u,hu,ru⟩:=Qc.some_of (v:=v) (o:=mA f) (by rw[<-l];exact r f)
 exact V9 I.kIn O (c.get f) c.hd n hu (ZH ru) (h u _ (I.tok _) ru)
theorem QO {m:Str} {g:Addr} {pl:Sem Bool} {Q:Value×List Value->Shared->Prop} (I:qp X pins σ H s) (e:H a=some (.ins C dx fs)) (c:zr X.K C) (k:XZ X.K C m g) (l:fs.lookup m=none)
   (h:Q (.ref g,[.ref a]) s):wpAny (model X.prog X.w) A (getMethod (.ref a) m pl) Q E s:=by
 obtain⟨mA,O,r,_,_,_⟩:=JL I.hok e
 have hn:mA m=none:=Qc.none_of (by rw[<-l];exact r m)
 exact W6 I.kIn O (c.get m) k.at_ k.fn hn h
theorem Yh {y:V} {u:Value} {Q:Unit->Shared->Prop} (I:qp X pins σ H s) (e:H a=some (.ins C dx fs)) (c:zr X.K C) (n:q5 X.K C f) (hl:fs.length < 1000) (ry:qA y u)
   (h:∀s',qp X pins σ (qr H a (.ins C dx (QB f y fs))) s'->Q () s'):wpAny (model X.prog X.w) A (setAttr (.ref a) f u) Q E s:=by
 obtain⟨mA,O,r,wi,_,ho⟩:=JL I.hok e
 have hz:(fs.map (·.1)).length<=sizeLine:=by rw[List.length_map,sizeLine_eq];omega
 refine VF I.kIn O c.sa c.po n.taker c.hd wi hz λh' O' sb=>h _ ?_
 have hd:∃o,h'.get? dx=some o:=let ⟨o,_,_,e',_⟩:=O'.ns;⟨o,e'⟩
 refine I.write (x:=a) (e:=dx) (by rw[e];exact True.intro) (.inr ho) (λb q hb z=>(sb.2 b hb).trans z) hd ?_
 refine⟨by rw[qg O.ne];exact ho,?_,O.ne,O'.obj,_,O'.ns,λg=>?_,λg hg=>?_⟩
 . have:=Jt f y fs;omega
 . show Qc ((QB f y fs).lookup g) (if g=f then some u else mA g)
   rw[Js]
   by_cases q:g=f
   . rw[if_pos q,if_pos q];exact ry
   . rw[if_neg q,if_neg q];exact r g
 . by_cases q:g=f
   . rw[q];exact(Ji f y fs).1
   . refine(Ji f y fs).2 g (wi g λz=>hg ?_)
     show (if g=f then some u else mA g)=none
     rw[if_neg q];exact z
theorem qp.made (I:qp X pins σ H s):qp X pins σ (qr (qr H s.heap.objs.size (.own (s.heap.objs.size+1))) (s.heap.objs.size+1) (.ins C s.heap.objs.size []))
   {s with heap:=(s.heap.push PySem.W.emptyDict).push (PySem.W.instObj C s.heap.objs.size)}:=by
 have e1:(s.heap.push PySem.W.emptyDict).get? s.heap.objs.size=some PySem.W.emptyDict:=Heap.get?_push_size s.heap rfl
 have e2:((s.heap.push PySem.W.emptyDict).push (PySem.W.instObj C s.heap.objs.size)).get? (s.heap.objs.size+1)=some (PySem.W.instObj C s.heap.objs.size):=by
   have:=Heap.get?_push_size (s.heap.push PySem.W.emptyDict) (o:=PySem.W.instObj C s.heap.objs.size) rfl
   rwa [Heap.size_push]at this
 have e3:(s.heap.push PySem.W.emptyDict).Ns s.heap.objs.size (λ_=>none):=⟨PySem.W.emptyDict,#[],_,e1,rfl,(λe he=>absurd he (by simp)),λ_=>rfl⟩
 have I1:=I.laid (a:=s.heap.objs.size) (o:=.own (s.heap.objs.size+1)) (h':=s.heap.push PySem.W.emptyDict) (t':=s.toks) (λb u q=>Heap.get?_push_of_some _ q) (Nat.le_refl _) ⟨_,e1⟩
 refine I1.laid (a:=s.heap.objs.size+1) (o:=.ins C s.heap.objs.size []) (t':=s.toks) (λb u q=>Heap.get?_push_of_some _ q) (Nat.le_of_eq (Heap.size_push _ _)) ?_
 have ne:s.heap.objs.size≠s.heap.objs.size+1:=Nat.ne_of_lt (Nat.lt_succ_self _)
 refine⟨by rw[qg ne,qe],Nat.zero_le _,ne,e2,λ_=>none,(Heap.Ns1.of_empty e3).at λo q=>Heap.get?_push_of_some _ q,λ_=>True.intro,λy hy=>absurd rfl hy⟩
theorem Xj {prog:Program} {w:World} {env:Env} {e:Expr} {f:Str} {pos:Pos} {s:Shared} {Q:Value->Shared->Prop} (hb:attributeBase e f env (eval e env)=eval e env)
   (h:wpAny (model prog w) A (eval e env) (λo s₁=>wpAny (model prog w) A (getAttr o f true) Q E s₁) E s):wpAny (model prog w) A (eval (.Attribute e f pos) env) Q E s:=
 Attribute_any_ h (by rw[arm_eval_Attribute,hb])
end
def yp (K:PySem.W.Frag) (ta:TE) (f:Str):TE:=λσ H Q=>ta σ H λx H1=>∃a C dx fs v,x=.ref a/\H1 a=some (.ins C dx fs)/\zr K C/\q5 K C f/\fs.lookup f=some v/\Q v H1
def yA (K:PySem.W.Frag) (ta tv:TE) (f:Str):TS:=λD σ H=>tv σ H λy H1=>ta σ H1 λx H2=>∃a C dx fs,x=.ref a/\H2 a=some (.ins C dx fs)/\zr K C/\q5 K C f/\fs.length < 1000/\
 D.nx σ (qr H2 a (.ins C dx (QB f y fs)))
section
variable {X:Cx} {o e value:Expr} {f:Str} {pos pos' tpos:Pos} {ta tv:TE}
theorem Qo (he:JE X e ta) (hb:attributeBase e f X.env (eval e X.env)=eval e X.env):JE X (.Attribute e f pos) (yp X.K ta f):=.of (by
 have he:=he.to
 intro pins s σ H Q I h
 refine Xj hb (qO (he pins s σ H _ I h) λu s1 ⟨x,H1,I1,rx,a,C,dx,fs,v,ex,ea,c,n,l,q⟩=>?_)
 subst ex
 obtain rfl:u=Value.ref a:=rx
 exact Yu I1 ea c n l λu' s2 I2 ru=>⟨v,H1,I2,ru,q⟩)
theorem WS (ha:JE X o ta) (hv:JE X value tv) (hs:swapsWith value (some (.Attribute o f pos')) pos.line X.env=pure false):JS X (.Assign [.Attribute o f pos'] value pos) (yA X.K ta tv f):=.of (by
 have ha:=ha.to
 have hv:=hv.to
 intro pins s σ H D I h
 refine plainObj_wpAny_Assign_Attribute (qO (hv pins s σ H _ I h) λu s1 ⟨y,H1,I1,ry,q⟩=>qO (ha pins s1 σ H1 _ I1 q) λov s2 ⟨x,H2,I2,rx,a,C,dx,fs,ex,ea,c,n,l,q2⟩=>?_) hs
 subst ex
 obtain rfl:ov=Value.ref a:=rx
 exact Yh I2 ea c n l ry λs3 I3=>⟨σ,_,I3,q2⟩)
end
section
variable {X:Cx} {pins:List (Addr×Obj)} {σ:St} {H:Hp} {s:Shared} {A:Around} {E:Value->Shared->Prop} {Q:Value->Shared->Prop} {c:Value} {b:Bool}
inductive TyOf (K:PySem.W.Frag) (H:Hp):V->Value->Prop where
 | non:TyOf K H .non (.type "NoneType")
 | bl (x:Bool):TyOf K H (.bl x) (.type "bool")
 | int (i:Int):TyOf K H (.int i) (.type "int")
 | str (x:Str):TyOf K H (.str x) (.type "str")
 | flt (x:UInt64):TyOf K H (.flt x) (.type "float")
 | lst {a:Addr} {xs:List V} (e:H a=some (.lst xs)):TyOf K H (.ref a) (.type "list")
 | frz {a:Addr} {o:Obj} {xs:List V} (e:H a=some (.frz o (.lst xs))):TyOf K H (.ref a) (.type "list")
 | tup {a:Addr} {xs:List V} (e:H a=some (.tup xs)):TyOf K H (.ref a) (.type "tuple")
 | dK {a:Addr} {kvs:List (qU×V)} (e:H a=some (.dK kvs)):TyOf K H (.ref a) (.type "dict")
 | dT {a:Addr} {kvs:List (List qU×V)} (e:H a=some (.dT kvs)):TyOf K H (.ref a) (.type "dict")
 | ins {a C dx:Addr} {fs:List (Str×V)} (e:H a=some (.ins C dx fs)) (cl:zr K C) (ha:PySem.W.findIn K (.ref C) "__class__"=some (some (.builtin "object.__class__")))
     (hn:PySem.W.specialIn K (.builtin "object.__class__") "__get__"=some (some (.builtin "getset_descriptor.__get__"))) (htk:PySem.W.takesIn K (.builtin "object.__class__")=some true)
     (hm:PySem.W.mroIn K C (.type "object")=some true):TyOf K H (.ref a) (.ref C)
theorem XL {x:V} {u t:Value} (I:qp X pins σ H s) (rx:qA x u) (ty:TyOf X.K H x t) (e:PySem.W.kitOne X.K t c=some b) (h:∀tk,Q (.bool b) {s with toks:=tk}):
   wpAny (model X.prog X.w) A (call (.builtin "isinstance") [u,c]) Q E s:=by
 cases ty with
 | non=>cases (show u=Value.none from rx);exact PySem.W.kia_one PySem.W.kitx_none I.kIn True.intro e (λz=>nomatch z) h
 | bl y=>cases (show u=Value.bool y from rx);exact PySem.W.kia_one PySem.W.kitx_bool I.kIn True.intro e (λz=>nomatch z) h
 | int i=>obtain⟨t,q⟩:=(show ∃t,u=Value.int i t from rx);cases q;exact PySem.W.kia_one PySem.W.kitx_int I.kIn True.intro e (λz=>nomatch z) h
 | str y=>obtain⟨t,q⟩:=(show ∃t,u=Value.str y t from rx);cases q;exact PySem.W.kia_one PySem.W.kitx_str I.kIn True.intro e (λz=>nomatch z) h
 | flt y=>obtain⟨t,q⟩:=(show ∃t,u=Value.float y t from rx);cases q;exact PySem.W.kia_one PySem.W.kitx_float I.kIn True.intro e (λz=>nomatch z) h
 | @lst a xs ea=>
   cases (show u=Value.ref a from rx)
   obtain⟨_,_,n,_,h1⟩:=(show qw X.prog X.w H s.heap a (.lst xs) from I.hok a _ ea)
   exact PySem.W.kia_one PySem.W.kitx_list I.kIn ⟨_,h1,rfl⟩ e (λz=>nomatch z) h
 | @frz a ob xs ea=>
   cases (show u=Value.ref a from rx)
   obtain⟨_,_,_,n,_,h1⟩:=(show qw X.prog X.w H s.heap a (.frz ob (.lst xs)) from I.hok a _ ea)
   exact PySem.W.kia_one PySem.W.kitx_list I.kIn ⟨_,h1,rfl⟩ e (λz=>nomatch z) h
 | @tup a xs ea=>
   cases (show u=Value.ref a from rx)
   obtain⟨_,_,_,p⟩:=(show qw X.prog X.w H s.heap a (.tup xs) from I.hok a _ ea)
   obtain⟨o,h1,h2,_⟩:=p
   exact PySem.W.kia_one PySem.W.kitx_tuple I.kIn ⟨o,h1,h2⟩ e (λz=>nomatch z) h
 | @dK a kvs ea=>
   cases (show u=Value.ref a from rx)
   obtain⟨_,_,vs,_,p⟩:=(show qw X.prog X.w H s.heap a (.dK kvs) from I.hok a _ ea)
   obtain⟨o,es,ep,h1,h2,_⟩:=p
   exact PySem.W.kia_one PySem.W.kitx_dict I.kIn ⟨o,h1,h2.1⟩ e (λz=>nomatch z) h
 | @dT a kvs ea=>
   cases (show u=Value.ref a from rx)
   obtain⟨_,_,xs,_,o,es,ep,h1,h2,_⟩:=(show qw X.prog X.w H s.heap a (.dT kvs) from I.hok a _ ea)
   exact PySem.W.kia_one PySem.W.kitx_dict I.kIn ⟨o,h1,h2.1⟩ e (λz=>nomatch z) h
 | @ins a C dx fs ea cl ha hn htk hm=>
   cases (show u=Value.ref a from rx)
   obtain⟨mA,O,_⟩:=JL I.hok ea
   obtain⟨od,J,_⟩:=O.look
   exact PySem.W.kia_one (PySem.W.kitx_own (cl.get _) cl.hd ha hn htk hm) I.kIn J e (λz=>nomatch z) h
end
end L2
namespace L2
open PySem PySem.Spec PyProof.Rows
structure qI (k:Nat) (A:Around):Prop where
 hd:A.handled=none
 dp:A.depth+3*k+5 < recursionLimit
 un:A.units+16*k+200 < cLine
 gd:A.guards=some []
theorem qI.mono {j k:Nat} {A:Around} (r:qI k A) (h:j<=k):qI j A:=⟨r.hd,by have:=r.dp;omega,by have:=r.un;omega,r.gd⟩
theorem qI.deeper {k:Nat} {A:Around} (r:qI (k+1) A) (env:Env):qI k (A.deeper env):=
 ⟨r.hd,by have:=r.dp;show A.depth+1+3*k+5 < _;omega,by have:=r.un;show A.units+3+16*k+200 < _;omega,r.gd⟩
theorem Yo {A:Around} {C:Addr} {us:List Value} {kw:List (Str×Value)}:(A.under (.builtin "type.__call__" ⟨.ref C::us,kw⟩)).depth=A.depth+1:=by
 first | rfl | simp [Around.under,Code.weight,Code.isCreation,Code.isGuard,Code.isCaller,Code.frames,Code.isFrame,guardIds]
theorem Yn {A:Around} {C:Addr} {us:List Value} {kw:List (Str×Value)}:(A.under (.builtin "type.__call__" ⟨.ref C::us,kw⟩)).units=A.units+1:=by
 first | rfl | simp [Around.under,Code.cUnits,Code.frames,Code.isFrame]
theorem qI.make {k:Nat} {A:Around} (r:qI (k+1) A) (C:Addr) (us:List Value) (kw:List (Str×Value)):qI k (A.under (.builtin "type.__call__" ⟨.ref C::us,kw⟩)):=
 ⟨r.hd,by have:=r.dp;rw[Yo];omega,by have:=r.un;rw[Yn];omega,(by have:=r.gd;first | exact this | simpa [Around.under,Code.isGuard,guardIds] using this)⟩
theorem qI.depth {k:Nat} {A:Around} (r:qI k A):A.depth < recursionLimit:=by have:=r.dp;omega
theorem qI.units {k:Nat} {A:Around} (r:qI k A):A.units+64 < cLine:=by have:=r.un;omega
def zw:TA:=λ_ H Q=>Q [] H
def Wb (ta:TE) (tr:TA):TA:=λσ H Q=>ta σ H λx H1=>tr σ H1 λxs H2=>Q (x::xs) H2
section
variable {X:Cx} {e:Expr} {es:List Expr} {te:TE} {t:TA} {pos:Pos}
theorem qf:JA X [] zw:=.of (by
 exact λ_ _ _ _ H Q I h=>Calls.spliced_nil ⟨[],H,I,.nil,h⟩)
theorem qd (ha:JE X e te) (hr:JA X es t) (hs:starEach (e::es) X.env=(false,eval e X.env)::starEach es X.env:=by rfl):JA X (e::es) (Wb te t):=.of (by
 have ha:=ha.to
 have hr:=hr.to
 intro pos pins s σ H Q I h
 rw[hs]
 show wpAny _ _ (spliced ((false,eval e X.env)::backTo pos (starEach es X.env))) _ _ s
 refine Calls.spliced_cons (qO (ha pins s σ H _ I h) λu s1 ⟨x,H1,I1,r1,q1⟩=>?_)
 exact qO (hr pos pins s1 σ H1 _ I1 q1) λus s2 ⟨xs,H2,I2,r2,q2⟩=>⟨x::xs,H2,I2,.cons r1 r2,q2⟩)
def yg (t:TA):TE:=λσ H Q=>t σ H λxs H1=>xs.length<=sizeLine/\∀p,H1 p=none->Q (.ref p) (qr H1 p (.tup xs))
def yk (t:TA):TE:=λσ H Q=>t σ H λxs H1=>xs.length<=sizeLine/\∀p,H1 p=none->Q (.ref p) (qr H1 p (.lst xs))
theorem jM {x1} (h:JA X es t):JE X (.Tuple es x1 pos) (yg t):=.of (by
 have h:=h.to
 intro pins s σ H Q I hq
 refine wpAny_Tuple_spliced (qO (h pos pins s σ H _ I hq) λus s1 ⟨xs,H1,I1,r,z,q⟩=>⟨by rw[<-r.length];exact z,?_⟩)
 have hf:H1 s1.heap.objs.size=none:=I1.hok.fresh (Nat.le_refl _)
 refine⟨.ref s1.heap.objs.size,qr H1 s1.heap.objs.size (.tup xs),I1.laid (t':=s1.toks) (λb u e=>Heap.get?_push_of_some _ e) (Nat.le_refl _) ?_,rfl,q _ hf⟩
 exact⟨z,us,r,⟨_,Heap.get?_push_size _ rfl,rfl,_,rfl⟩⟩)
theorem jc (h:JA X es t):JE X (.List es pos) (yk t):=.of (by
 have h:=h.to
 intro pins s σ H Q I hq
 refine wpAny_List_spliced (qO (h pos pins s σ H _ I hq) λus s1 ⟨xs,H1,I1,r,z,q⟩=>⟨by rw[<-r.length];exact z,?_⟩)
 have hf:H1 s1.heap.objs.size=none:=I1.hok.fresh (Nat.le_refl _)
 refine⟨.ref s1.heap.objs.size,qr H1 s1.heap.objs.size (.lst xs),I1.laid (t':=s1.toks) (λb u e=>Heap.get?_push_of_some _ e) (Nat.le_refl _) ?_,rfl,q _ hf⟩
 exact⟨z,us,0,r,Heap.get?_push_size _ rfl⟩)
end
abbrev Sp:=List V->Hp->VK->XK->Prop
abbrev Zm:=List Env->Hp->Shared->XK->Value->Shared->Prop
structure z5 (P:Program) (w:World) (K:PySem.W.Frag) (mg:Str->Option Value) (base:Heap) (A:Around) (outer:List Env) (s:Shared) (H:Hp):Prop where
 frames:A.frames=some outer
 mod:Mod K mg base
 bs:∀b o,base.get? b=some o->s.heap.get? b=some o/\H b=none
 bsz:base.objs.size<=s.heap.objs.size
 funs:s.heap.FunFrames base outer
 frf:∀b∈Jk outer,H b=none
 hok:Qa P w H s.heap
 bare:AllBare s.gens
def CE (outer:List Env) (P:Program) (w:World) (H:Hp) (s:Shared) (Q:VK) (u:Value) (s':Shared):Prop:=
 ∃v H',s'.os=s.os/\AllBare s'.gens/\Un (Jk outer) [] H H' s.heap s'.heap/\Qa P w H' s'.heap/\qA v u/\Q v H'
def CR (CX:Zm) (outer:List Env) (P:Program) (w:World) (H:Hp) (s:Shared) (Q:VK) (E:XK) (r:Result) (s':Shared):Prop:=
 match r with
 | .ok (.ret u)=>CE outer P w H s Q u s'
 | .ok _=>False
 | .error e=>CX outer H s E e s'
structure qo (P:Program) (w:World) (K:PySem.W.Frag) (mg:Str->Option Value) (base:Heap) (CX:Zm) (k:Nat) (f:Addr) (fd:FuncData) (ps:List Str) (sp:Sp):Prop where
 len:∀vs H Q E,sp vs H Q E->vs.length=ps.length
 run:∀(A:Around) (outer:List Env) (s:Shared) (H:Hp) (args:Args) (us:List Value) (vs:List V) (Q:VK) (E:XK),qI k A->z5 P w K mg base A outer s H->BindsTo s fd args (ps.zip us)->qy vs us->sp vs H Q E->
   codeAny (model P w) A (.call (.ref f) args) (CR CX outer P w H s Q E) s
theorem qo.imp {P:Program} {w:World} {K:PySem.W.Frag} {mg:Str->Option Value} {base:Heap} {CX:Zm} {k:Nat} {f:Addr} {fd:FuncData} {ps:List Str} {sp sp':Sp} (F:qo P w K mg base CX k f fd ps sp)
   (h:∀vs H Q E,sp' vs H Q E->sp vs H Q E):qo P w K mg base CX k f fd ps sp':=
 ⟨λvs H Q E q=>F.len vs H Q E (h _ _ _ _ q),λA outer s H args us vs Q E hr he hb hv hs=>F.run A outer s H args us vs Q E hr he hb hv (h _ _ _ _ hs)⟩
theorem z5.make {P:Program} {w:World} {K:PySem.W.Frag} {mg:Str->Option Value} {base:Heap} {A:Around} {outer:List Env} {s:Shared} {H:Hp} (e:z5 P w K mg base A outer s H) (C:Addr) (us:List Value) (kw:List (Str×Value)):
   z5 P w K mg base (A.under (.builtin "type.__call__" ⟨.ref C::us,kw⟩)) outer s H:=⟨by first | exact e.frames | (simpa [Around.under,Code.envs,Code.isFrame,pushEnvs] using e.frames),e.mod,e.bs,e.bsz,e.funs,e.frf,e.hok,e.bare⟩
section
variable {X:Cx} {pins:List (Addr×Obj)} {σ:St} {H:Hp} {s s':Shared}
theorem qp.env0 (I:qp X pins σ H s):z5 X.prog X.w X.K X.mg X.base X.A X.stack s H:=
 ⟨I.ok.frames,I.ok.mod,I.bs,Nat.le_trans I.ok.bsz I.sz,I.stack,I.stkFree,I.hok,I.bare⟩
theorem qp.after {Q:VK} {u:Value} (I:qp X pins σ H s) (h:CE X.stack X.prog X.w H s Q u s'):EP X pins σ Q u s':=by
 obtain⟨v,H',os,bare,un,hok,r,q⟩:=h
 obtain⟨hh,g,d,t,os'⟩:=s'
 obtain rfl:os'=s.os:=os
 exact⟨v,H',I.call (h':=hh) (g':=g) (d':=d) (t':=t) (ch:=[]) un hok bare (λb z=>absurd z (by simp)),r,q⟩
end
def YE (sp:Sp) (dvs:List V) (E:XK) (t:TA):TE:=λσ H Q=>t σ H λvs H1=>sp (vs++dvs) H1 Q E
def Wa (C:Addr) (m:Str) (sp:Sp) (dvs:List V) (E:XK) (ta:TE) (t:TA):TE:=λσ H Q=>ta σ H λx H1=>∃a dx fs,x=.ref a/\H1 a=some (.ins C dx fs)/\fs.lookup m=none/\
 t σ H1 λvs H2=>sp (x::(vs++dvs)) H2 Q E
def vR (C:Addr) (sp:Sp) (dvs:List V) (E:XK) (t:TA):TE:=λσ H Q=>t σ H λvs H1=>∀x dx,H1 x=none->H1 dx=none->dx≠x->
 sp (.ref x::(vs++dvs)) (qr (qr H1 dx (.own x)) x (.ins C dx [])) (λv H2=>v=.non/\Q (.ref x) H2) E
def qX (K:PySem.W.Frag) (fd:FuncData) (ps:List Str) (ds:List Value):Prop:=
 ∀(s:Shared) (us:List Value),K.In s.heap->(us++ds).length=ps.length->BindsTo s fd ⟨us,[]⟩ (ps.zip (us++ds))
theorem qX.all {K:PySem.W.Frag} {fd:FuncData} {ps:List Str} (h:∀us:List Value,us.length=ps.length->bindArgs fd ⟨us,[]⟩=pure (ps.zip us)):qX K fd ps []:=λs us _ hl=>by
 rw[List.append_nil]at hl ⊢
 exact .of_eq (h us hl)
def jo (CX:Zm) (X:Cx) (E:XK):Prop:=∀(pins:List (Addr×Obj)) (σ:St) (H:Hp) (s:Shared) (e:Value) (s':Shared),qp X pins σ H s->CX X.stack H s E e s'->X.xe e s'
section
variable {X:Cx} {CX:Zm} {k:Nat} {f C:Addr} {fd:FuncData} {ps:List Str} {sp:Sp} {dvs:List V} {ds:List Value} {E:XK} {x m:Str} {p pos apos:Pos} {e o:Expr} {es:List Expr} {ta:TE} {t:TA}
theorem J4 {pins:List (Addr×Obj)} {σ:St} {H:Hp} {s:Shared} {Q:VK} {us:List Value} {vs:List V} (F:qo X.prog X.w X.K X.mg X.base CX k f fd ps sp) (hr:qI k X.A) (hb:qX X.K fd ps ds) (hd:qy dvs ds) (hx:jo CX X E)
   (I:qp X pins σ H s) (r:qy vs us) (h:sp (vs++dvs) H Q E):wpAny (model X.prog X.w) X.A (call (.ref f) us) (EP X pins σ Q) X.xe s:=by
 have r2:qy (vs++dvs) (us++ds):=r.append hd
 have hl:(us++ds).length=ps.length:=by rw[<-r2.length];exact F.len _ _ _ _ h
 refine wpAny_call (codeAny_mono (F.run X.A X.stack s H ⟨us,[]⟩ (us++ds) (vs++dvs) Q E hr I.env0 (hb s us I.kIn hl) r2 h) λr s' hq=>?_)
 cases r with
 | error e=>exact hx pins σ H s e s' I hq
 | ok fl=>
   cases fl with
   | ret u=>exact I.after hq
   | next=>exact False.elim hq
   | brk=>exact False.elim hq
   | cont=>exact False.elim hq
theorem YX (F:qo X.prog X.w X.K X.mg X.base CX k f fd ps sp) (hr:qI k X.A) (hg:Gl X x) (hm:X.mg x=some (.ref f)) (hk:PySem.W.keepIn X.K (.ref f)=true) (hb:qX X.K fd ps ds) (hd:qy dvs ds) (hx:jo CX X E)
   (ha:PA X (e::es) t) (hdb:(x==("__debug__":Str))=false:=by decide) (he:starEach (e::es) X.env=(false,eval e X.env)::starEach es X.env:=by rfl) (hpl:(backTo pos (starEach es X.env)).any (·.1)=false:=by rfl):
   PE X (.Call (.Name x p) (e::es) [] pos) (YE sp dvs E t):=by
 intro pins s σ H Q I h
 refine wpAny_Call_Name_kw (Q1 I hg hm ?_ hdb)
 refine PySem.W.callWith_K (h₀:=X.base) I.ok.mod.kin hk (qO (ha pos pins s σ H _ I h) λus s1 ⟨vs,H1,I1,r,q⟩=>⟨I1.kIn,?_⟩) he hpl
 exact J4 F hr hb hd hx I1 r q
theorem zO (F:qo X.prog X.w X.K X.mg X.base CX k f fd ps sp) (hr:qI k X.A) (hg:Gl X x) (hm:X.mg x=some (.ref f)) (hk:PySem.W.keepIn X.K (.ref f)=true) (hb:qX X.K fd ps ds) (hd:qy dvs ds) (hx:jo CX X E) (hdb:(x==("__debug__":Str))=false:=by decide):JE X (.Call (.Name x p) [] [] pos) (YE sp dvs E zw):=.of (by
 intro pins s σ H Q I h
 refine wpAny_Call_Name_kw (Q1 I hg hm ?_ hdb)
 exact PySem.W.callWith_K0 I.kIn hk (J4 (us:=[]) F hr hb hd hx I .nil h))
theorem Wz {pl:Sem Bool} (he:PE X o ta) (c:zr X.K C) (hm:XZ X.K C m f) (F:qo X.prog X.w X.K X.mg X.base CX k f fd ps sp) (hr:qI k X.A) (hb:qX X.K fd ps ds) (hd:qy dvs ds) (hx:jo CX X E)
   (ht:eval (.Call (.Attribute o m apos) [] [] pos) X.env=(do
     let ov <-eval o X.env
     standAt apos.atName
     let (f,first) <-holding [ov] (getMethod ov m pl)
     callWith pos f first (backTo pos (starEach [] X.env)) (backToKw pos (keywordEach [] X.env))):=by rfl):
   PE X (.Call (.Attribute o m apos) [] [] pos) (Wa C m sp dvs E ta zw):=by
 intro pins s σ H Q I h
 refine PySem.W.methodCall_KW (pl:=pl) (qO (he pins s σ H _ I h) λu s1 ⟨x,H1,I1,rx,a,dx,fs,ex,ea,l,q⟩=>?_) ht
 subst ex
 obtain rfl:u=Value.ref a:=rx
 refine QO I1 ea c hm l ?_
 exact PySem.W.callWith_K0 (first:=[.ref a]) I1.kIn hm.kp (J4 (us:=[.ref a]) (vs:=[.ref a]) F hr hb hd hx I1 (.cons rfl .nil) q)
theorem WW {pl:Sem Bool} (he:JE X o ta) (c:zr X.K C) (hm:XZ X.K C m f) (F:qo X.prog X.w X.K X.mg X.base CX k f fd ps sp) (hr:qI k X.A) (hb:qX X.K fd ps ds) (hd:qy dvs ds) (hx:jo CX X E) (ht:eval (.Call (.Attribute o m apos) [] [] pos) X.env=(do
     let ov <-eval o X.env
     standAt apos.atName
     let (f,first) <-holding [ov] (getMethod ov m pl)
     callWith pos f first (backTo pos (starEach [] X.env)) (backToKw pos (keywordEach [] X.env))):=by rfl):JE X (.Call (.Attribute o m apos) [] [] pos) (Wa C m sp dvs E ta zw):=.of (Wz he.to c hm F hr hb hd hx ht)
structure Mk (K:PySem.W.Frag) (C f:Addr):Prop where
 makes:PySem.W.makesIn K C=true
 init:PySem.W.findIn K (.ref C) "__init__"=some (some (.ref f))
 fn:PySem.W.isFn K (.ref f)=true
 kp:PySem.W.keepIn K (.ref C)=true
theorem Ws {pins:List (Addr×Obj)} {σ:St} {H:Hp} {s:Shared} {Q:VK} {us:List Value} {vs:List V} (M:Mk X.K C f) (F:qo X.prog X.w X.K X.mg X.base CX k f fd ps sp) (hr:qI (k+1) X.A) (hb:qX X.K fd ps ds) (hd:qy dvs ds)
   (hx:jo CX X E) (I:qp X pins σ H s) (r:qy vs us)
   (h:∀x dx,H x=none->H dx=none->dx≠x->sp (.ref x::(vs++dvs)) (qr (qr H dx (.own x)) x (.ins C dx [])) (λv H2=>v=.non/\Q (.ref x) H2) E):
   wpAny (model X.prog X.w) X.A (call (.ref C) us) (EP X pins σ Q) X.xe s:=by
 have hq:=h (s.heap.objs.size+1) s.heap.objs.size (I.hok.fresh (Nat.le_succ _)) (I.hok.fresh (Nat.le_refl _)) (Nat.ne_of_lt (Nat.lt_succ_self _))
 have I2:=qp.made (C:=C) I
 have r2:qy (V.ref (s.heap.objs.size+1)::(vs++dvs)) (Value.ref (s.heap.objs.size+1)::(us++ds)):=.cons rfl (r.append hd)
 have hl:(Value.ref (s.heap.objs.size+1)::us++ds).length=ps.length:=by
   have e:=r2.length
   rw[F.len _ _ _ _ hq]at e
   exact e.symm
 refine wpAny_call (WM (f:=f) I.kIn M.makes M.init (beq_iff_eq.mp M.fn) (codeAny_mono (F.run _ X.stack _ _ ⟨Value.ref (s.heap.objs.size+1)::us,[]⟩ (Value.ref (s.heap.objs.size+1)::(us++ds)) _ _ E (hr.make C us [])
   (I2.env0.make C us []) (hb _ (Value.ref (s.heap.objs.size+1)::us) I2.kIn hl) r2 hq) λr s' hq'=>?_))
 cases r with
 | error e=>exact hx pins σ _ _ e s' I2 hq'
 | ok fl=>
   cases fl with
   | ret u=>
     obtain⟨v,H',I3,rv,ev,q3⟩:=I2.after hq'
     subst ev
     exact⟨rv,⟨V.ref (s.heap.objs.size+1),H',I3,rfl,q3⟩⟩
   | next=>exact False.elim hq'
   | brk=>exact False.elim hq'
   | cont=>exact False.elim hq'
theorem Qw (M:Mk X.K C f) (F:qo X.prog X.w X.K X.mg X.base CX k f fd ps sp) (hr:qI (k+1) X.A) (hg:Gl X x) (hm:X.mg x=some (.ref C)) (hb:qX X.K fd ps ds) (hd:qy dvs ds) (hx:jo CX X E) (ha:JA X (e::es) t) (hdb:(x==("__debug__":Str))=false:=by decide) (he:starEach (e::es) X.env=(false,eval e X.env)::starEach es X.env:=by rfl) (hpl:(backTo pos (starEach es X.env)).any (·.1)=false:=by rfl):JE X (.Call (.Name x p) (e::es) [] pos) (vR C sp dvs E t):=.of (by
 have ha:=ha.to
 intro pins s σ H Q I h
 refine wpAny_Call_Name_kw (Q1 I hg hm ?_ hdb)
 refine PySem.W.callWith_K (h₀:=X.base) I.ok.mod.kin M.kp (qO (ha pos pins s σ H _ I h) λus s1 ⟨vs,H1,I1,r,q⟩=>⟨I1.kIn,?_⟩) he hpl
 exact Ws M F hr hb hd hx I1 r q)
end
section
variable {X:Cx} {CX:Zm} {k:Nat} {f C:Addr} {fd:FuncData} {ps ks:List Str} {sp:Sp} {E:XK} {x m:Str} {p pos apos kpos:Pos} {e o:Expr} {es:List Expr} {kws:List Keyword} {te ta:TE} {t tk:TA} {nm:Option Str}
structure yS (K:PySem.W.Frag) (fd:FuncData) (ps ks:List Str) (g:List Value->List Value->List Value) (gV:List V->List V->List V):Prop where
 to:∀(s:Shared) (us ws:List Value),K.In s.heap->(g us ws).length=ps.length->BindsTo s fd ⟨us,ks.zip ws⟩ (ps.zip (g us ws))
 rel:∀{vs:List V} {us:List Value} {zs:List V} {ws:List Value},qy vs us->qy zs ws->qy (gV vs zs) (g us ws)
variable {g:List Value->List Value->List Value} {gV:List V->List V->List V}
end
structure qu (N P:List Str) (sc:Scope):Prop where
 kind:sc.kind=.function
 co:sc.isCoroutine=false
 gen:sc.isGenerator=false
 nd:N.Nodup
 pre:N.take P.length=P
 par:∀x∈P,sc.names.lookup x=some .local\/sc.names.lookup x=some .cell
 nofree:∀y∈sc.names,y.2≠.free
theorem ZM {kindOf:Str->Option NameKind} {x:Str}:∀{binds:List (Str×Value)} {m:Str->Option Value},(∀v,(x,v)∉binds)->bindL kindOf binds m x=m x
 | [],_,_=>rfl
 | (n,v)::r,m,h=>by
   unfold bindL
   rw[ZM λw hw=>h w (List.mem_cons_of_mem _ hw)]
   split
   . have:x≠n:=by rintro rfl;exact h v List.mem_cons_self
     simp [this]
   . rfl
theorem ZO {kindOf:Str->Option NameKind} {x:Str}:∀{binds:List (Str×Value)} {m:Str->Option Value},(∀v,(x,v)∉binds)->bindC kindOf binds m x=m x
 | [],_,_=>rfl
 | (n,v)::r,m,h=>by
   unfold bindC
   rw[ZO λw hw=>h w (List.mem_cons_of_mem _ hw)]
   split
   . rfl
   . have:x≠n:=by rintro rfl;exact h v List.mem_cons_self
     simp [this]
theorem ZN {kindOf:Str->Option NameKind} {x:Str} {v:Value}:∀{P:List Str} {vs:List Value} {i:Nat} {m:Str->Option Value},P.Nodup->P[i]?=some x->vs[i]?=some v->kindOf x=some .local->
   bindL kindOf (P.zip vs) m x=some v
 | [],_,_,_,_,h,_,_=>by simp at h
 | _::_,[],_,_,_,_,h,_=>by simp at h
 | p::P,w::vs,0,m,nd,h1,h2,hk=>by
   simp at h1 h2;subst h1;subst h2
   show bindL kindOf ((p,w)::P.zip vs) m p=_
   unfold bindL
   rw[ZM λv hv=>(List.nodup_cons.mp nd).1 (List.of_mem_zip hv).1,if_pos hk]
   simp
 | p::P,w::vs,i+1,m,nd,h1,h2,hk=>by
   show bindL kindOf ((p,w)::P.zip vs) m x=_
   unfold bindL
   exact ZN (i:=i) (List.nodup_cons.mp nd).2 (by simpa using h1) (by simpa using h2) hk
theorem ZP {kindOf:Str->Option NameKind} {x:Str} {v:Value}:∀{P:List Str} {vs:List Value} {i:Nat} {m:Str->Option Value},P.Nodup->P[i]?=some x->vs[i]?=some v->kindOf x≠some .local->
   bindC kindOf (P.zip vs) m x=some v
 | [],_,_,_,_,h,_,_=>by simp at h
 | _::_,[],_,_,_,_,h,_=>by simp at h
 | p::P,w::vs,0,m,nd,h1,h2,hk=>by
   simp at h1 h2;subst h1;subst h2
   show bindC kindOf ((p,w)::P.zip vs) m p=_
   unfold bindC
   rw[ZO λv hv=>(List.nodup_cons.mp nd).1 (List.of_mem_zip hv).1,if_neg hk]
   simp
 | p::P,w::vs,i+1,m,nd,h1,h2,hk=>by
   show bindC kindOf ((p,w)::P.zip vs) m x=_
   unfold bindC
   exact ZP (i:=i) (List.nodup_cons.mp nd).2 (by simpa using h1) (by simpa using h2) hk
def jp (N:List Str) (vs:List V):St:=vs.map some++List.replicate (N.length - vs.length) none
def QE (CX:Zm) (P:Program) (w:World) (K:PySem.W.Frag) (mg:Str->Option Value) (base:Heap) (N:List Str) (qual:Str) (scope:Scope) (f:Addr) (cd:Value) (A:Around) (outer:List Env) (s:Shared) (H:Hp) (E:XK):Cx where
 prog:=P
 w:=w
 K:=K
 mg:=mg
 base:=base
 A:=A.deeper (envOfC qual scope s.heap.objs.size f cd)
 N:=N
 s₀:=s
 H₀:=H
 env:=envOfC qual scope s.heap.objs.size f cd
 outer:=outer
 stack:=envOfC qual scope s.heap.objs.size f cd::outer
 ex:=[]
 calm:=true
 fn:=λ_=>true
 pn:=[]
 xe:=λe s'=>wpAny (model P w) (A.deeper (envOfC qual scope s.heap.objs.size f cd)) (leaving (envOfC qual scope s.heap.objs.size f cd) e) (λ_ s''=>CX outer H s E e s'') (λe' s''=>CX outer H s E e' s'') s'
theorem zX {sc:Scope} {n:Nat} {x:Str} (h:sc.names.lookup x=some .cell):∃c,(cellsFrom n sc.names []).lookup x=some c:=by
 have q:=PySem.W.cellsFrom_some sc.names n [] (.inl h)
 exact Option.isSome_iff_exists.mp q
theorem XM {CX:Zm} {P:Program} {w:World} {K:PySem.W.Frag} {mg:Str->Option Value} {base:Heap} {N ps:List Str} {qual:Str} {scope:Scope} {f:Addr} {cd:Value} {A:Around} {outer:List Env} {s s1:Shared} {H:Hp} {E:XK} {us:List Value} {vs:List V}
   (S:qu N ps scope) (hd:A.handled=none) (e0:z5 P w K mg base A outer s H) (hl:vs.length=ps.length) (r:qy vs us)
   (x:InCallC s s.heap.objs.size (bindL (envOfC qual scope s.heap.objs.size f cd).kindOf (ps.zip us) λ_=>none) (cellsFrom (s.heap.objs.size+1) scope.names []) (bindC (envOfC qual scope s.heap.objs.size f cd).kindOf (ps.zip us) λ_=>none) s1):
   qp (QE CX P w K mg base N qual scope f cd A outer s H E) [] (jp N vs) H s1:=by
 have hpl:ps.length<=N.length:=by have:=congrArg List.length S.pre;rw[List.length_take]at this;omega
 obtain⟨h1,tk,rfl,hk⟩:=x.done
 have noA:∀b:Addr,b∉(QE CX P w K mg base N qual scope f cd A outer s H E).ex:=λb z=>absurd (show b∈([]:List Addr) from z) (by simp)
 refine⟨⟨e0.mod,S.kind,rfl,rfl,Nat.le_refl _,λy z c h1 h2=>?_,λy hy=>?_,λy c _ h=>?_,λ_=>hd,Around.frames_deeper e0.frames,.inr ⟨rfl,rfl⟩,λb z=>absurd z (noA b),e0.bs,e0.bsz,λb _ _=>noA b,λb z=>absurd z (noA b),e0.funs,e0.frf⟩,
   rfl,e0.bare,Un.kept hk,⟨_,x.toInCall.ns,λi y v h1 h2 h3=>?_⟩,λy c h=>⟨_,x.cell y c h⟩,e0.hok.fresh (Nat.le_refl _),λy c h=>?_,λp hp=>absurd (show p∈([]:List (Addr×Obj)) from hp) (by simp),e0.hok.kept hk,?_⟩
 . exact name_of_addr x.apart (PySem.mem_of_lookup h1) (PySem.mem_of_lookup h2)
 . have hy:scope.names.lookup y=some .cell\/scope.names.lookup y=some .free:=hy
   rcases hy with hy | hy
   . exact zX hy
   . exact absurd rfl (S.nofree _ (PySem.mem_of_lookup hy))
 . exact Nat.le_of_lt (x.above y c (PySem.mem_of_lookup h))
 . have hi:i < vs.length:=by
     unfold jp at h2
     by_cases hi:i < vs.length
     . exact hi
     . rw[List.getElem?_append_right (by simpa using hi)]at h2
       rw[List.getElem?_replicate]at h2
       split at h2<;>cases h2
   have ha:vs[i]?=some v:=by
     unfold jp at h2
     rw[List.getElem?_append_left (by simpa using hi),List.getElem?_map]at h2
     cases e:vs[i]? with
     | none=>rw[e]at h2;cases h2
     | some a=>rw[e]at h2;cases h2;rfl
   obtain⟨u,hu,rv⟩:=r.get ha
   have hp:ps[i]?=some y:=by
     rw[<-S.pre,List.getElem?_take_of_lt (by omega)];exact h1
   have ndP:ps.Nodup:=by rw[<-S.pre];exact S.nd.sublist (List.take_sublist _ _)
   refine⟨u,rv,?_⟩
   rcases S.par y (List.mem_of_getElem? hp) with k | k
   . exact .inl ⟨k,ZN ndP hp hu k⟩
   . obtain⟨c,e⟩:=zX (n:=s.heap.objs.size+1) k
     refine .inr ⟨.inl k,c,e,?_⟩
     have q:=x.cell y c e
     rw[ZP ndP hp hu (by show scope.names.lookup y≠_;rw[k];decide)]at q
     exact q
 . exact .inl (e0.hok.fresh (Nat.le_of_lt (x.above y c (PySem.mem_of_lookup h))))
 . unfold jp
   show _=N.length
   rw[List.length_append,List.length_map,List.length_replicate]
   omega
theorem W8 {CX:Zm} {P:Program} {w:World} {K:PySem.W.Frag} {mg:Str->Option Value} {base:Heap} {k:Nat} {f:Addr} {name qual:Str} {params:Arguments} {body:List Stmt} {scope:Scope} {dV kV doc pm cdv ct oc:Value} {an od:Option Addr}
   {osl:Array (Option Value)} {N ps:List Str} {sp:Sp} (lk:K.lookup f=some ⟨oc,od,.func (PySem.W.fnOf name qual params body scope dV kV doc pm an cdv ct),osl⟩) (hcd:PySem.W.codeIn K cdv qual=true) (S:qu N ps scope)
   (len:∀vs H Q E,sp vs H Q E->vs.length=ps.length)
   (hbody:∀(A:Around) (outer:List Env) (s:Shared) (H:Hp) (vs:List V) (Q:VK) (E:XK),qI k (A.deeper (envOfC qual scope s.heap.objs.size f cdv))->sp vs H Q E->
     ∃t,Vs (QE CX P w K mg base N qual scope f cdv A outer s H E) body t/\t {nx:=λ_ H'=>Q .non H',rt:=Q} (jp N vs) H):
   qo P w K mg base CX (k+1) f (PySem.W.fnOf name qual params body scope dV kV doc pm an cdv ct) ps sp:=by
 refine⟨len,λA outer s H args us vs Q E hr e0 hb r hsp=>?_⟩
 have hl:=len _ _ _ _ hsp
 have KX:K.In s.heap:=e0.mod.kin.keeps λb o e=>(e0.bs b o e).1
 have lim:s.heap.NoLimit:=e0.mod.nolimit.keeps λb o e=>(e0.bs b o e).1
 have hkind:∀y∈ps.zip us,scope.names.lookup y.1=some .local\/(scope.names.lookup y.1=some .cell/\((cellsFrom (s.heap.objs.size+1) scope.names []).lookup y.1).isSome=true):=λ⟨n,v⟩ hy=>by
   rcases S.par n (List.of_mem_zip hy).1 with q | q
   . exact .inl q
   . exact .inr ⟨q,PySem.W.cellsFrom_some _ _ _ (.inl q)⟩
 refine codeAny_call_function hr.depth (KX _ _ lk) rfl S.co S.gen rfl (PySem.W.codeRec_of KX hcd) (hb _ _ _ _ ?_)
 refine wpAny_newFunctionEnv_cells S.kind hkind λenv he s1 x=>?_
 subst he
 refine⟨lim.keeps x.toInCall.keep,codeAny_func ?_⟩
 obtain⟨t,ht,hq⟩:=hbody A outer s H vs Q E (hr.deeper _) hsp
 have I:qp (QE CX P w K mg base N qual scope f cdv A outer s H E) [] (jp N vs) H s1:=XM S hr.hd e0 hl r x
 refine wpAny_mono (ht [] s1 (jp N vs) H _ I hq) (λfl s' hs=>?_) λe s' hs=>hs
 have fin:∀{σ':St} {H':Hp} {v:V} {u:Value},qp (QE CX P w K mg base N qual scope f cdv A outer s H E) [] σ' H' s'->qA v u->Q v H'->CE outer P w H s Q u s':=
   λ{σ' H' v u} J rv q=>⟨v,H',J.os,J.bare,J.base,J.hok,rv,q⟩
 cases fl with
 | ret u=>
   obtain⟨v,σ',H',J,rv,q⟩:=hs
   exact fin J rv q
 | next=>
   obtain⟨σ',H',J,q⟩:=hs
   exact fin (v:=V.non) (u:=Value.none) J rfl q
 | brk=>
   obtain⟨_,_,_,q⟩:=hs
   exact False.elim q
 | cont=>
   obtain⟨_,_,_,q⟩:=hs
   exact False.elim q
end L2
namespace L2
open PySem PySem.Spec PyProof.Rows
section
variable {X:Cx} {x:Str} {p pos:Pos} {e:Expr} {es:List Expr} {t:TA} {id T:String} {r:List V->Hp->VK->Prop}
def yq (r:List V->Hp->VK->Prop) (t:TA):TE:=λσ H Q=>t σ H λvs H1=>r vs H1 Q
theorem qF (hc:Qr X (.builtin id) r) (hg:Gl X x) (hm:X.mg x=none) (hv:bootBuiltins x=some (.builtin id)) (ha:JA X (e::es) t) (hn:x≠"__name__":=by decide) (hdb:(x==("__debug__":Str))=false:=by decide) (he:starEach (e::es) X.env=(false,eval e X.env)::starEach es X.env:=by rfl) (hpl:(backTo pos (starEach es X.env)).any (·.1)=false:=by rfl):JE X (.Call (.Name x p) (e::es) [] pos) (yq r t):=.of (by
 have ha:=ha.to
 intro pins s σ H Q I h
 refine wpAny_Call_Name_kw (QM I hg hm hv ?_ hn hdb)
 exact PyProof.Rows.callWith_builtin1 (qO (ha pos pins s σ H _ I h) λus s1 ⟨vs,H1,I1,r1,q1⟩=>hc pins s1 σ H1 vs us Q I1 r1 q1) he hpl)
theorem qT (hc:Qr X (.type T) r) (hg:Gl X x) (hm:X.mg x=none) (hv:bootBuiltins x=some (.type T)) (ha:JA X (e::es) t) (hn:x≠"__name__":=by decide) (hdb:(x==("__debug__":Str))=false:=by decide) (he:starEach (e::es) X.env=(false,eval e X.env)::starEach es X.env:=by rfl) (hpl:(backTo pos (starEach es X.env)).any (·.1)=false:=by rfl):JE X (.Call (.Name x p) (e::es) [] pos) (yq r t):=.of (by
 have ha:=ha.to
 intro pins s σ H Q I h
 refine wpAny_Call_Name_kw (QM I hg hm hv ?_ hn hdb)
 exact PyProof.Rows.callWith_type1 (qO (ha pos pins s σ H _ I h) λus s1 ⟨vs,H1,I1,r1,q1⟩=>hc pins s1 σ H1 vs us Q I1 r1 q1) he hpl)
end
end L2
namespace HT
open PySem PyProof.Rows
section
open PySem.SeqAt
open PySem.AutoSeq1 (wpAny_loadPart')
open PySem.MeetsSeq PySem.MeetsSeq2 PySem.MeetsSeq3
end
section
variable {prog:Program} {w:World} {A:Around} {E:Value->Shared->Prop} {s:Shared}
def sIx (n d:Nat):Option Int->Nat
 | none=>d
 | some v=>if v < 0 then (v+(n:Int)).toNat else min v.toNat n
theorem sIx_none (n d:Nat):sIx n d none=d:=rfl
theorem sIx_nat (n d k:Nat):sIx n d (some (k:Int))=min k n:=by
 show (if (k:Int) < 0 then ((k:Int)+(n:Int)).toNat else min (k:Int).toNat n)=min k n
 rw[if_neg (by omega),Int.toNat_natCast]
end
end HT
namespace L2
open PySem PySem.Spec PyProof.Rows
abbrev TO:=St->Hp->(Option Int->Hp->Prop)->Prop
def PO (X:Cx) (e:Option Expr) (t:TO):Prop:=
 ∀(pins:List (Addr×Obj)) (s:Shared) (σ:St) (H:Hp) (Q:Option Int->Hp->Prop),qp X pins σ H s->t σ H Q->
   wpAny (model X.prog X.w) X.A (evalPart e X.env) (λu s'=>∃o H',qp X pins σ H' s'/\IsPart u o/\Q o H') X.xe s
@[irreducible] def JO (X:Cx) (e:Option Expr) (t:TO):Prop:=PO X e t
theorem JO.of {X:Cx} {e:Option Expr} {t:TO} (h:PO X e t):JO X e t:=by unfold JO;exact h
theorem JO.to {X:Cx} {e:Option Expr} {t:TO} (h:JO X e t):PO X e t:=by unfold JO at h;exact h
def YC:TO:=λ_ H Q=>Q none H
def Up (t:TE):TO:=λσ H Q=>t σ H λx H1=>∃i,x=.int i/\Q (some i) H1
section
variable {X:Cx} {e:Expr} {te:TE} {lo hi:Option Expr} {tl th:TO} {pos p2:Pos}
theorem jl:JO X none YC:=.of (by
 intro pins s σ H Q I h
 rw[evalPart_none]
 exact wpAny_pure ⟨none,H,I,.none,h⟩)
theorem jk (h:JE X e te):JO X (some e) (Up te):=.of (by
 have h:=h.to
 intro pins s σ H Q I hw
 rw[evalPart_some]
 refine qO (h pins s σ H _ I hw) λu s1 ⟨x,H1,I1,r1,q1⟩=>?_
 obtain⟨i,rfl,q⟩:=q1
 obtain⟨t,rfl⟩:=r1
 exact⟨some i,H1,I1,.int i t,q⟩)
def yP (X:Cx) (r:V->Option Int->Option Int->Hp->VK->Prop):Prop:=
 ∀(pins:List (Addr×Obj)) (s:Shared) (σ:St) (H:Hp) (x:V) (v vl vu:Value) (lo hi:Option Int) (sl:Addr) (Q:VK),qp X pins σ H s->qA x v->s.heap.IsSliceOf sl vl vu .none->IsPart vl lo->IsPart vu hi->r x lo hi H Q->
   ∃T id,typeLookup (.type T) "__getitem__"=pure (some (.builtin id))/\s.TypeIs v T/\wpAny (model X.prog X.w) X.A (getItem v (.ref sl)) (EP X pins σ Q) X.xe s
def tSl (r:V->Option Int->Option Int->Hp->VK->Prop) (te:TE) (tl th:TO):TE:=λσ H Q=>te σ H λx H1=>tl σ H1 λl H2=>th σ H2 λu H3=>r x l u H3 Q
theorem qW {r:V->Option Int->Option Int->Hp->VK->Prop} (hr:yP X r) (he:JE X e te) (hl:JO X lo tl) (hu:JO X hi th):JE X (.Subscript e (.Slice lo hi none p2) pos) (tSl r te tl th):=.of (by
 have he:=he.to
 have hl:=hl.to
 have hu:=hu.to
 intro pins s σ H Q I h
 refine Subscript_ (qO (he pins s σ H _ I h) λv s1 ⟨x,H1,I1,r1,q1⟩=>?_)
 refine wpAny_Slice (qO (hl pins s1 σ H1 _ I1 q1) λvl s2 ⟨l,H2,I2,pl,q2⟩=>qO (hu pins s2 σ H2 _ I2 q2) λvu s3 ⟨u,H3,I3,pu,q3⟩=>?_)
 rw[evalPart_none]
 refine wpAny_pure ?_
 have I4:qp X pins σ H3 {s3 with heap:=s3.heap.push {cls:=.type "slice",data:=.fields #[vl,vu,.none]}}:=I3.kept (t':=s3.toks) λb ob q=>Heap.get?_push_of_some _ q
 obtain⟨T,id,hT,ht,hg⟩:=hr pins {s3 with heap:=s3.heap.push {cls:=.type "slice",data:=.fields #[vl,vu,.none]}} σ H3 x v vl vu l u s3.heap.objs.size Q I4 r1 (Heap.IsSliceOf.new ..) pl pu q3
 show wpAny (model X.prog X.w) X.A (subscriptTail e (.Slice lo hi none p2) v (.ref s3.heap.objs.size)) (EP X pins σ Q) X.xe {s3 with heap:=s3.heap.push {cls:=.type "slice",data:=.fields #[vl,vu,.none]}}
 exact tail_any (ops:=[.ref s3.heap.objs.size,v]) ht hT hg (by with_unfolding_all rfl))
def Qb (xs:List V) (lo hi:Option Int):List V:=(xs.drop (HT.sIx xs.length 0 lo)).take (HT.sIx xs.length xs.length hi - HT.sIx xs.length 0 lo)
theorem zW (xs:List V) (lo hi:Option Int):(Qb xs lo hi).length<=xs.length:=by
 unfold Qb
 rw[List.length_take,List.length_drop]
 omega
end
end L2
namespace L2
open PySem PySem.Spec PyProof.Rows
def vI (n:Nat) (i:Int):Option Nat:=if 0<=i then (if i < n then some i.toNat else none) else if -(n:Int)<=i then some (i+n).toNat else none
def zZ {α:Type} (xs:List α) (i:Int):Option α:=(vI xs.length i).bind λj=>xs[j]?
theorem V7 {n:Nat} {i:Int} {j:Nat} (h:vI n i=some j):seqIndex? i n=some j/\j < n/\-(n:Int)<=i/\i < n:=by
 unfold vI at h
 by_cases h0:0<=i
 . rw[if_pos h0]at h
   by_cases h1:i < n
   . rw[if_pos h1]at h
     have e:i.toNat=j:=Option.some.inj h
     exact⟨by rw[seqIndex_of h0 h1,e],by omega,by omega,h1⟩
   . rw[if_neg h1]at h;cases h
 . rw[if_neg h0]at h
   by_cases h1:-(n:Int)<=i
   . rw[if_pos h1]at h
     have e:(i+n).toNat=j:=Option.some.inj h
     exact⟨by rw[seqIndex_neg (by omega) h1,e],by omega,h1,by omega⟩
   . rw[if_neg h1]at h;cases h
theorem zm {α:Type} {xs:List α} {i:Int} {v:α} (h:zZ xs i=some v):∃j,seqIndex? i xs.length=some j/\xs[j]?=some v/\j < xs.length/\-(xs.length:Int)<=i/\i < xs.length:=by
 unfold zZ at h
 cases e:vI xs.length i with
 | none=>rw[e]at h;cases h
 | some j=>
   rw[e]at h
   obtain⟨h1,h2,h3,h4⟩:=V7 e
   exact⟨j,h1,h,h2,h3,h4⟩
theorem Qy {α:Type} {xs:List α} {j:Nat} {v:α} (h:xs[j]?=some v):zZ xs (j:Int)=some v:=by
 have hj:j < xs.length:=(List.getElem?_eq_some_iff.mp h).1
 have e:vI xs.length (j:Int)=some j:=by
   unfold vI
   rw[if_pos (by omega),if_pos (by omega)];simp
 unfold zZ;rw[e];exact h
def Uj (b:Expr):Prop:=∀o i,subscripted b false o i=operate [o,i] (getItem o i)
def yc (X:Cx) (r:R2):Prop:=
 ∀(value slice:Expr) (pins:List (Addr×Obj)) (s:Shared) (σ:St) (H:Hp) (x y:V) (v u:Value) (Q:VK),qp X pins σ H s->qA x v->qA y u->r x y H Q->
   subscripted slice false v u=operate [v,u] (getItem v u)->wpAny (model X.prog X.w) X.A (subscriptTail value slice v u) (EP X pins σ Q) X.xe s
def vC (X:Cx) (id:String) (r:V->List V->Hp->VK->Prop):Prop:=
 ∀(pins:List (Addr×Obj)) (s:Shared) (σ:St) (H:Hp) (x:V) (xs:List V) (v:Value) (us:List Value) (Q:VK),qp X pins σ H s->qA x v->qy xs us->r x xs H Q->
   wpAny (model X.prog X.w) X.A (call (.builtin id) (v::us)) (EP X pins σ Q) X.xe s
section
variable {X:Cx} {a b:Expr} {ta tb:TE} {pos:Pos}
theorem jy {r:R2} (hr:yc X r) (ha:JE X a ta) (hb:JE X b tb) (hs:Uj b):JE X (.Subscript a b pos) (vF r ta tb):=.of (by
 have ha:=ha.to
 have hb:=hb.to
 intro pins s σ H Q I h
 exact Subscript_ (vz ha hb I h λv u s2 x y H2 I2 rx ry q=>hr a b pins s2 σ H2 x y v u Q I2 rx ry q (hs _ _)))
def yG (K:PySem.W.Frag):R2:=λx y H Q=>∃p xs i v,x=.ref p/\y=.int i/\SqL K H p xs/\zZ xs i=some v/\Q v H
def yE (K:PySem.W.Frag):R2:=λx y H Q=>∃p xs i v,x=.ref p/\y=.int i/\SqT K H p xs/\zZ xs i=some v/\Q v H
def yF:R2:=λx y H Q=>∃z i c,x=.str z/\y=.int i/\z.length<=sizeLine/\zZ z.cps.toList i=some c/\Q (.str ⟨#[c]⟩) H
theorem jF:yc X (yG X.K):=by
 intro value slice pins s σ H x y v u Q I rx ry h hs
 obtain⟨p,xs,i,z,rfl,rfl,hq,he,q⟩:=h
 cases rx
 obtain⟨t,rfl⟩:=ry
 obtain⟨its,r,pl,hz⟩:=I.list hq
 obtain⟨j,h1,h2,h3,h4,h5⟩:=zm he
 obtain⟨w,ew,rw'⟩:=r.get h2
 have hl:=r.length
 have hn:=J9
 have fin:EP X pins σ Q w s:=⟨z,H,I,rw',q⟩
 by_cases h0:0<=i
 . have hj:i.toNat=j:=by
     rw[seqIndex_of h0 h5]at h1
     exact Option.some.inj h1
   exact item_listR pl.isList h0 (by omega) (by rw[hj];simpa using ew) fin hs
 . have hj:(i+(its.toArray.size:Int)).toNat=j:=by
     rw[seqIndex_neg (by omega) h4]at h1
     rw[List.size_toArray,<-hl]
     exact Option.some.inj h1
   exact subscriptTail_builtinR (x:=w) pl.isList.typeIs slot_list_getitem.lookup
     (wpAny_getItem_list_neg (Q:=λr s'=>r=w/\EP X pins σ Q r s') pl.isList (by omega) (by rw[List.size_toArray]<;>omega) (by omega) (by rw[hj];simpa using ew) ⟨rfl,fin⟩) hs
theorem QN:yc X (yE X.K):=by
 intro value slice pins s σ H x y v u Q I rx ry h hs
 obtain⟨p,xs,i,z,rfl,rfl,hq,he,q⟩:=h
 cases rx
 obtain⟨t,rfl⟩:=ry
 obtain⟨its,r,pl,hz⟩:=I.tuple hq
 obtain⟨j,h1,h2,h3,h4,h5⟩:=zm he
 obtain⟨w,ew,rw'⟩:=r.get h2
 have hl:=r.length
 have hn:=J9
 have fin:EP X pins σ Q w s:=⟨z,H,I,rw',q⟩
 exact subscriptTail_builtinR (x:=w) pl.typeIs slot_tuple_getitem.lookup
   (getItem_tuple (j:=j) (Q:=λr s'=>r=w/\EP X pins σ Q r s') pl (by omega) (by omega) (by rw[List.size_toArray,<-hl];exact h1) (by simpa using ew) ⟨rfl,fin⟩) hs
theorem vt:yc X yF:=by
 intro value slice pins s σ H x y v u Q I rx ry h hs
 obtain⟨z,i,c,rfl,rfl,hz,he,q⟩:=h
 obtain⟨t,rfl⟩:=rx
 obtain⟨t',rfl⟩:=ry
 obtain⟨j,h1,h2,h3,h4,h5⟩:=zm he
 have hl:z.cps.toList.length=z.length:=by simp [Str.length]
 rw[hl]at h1 h4 h5
 have hn:=J9
 exact tail_any (typeIs_str s z t) slot_str_getitem.lookup (getItem_str (c:=c) (by
   have e1:decide (i < -(2^63:Int))=false:=decide_eq_false (by omega)
   have e2:decide (i ≥ 2^63)=false:=decide_eq_false (by omega)
   rw[e1,e2,Bool.or_false]) (by rw[h1];simpa using h2) ⟨.str ⟨#[c]⟩,H,I.tok _,⟨_,rfl⟩,q⟩) hs
theorem Z1 (lo hi:Option Int) (n:Nat):(sliceBounds lo hi none n).1=((HT.sIx n 0 lo:Nat):Int)/\(sliceBounds lo hi none n).2.1=((HT.sIx n n hi:Nat):Int)/\(sliceBounds lo hi none n).2.2=1:=by
 refine⟨?_,?_,rfl⟩
 . cases lo with
   | none=>simp [sliceBounds,HT.sIx]
   | some i=>
     simp only[sliceBounds,HT.sIx,Option.getD_none,show (1:Int) > 0 by decide,if_true]
     by_cases h:i < 0
     . simp only[h,if_true]<;>omega
     . simp only[h,if_false]<;>omega
 . cases hi with
   | none=>simp [sliceBounds,HT.sIx]
   | some i=>
     simp only[sliceBounds,HT.sIx,Option.getD_none,show (1:Int) > 0 by decide,if_true]
     by_cases h:i < 0
     . simp only[h,if_true]<;>omega
     . simp only[h,if_false]<;>omega
theorem Zo (its:List Value) (lo hi:Option Int):slicePick its.toArray lo hi none=((its.drop (HT.sIx its.length 0 lo)).take (HT.sIx its.length its.length hi - HT.sIx its.length 0 lo)).toArray:=by
 obtain⟨h1,h2,h3⟩:=Z1 lo hi its.toArray.size
 unfold slicePick
 rw[h1,h2,h3]
 simp only[sliceRange_one,pick_run,List.size_toArray]<;>rfl
def kh (K:PySem.W.Frag):V->Option Int->Option Int->Hp->VK->Prop:=λx lo hi H Q=>∃a xs,x=.ref a/\SqL K H a xs/\∀p,H p=none->Q (.ref p) (qr H p (.lst (Qb xs lo hi)))
theorem QU:yP X (kh X.K):=by
 intro pins s σ H x v vl vu lo hi sl Q I rx hs pl pu h
 obtain⟨a,xs,rfl,hx,q⟩:=h
 cases rx
 obtain⟨its,r,ht,hz⟩:=I.list hx
 have hlen:=r.length
 refine⟨"list",_,slot_list_getitem.lookup,ht.isList.typeIs,?_⟩
 refine wpAny_getItem_list_slice ht.isList hs pl pu .none (by simp) ?_ (by rw[List.size_toArray]<;>omega)
 rw[Zo,<-hlen]
 refine⟨.ref s.heap.objs.size,_,I.laid (t':=s.toks) (o:=.lst (Qb xs lo hi)) (λb ob q=>Heap.get?_push_of_some _ q) (Nat.le_refl _) ?_,rfl,q _ (I.hok.fresh (Nat.le_refl _))⟩
 exact⟨Nat.le_trans (zW xs lo hi) hz,_,0,(r.drop (HT.sIx xs.length 0 lo)).take (HT.sIx xs.length xs.length hi - HT.sIx xs.length 0 lo),Heap.get?_push_size _ rfl⟩
def j9:V->Bool
 | .non=>true
 | .bl _=>true
 | .int _=>true
 | .str _=>true
 | _=>false
def W9:V->V->Bool
 | .non,.non=>true
 | .bl a,.bl b=>a==b
 | .bl a,.int b=>(if a then 1 else 0)==b
 | .int a,.bl b=>a==(if b then 1 else 0)
 | .int a,.int b=>a==b
 | .str a,.str b=>a==b
 | _,_=>false
theorem Vb {A:Around} {s:Shared} {y x:V} {u v:Value} (ry:qA y u) (rx:qA x v) (fy:j9 y=true) (fx:j9 x=true):SeqAt.EqAt A s u v (W9 y x):=by
 cases y with
 | non=>
   cases ry
   cases x with
   | non=>cases rx;exact SeqAt.EqAt.same _
   | bl b=>cases rx;exact SeqAt.EqAt.none_bool b
   | int b=>obtain⟨t,rfl⟩:=rx;exact SeqAt.EqAt.none_int b t
   | str b=>obtain⟨t,rfl⟩:=rx;exact SeqAt.EqAt.none_str b t
   | _=>exact absurd (show false=true from fx) Bool.false_ne_true
 | bl a=>
   cases ry
   cases x with
   | non=>cases rx;exact SeqAt.EqAt.bool_none a
   | bl b=>cases rx;exact SeqAt.EqAt.bool_bool a b
   | int b=>obtain⟨t,rfl⟩:=rx;exact SeqAt.EqAt.bool_int a b t
   | str b=>obtain⟨t,rfl⟩:=rx;exact SeqAt.EqAt.bool_str a b t
   | _=>exact absurd (show false=true from fx) Bool.false_ne_true
 | int a=>
   obtain⟨t',rfl⟩:=ry
   cases x with
   | non=>cases rx;exact SeqAt.EqAt.int_none a t'
   | bl b=>cases rx;exact SeqAt.EqAt.int_bool a t' b
   | int b=>obtain⟨t,rfl⟩:=rx;exact SeqAt.EqAt.int_int a t' b t
   | str b=>obtain⟨t,rfl⟩:=rx;exact SeqAt.EqAt.int_str a t' b t
   | _=>exact absurd (show false=true from fx) Bool.false_ne_true
 | str a=>
   obtain⟨t',rfl⟩:=ry
   cases x with
   | non=>cases rx;exact SeqAt.EqAt.str_none a t'
   | bl b=>cases rx;exact SeqAt.EqAt.str_bool a t' b
   | int b=>obtain⟨t,rfl⟩:=rx;exact SeqAt.EqAt.str_int a t' b t
   | str b=>obtain⟨t,rfl⟩:=rx;exact SeqAt.EqAt.str_str a t' b t
   | _=>exact absurd (show false=true from fx) Bool.false_ne_true
 | _=>exact absurd (show false=true from fy) Bool.false_ne_true
def Uc (x:V) (u:Value):Bool:=match u with
 | .none=>W9 .non x
 | .bool b=>W9 (.bl b) x
 | .int i _=>W9 (.int i) x
 | .str z _=>W9 (.str z) x
 | _=>false
theorem Va {x y:V} {u:Value} (r:qA y u) (f:j9 y=true):Uc x u=W9 y x:=by
 cases y with
 | non=>cases r;rfl
 | bl b=>cases r;rfl
 | int i=>obtain⟨t,rfl⟩:=r;rfl
 | str z=>obtain⟨t,rfl⟩:=r;rfl
 | _=>exact absurd (show false=true from f) Bool.false_ne_true
theorem zn {x:V}:∀{xs:List V} {us:List Value},qy xs us->xs.all j9=true->us.any (Uc x)=xs.any λy=>W9 y x
 | _,_,.nil,_=>rfl
 | y::xs,u::us,.cons r t,f=>by
   rw[List.all_cons,Bool.and_eq_true]at f
   rw[List.any_cons,List.any_cons,Va r f.1,zn t f.2]
theorem J8 {A:Around} {s:Shared} {x:V} {v:Value} (rx:qA x v) (fx:j9 x=true):∀{xs:List V} {us:List Value},qy xs us->xs.all j9=true->∀u∈us,SeqAt.EqAt A s u v (Uc x u)
 | _,_,.nil,_=>λu hu=>by cases hu
 | y::xs,u::us,.cons r t,f=>λu' hu=>by
   rw[List.all_cons,Bool.and_eq_true]at f
   rcases List.mem_cons.mp hu with rfl | hu
   . rw[Va r f.1];exact Vb r rx f.1 fx
   . exact J8 rx fx t f.2 u' hu
def X3 (x:V) (xs:List V):Bool:=xs.any λy=>W9 y x
def yH (K:PySem.W.Frag) (neg:Bool):R2:=λx y H Q=>∃p xs,y=.ref p/\(SqL K H p xs\/SqT K H p xs)/\j9 x=true/\xs.all j9=true/\Q (.bl (if neg then !X3 x xs else X3 x xs)) H
theorem jZ:QF X (compareOp .In) (yH X.K false):=by
 intro pins s σ H x y v u Q I rx ry h
 obtain⟨p,xs,rfl,hq,fx,fs,q⟩:=h
 cases ry
 rcases hq with hq | hq
 . obtain⟨its,r,pl,hz⟩:=I.list hq
   refine SeqAt.in_listAt (Uc x) pl.isList (λw hw=>J8 rx fx r fs w (by simpa using hw)) ⟨.bl _,H,I,rfl,?_⟩
   rw[show its.toArray.any (Uc x)=its.any (Uc x) by simp,zn r fs]
   exact q
 . obtain⟨its,r,pl,hz⟩:=I.tuple hq
   refine SeqAt.in_tupleAt (Uc x) pl (λw hw=>J8 rx fx r fs w (by simpa using hw)) ⟨.bl _,H,I,rfl,?_⟩
   rw[show its.toArray.any (Uc x)=its.any (Uc x) by simp,zn r fs]
   exact q
theorem Ja:Qr X (.builtin "len") (λxs H Q=>∃p ys,xs=[.ref p]/\(SqL X.K H p ys\/SqT X.K H p ys)/\Q (.int ys.length) H):=by
 intro pins s σ H xs us Q I r h
 obtain⟨p,ys,rfl,hq,q⟩:=h
 obtain⟨u,rfl,rx⟩:=QQ r
 cases rx
 have hn:=J9
 rcases hq with hq | hq
 . obtain⟨its,r',pl,hz⟩:=I.list hq
   have hlen:=r'.length
   exact Calls.call_len_list pl.isList (by simp only[List.size_toArray]<;>omega) ⟨.int ys.length,H,I.tok _,⟨s.toks+1,by rw[List.size_toArray,hlen]⟩,q⟩
 . obtain⟨its,r',pl,hz⟩:=I.tuple hq
   have hlen:=r'.length
   exact len_tuple pl (by simp only[List.size_toArray]<;>omega) ⟨.int ys.length,H,I.tok _,⟨s.toks+1,by rw[List.size_toArray,hlen]⟩,q⟩
theorem zk:Qr X (.builtin "len") (λxs H Q=>∃z,xs=[.str z]/\z.length<=sizeLine/\Q (.int z.length) H):=by
 intro pins s σ H xs us Q I r h
 obtain⟨z,rfl,hz,q⟩:=h
 obtain⟨u,rfl,t,rfl⟩:=QQ r
 have hn:=J9
 exact len_str (by omega) ⟨.int z.length,H,I.tok _,⟨_,rfl⟩,q⟩
def ye (K:PySem.W.Frag) (T:String) (x:V) (H:Hp):Prop:=match x with
 | .str _=>T="str"
 | .int _=>T="int"
 | .ref p=>(T="list"/\∃xs,SqL K H p xs)\/(T="tuple"/\∃o,K.lookup p=some o/\o.cls=.type "tuple"/\o.dict=none)\/
     (T="dict"/\((∃kvs,H p=some (.dK kvs))\/∃kvs,H p=some (.dT kvs)))\/(T="set"/\∃S n,H p=some (.set S n))
 | _=>False
theorem X8 {pins:List (Addr×Obj)} {σ:St} {H:Hp} {s:Shared} {T:String} {x:V} {v:Value} (I:qp X pins σ H s) (r:qA x v) (ty:ye X.K T x H):
   s.TypeIs v T/\∀a,v=.ref a->∃ob,s.heap.get? a=some ob/\ob.dict=none:=by
 cases x with
 | str z=>
   obtain⟨t,rfl⟩:=r
   cases (show T="str" from ty)
   exact⟨typeIs_str s z t,λ_ e=>nomatch e⟩
 | int i=>
   obtain⟨t,rfl⟩:=r
   cases (show T="int" from ty)
   exact⟨typeIs_int s i t,λ_ e=>nomatch e⟩
 | ref p=>
   cases r
   rcases ty with ⟨rfl,xs,hq⟩ | ⟨rfl,o,hk,hc,hd⟩ | ⟨rfl,hk⟩ | ⟨rfl,S,n,hk⟩
   . obtain⟨its,_,pl,_⟩:=I.list hq
     refine⟨pl.isList.typeIs,λa e=>?_⟩
     cases e
     obtain⟨o,n,e,c,hd,_⟩:=pl
     exact⟨o,e,hd⟩
   . refine⟨⟨o,I.kIn p o hk,hc⟩,λa e=>?_⟩
     cases e
     exact⟨o,I.kIn _ o hk,hd⟩
   . have z:∃o,s.heap.get? p=some o/\o.ExactDict:=by
       rcases hk with ⟨kvs,hk⟩ | ⟨kvs,hk⟩
       . obtain⟨_,_,_,_,o,_,_,e,ex,_⟩:=I.hok p _ hk
         exact⟨o,e,ex⟩
       . obtain⟨_,_,_,_,o,_,_,e,ex,_⟩:=I.hok p _ hk
         exact⟨o,e,ex⟩
     obtain⟨o,e,ex⟩:=z
     refine⟨⟨o,e,ex.1⟩,λa e2=>?_⟩
     cases e2
     exact⟨o,e,ex.2.1⟩
   . obtain⟨o,_,_,_,e,ex,_⟩:=I.hok p _ hk
     refine⟨⟨o,e,ex.1⟩,λa e2=>?_⟩
     cases e2
     exact⟨o,e,ex.2.1⟩
 | _=>exact False.elim ty
def yr (K:PySem.W.Frag) (T:String) (r:V->List V->Hp->VK->Prop) (to:TE):TE:=λσ H Q=>to σ H λx H1=>ye K T x H1/\r x [] H1 Q
def yt (K:PySem.W.Frag) (T:String) (r:V->List V->Hp->VK->Prop) (to:TE) (t:TA):TE:=λσ H Q=>to σ H λx H1=>ye K T x H1/\t σ H1 λxs H2=>r x xs H2 Q
variable {o e:Expr} {es:List Expr} {to:TE} {t:TA} {name:Str} {apos cpos:Pos} {T id:String} {r:V->List V->Hp->VK->Prop}
theorem vr (pa:PlainAttrs T) (slot:Slot T name id) (hty:typeOf (.builtin id)=pure (.type "method_descriptor")) (hm:vC X id r) (ho:JE X o to) (hbase:attributeBase o name X.env (eval o X.env)=eval o X.env:=by rfl) (hline:(apos.endLine==cpos.line)=true:=by rfl):JE X (.Call (.Attribute o name apos) [] [] cpos) (yr X.K T r to):=.of (by
 have ho:=ho.to
 intro pins s σ H Q I h
 refine wpAny_Call_method0_late hbase hline (qO (ho pins s σ H _ I h) λv s1 ⟨x,H1,I1,r1,ty,q1⟩=>?_)
 obtain⟨h1,h2⟩:=X8 I1 r1 ty
 exact⟨T,id,pa,slot,hty,h1,h2,Calls.callWith_builtin rfl (PySem.evalArgs_none (hm pins s1 σ H1 x [] v [] Q I1 r1 .nil q1))⟩)
theorem kq (pa:PlainAttrs T) (slot:Slot T name id) (hty:typeOf (.builtin id)=pure (.type "method_descriptor")) (hm:vC X id r) (ho:PE X o to) (ha:PA X (e::es) t)
   (hbase:attributeBase o name X.env (eval o X.env)=eval o X.env:=by rfl)
   (hfew:((backTo cpos (starEach (e::es) X.env)).all (λx=> !x.1)&&(backToKw cpos (keywordEach [] X.env)).all (λx=>x.1.isSome)
     &&decide ((e::es).length+([]:List Keyword).length+(if ([]:List Keyword).isEmpty then 0 else 1) < 30))=true:=by rfl)
   (hline:(apos.endLine==cpos.line)=true:=by rfl) (hs:starEach (e::es) X.env=(false,eval e X.env)::starEach es X.env:=by rfl) (hplain:(backTo cpos (starEach es X.env)).any (·.1)=false:=by rfl):
   PE X (.Call (.Attribute o name apos) (e::es) [] cpos) (yt X.K T r to t):=by
 intro pins s σ H Q I h
 refine wpAny_Call_method_late hbase hfew hline rfl (qO (ho pins s σ H _ I h) λv s1 ⟨x,H1,I1,r1,ty,q1⟩=>?_)
 obtain⟨h1,h2⟩:=X8 I1 r1 ty
 refine⟨T,id,pa,slot,hty,h1,h2,?_⟩
 have hA:=ha cpos pins s1 σ H1 _ I1 q1
 rw[hs]at hA ⊢
 refine Calls.callWith_builtin (by show (false || (backTo cpos (starEach es X.env)).any (·.1))=false;rw[hplain]<;>rfl) (Calls.evalArgs_plain ?_)
 exact qO hA λus s2 ⟨vs,H2,I2,r2,q2⟩=>hm pins s2 σ H2 x vs v us Q I2 r1 r2 q2
theorem QI (pa:PlainAttrs T) (slot:Slot T name id) (hty:typeOf (.builtin id)=pure (.type "method_descriptor")) (hm:vC X id r) (ho:JE X o to) (ha:JA X (e::es) t) (hbase:attributeBase o name X.env (eval o X.env)=eval o X.env:=by rfl) (hfew:((backTo cpos (starEach (e::es) X.env)).all (λx=> !x.1)&&(backToKw cpos (keywordEach [] X.env)).all (λx=>x.1.isSome)
     &&decide ((e::es).length+([]:List Keyword).length+(if ([]:List Keyword).isEmpty then 0 else 1) < 30))=true:=by rfl) (hline:(apos.endLine==cpos.line)=true:=by rfl) (hs:starEach (e::es) X.env=(false,eval e X.env)::starEach es X.env:=by rfl) (hplain:(backTo cpos (starEach es X.env)).any (·.1)=false:=by rfl):JE X (.Call (.Attribute o name apos) (e::es) [] cpos) (yt X.K T r to t):=.of (kq pa slot hty hm ho.to ha.to hbase hfew hline hs hplain)
end
end L2
namespace L2
open PySem PySem.Spec PyProof.Rows
def MtM (X:Cx) (id:String) (r:V->List V->Hp->VK->Prop):Prop:=
 ∀(pins:List (Addr×Obj)) (s:Shared) (σ:St) (H:Hp) (x:V) (xs:List V) (v:Value) (us:List Value) (Q:VK),qp X pins σ H s->qA x v->qy xs us->r x xs H Q->
   wpAny (model X.prog X.w) X.A (call (.builtin id) (v::us)) (EP X pins σ Q) X.xe s
theorem qy.one:∀{x:V} {us:List Value},qy [x] us->∃u,us=[u]/\qA x u
 | _,_,.cons r .nil=>⟨_,rfl,r⟩
section
variable {X:Cx} {pins:List (Addr×Obj)} {σ:St} {H:Hp} {s:Shared} {l b:Addr} {xs ys zs:List V}
theorem qp.lset {its its':List Value} {n:Nat} {f:Array Value->Array Value} {t':Nat} (I:qp X pins σ H s) (hH:H l=some (.lst xs))
   (e:s.heap.get? l=some {cls:=.type "list",data:=.seq its.toArray n}) (hf:f its.toArray=its'.toArray) (hv:qy ys its') (hz:ys.length<=sizeLine):
   qp X pins σ (qr H l (.lst ys)) {s with heap:=s.heap.update l (Obj.mapSeq f),toks:=t'}:=by
 have q:=PySem.IsL.update e f
 rw[hf]at q
 refine I.write (x:=l) (e:=l) (by rw[hH];exact trivial) (.inl rfl) (λb' u hb hu=>(Heap.get?_update_other s.heap (Obj.mapSeq f) (Ne.symm hb)).trans hu) ⟨_,q⟩ ?_
 exact⟨hz,its',_,hv,q⟩
theorem qp.lstM (I:qp X pins σ H s) (hH:H l=some (.lst xs)):xs.length<=sizeLine/\∃(its:List Value) (n:Nat),qy xs its/\xs.length=its.length/\s.heap.get? l=some {cls:=.type "list",data:=.seq its.toArray n}:=by
 obtain⟨z,its,n,r,e⟩:=I.hok l _ hH
 exact⟨z,its,n,r,r.length,e⟩
end
section
variable {X:Cx}
def VQ:V->List V->Hp->VK->Prop:=λx vs H Q=>∃l xs y,x=.ref l/\vs=[y]/\H l=some (.lst xs)/\xs.length < sizeLine/\Q .non (qr H l (.lst (xs++[y])))
theorem Zz:MtM X "list.append" VQ:=by
 intro pins s σ H x vs v us Q I rx rv h
 obtain⟨l,xs,y,rfl,rfl,hH,hz,q⟩:=h
 cases rx
 obtain⟨u,rfl,ru⟩:=rv.one
 obtain⟨z,its,n,r,hl,e⟩:=I.lstM hH
 refine call_meets F.slot_list_append ⟨_,e,rfl⟩ F.entry_list_append (F.args_list_append_2 _ _) (PySem.list_append l its.toArray n u (by rw[List.size_toArray];omega)) ⟨e,?_⟩
 refine⟨.non,_,I.lset (its':=its++[u]) hH e (by simp) (r.append (.cons ru .nil)) ?_,rfl,q⟩
 rw[List.length_append,List.length_singleton]
 omega
end
section
variable {prog:Program} {w:World} {A:Around} {E:Value->Shared->Prop} {s:Shared}
set_option maxRecDepth 100000 in
end
section
variable {X:Cx}
end
end L2
namespace L2
open PySem PySem.Spec PyProof.Rows
section
variable {κ:Type} [DecidableEq κ]
def QR (kvs:List (κ×V)) (k:κ):Option V:=(kvs.find? λkv=>decide (kv.1=k)).map (·.2)
def jY (kvs:List (κ×V)) (k:κ) (v:V):List (κ×V):=
 if (kvs.any λkv=>decide (kv.1=k))=true then kvs.map (λkv=>if kv.1=k then (kv.1,v) else kv) else kvs++[(k,v)]
theorem jV {p:κ×V} {r:List (κ×V)} {k:κ} (e:p.1=k):QR (p::r) k=some p.2:=by simp [QR,List.find?_cons,e]
theorem jW {p:κ×V} {r:List (κ×V)} {k:κ} (e:¬p.1=k):QR (p::r) k=QR r k:=by simp [QR,List.find?_cons,e]
theorem zt (k:κ):∀kvs:List (κ×V),(kvs.any λkv=>decide (kv.1=k))=(QR kvs k).isSome
 | []=>rfl
 | p::r=>by
   rw[List.any_cons]
   by_cases e:p.1=k
   . simp only[jV e,decide_eq_true e,Bool.true_or,Option.isSome_some]
   . rw[jW e,decide_eq_false e,Bool.false_or];exact zt k r
theorem Qj (kvs:List (κ×V)) (k:κ) (v:V):(jY kvs k v).length<=kvs.length+1:=by
 unfold jY
 split
 . rw[List.length_map];omega
 . rw[List.length_append,List.length_cons,List.length_nil];omega
theorem Qc.isSome_eq {o:Option V} {u:Option Value} (r:Qc o u):o.isSome=u.isSome:=by
 cases o with
 | none=>cases u with
   | none=>rfl
   | some _=>exact(show False from r).elim
 | some _=>cases u with
   | none=>exact(show False from r).elim
   | some _=>rfl
theorem KV.val {kvs:List (κ×V)} {vs:List (κ×Value)} (r:KV kvs vs) (k:κ):Qc (QR kvs k) (valueAt vs k):=by
 unfold KV at r
 induction r with
 | nil=>exact True.intro
 | @cons p q ps qs h t ih=>
   obtain⟨h1,h2⟩:=h
   by_cases e:p.1=k
   . have e':q.1=k:=h1.symm.trans e
     have b:valueAt (q::qs) k=some q.2:=by simp [valueAt,List.find?_cons,e']
     rw[jV e,b];exact h2
   . have e':¬q.1=k:=λz=>e (h1.trans z)
     have b:valueAt (q::qs) k=valueAt qs k:=by simp [valueAt,List.find?_cons,e']
     rw[jW e,b];exact ih
theorem KV.any {kvs:List (κ×V)} {vs:List (κ×Value)} (r:KV kvs vs) (k:κ):(kvs.any λkv=>decide (kv.1=k))=vs.any λkv=>decide (kv.1=k):=by
 unfold KV at r
 induction r with
 | nil=>rfl
 | cons h t ih=>rw[List.any_cons,List.any_cons,ih,h.1]
theorem KV.repl {kvs:List (κ×V)} {vs:List (κ×Value)} (r:KV kvs vs) (k:κ) {y:V} {u:Value} (ry:qA y u):
   KV (kvs.map λkv=>if kv.1=k then (kv.1,y) else kv) (vs.map λkv=>if kv.1=k then (kv.1,u) else kv):=by
 unfold KV at r ⊢
 induction r with
 | nil=>exact .nil
 | @cons p q ps qs h t ih=>
   rw[List.map_cons,List.map_cons]
   refine .cons ?_ ih
   obtain⟨h1,h2⟩:=h
   by_cases e:p.1=k
   . rw[if_pos e,if_pos (h1.symm.trans e)];exact⟨h1,ry⟩
   . rw[if_neg e,if_neg (λz=>e (h1.trans z))];exact⟨h1,h2⟩
theorem KV.put {kvs:List (κ×V)} {vs:List (κ×Value)} (r:KV kvs vs) (k:κ) {y:V} {u:Value} (ry:qA y u):KV (jY kvs k y) (stored vs k u):=by
 unfold jY stored
 rw[r.any k]
 by_cases e:(vs.any λkv=>decide (kv.1=k))=true
 . rw[if_pos e,if_pos e];exact r.repl k ry
 . rw[if_neg e,if_neg e];exact Paired.snoc r ⟨rfl,ry⟩
theorem KV.length {kvs:List (κ×V)} {vs:List (κ×Value)} (r:KV kvs vs):kvs.length=vs.length:=Paired.length r
end
theorem Y3 {P:Program} {w:World} {k:qU} {u:Value} (r:qA (kV k) u):(qP P w).is k u=true:=by
 cases k with
 | inl i=>obtain⟨t,e⟩:=(show ∃t,u=Value.int i t from r);subst e;exact zL P w i t
 | inr x=>obtain⟨t,e⟩:=(show ∃t,u=Value.str x t from r);subst e;exact zK P w x t
theorem ZG {P:Program} {w:World}:∀{ks:List qU} {us:List Value},qy (ks.map kV) us->ItemsAre (qP P w) ks us
 | [],_,r=>by rw[List.map_nil]at r;cases r;exact .nil
 | k::ks,_,r=>by
   rw[List.map_cons]at r
   cases r with
   | cons h t=>exact .cons (Y3 h) (ZG t)
abbrev KT (H:Hp):List (List qU×V)->List (List qU×Addr×Value)->Prop:=Paired λp q=>p.1=q.1/\H q.2.1=some (.tup (p.1.map kV))/\qA p.2 q.2.2
theorem KT.val {H:Hp} {kvs:List (List qU×V)} {xs:List (List qU×Addr×Value)} (r:KT H kvs xs) (k:List qU):Qc (QR kvs k) ((atKey xs k).map (·.2)):=by
 induction r with
 | nil=>exact True.intro
 | @cons p q ps qs h t ih=>
   obtain⟨h1,_,h2⟩:=h
   by_cases e:p.1=k
   . have e':q.1=k:=h1.symm.trans e
     have b:atKey (q::qs) k=some q.2:=by simp [atKey,List.find?_cons,e']
     rw[jV e,b];exact h2
   . have e':¬q.1=k:=λz=>e (h1.trans z)
     have b:atKey (q::qs) k=atKey qs k:=by simp [atKey,List.find?_cons,e']
     rw[jW e,b];exact ih
theorem KT.repl {H:Hp} {kvs:List (List qU×V)} {xs:List (List qU×Addr×Value)} (r:KT H kvs xs) (k:List qU) {y:V} {u:Value} (ry:qA y u):
   KT H (kvs.map λkv=>if kv.1=k then (kv.1,y) else kv) (xs.map (putAt k u)):=by
 induction r with
 | nil=>exact .nil
 | @cons p q ps qs h t ih=>
   rw[List.map_cons,List.map_cons]
   refine .cons ?_ ih
   obtain⟨h1,h2,h3⟩:=h
   unfold putAt
   by_cases e:p.1=k
   . rw[if_pos e,if_pos (h1.symm.trans e)];exact⟨h1,h2,ry⟩
   . rw[if_neg e,if_neg (λz=>e (h1.trans z))];exact⟨h1,h2,h3⟩
theorem KT.put {H:Hp} {kvs:List (List qU×V)} {xs:List (List qU×Addr×Value)} (r:KT H kvs xs) (k:List qU) {b:Addr} {y:V} {u:Value} (hb:H b=some (.tup (k.map kV))) (ry:qA y u):
   KT H (jY kvs k y) (storedH xs k b u):=by
 have e:(kvs.any λkv=>decide (kv.1=k))=(atKey xs k).isSome:=by
   rw[zt,(r.val k).isSome_eq,Option.isSome_map]
 unfold jY storedH
 rw[e]
 by_cases q:(atKey xs k).isSome=true
 . rw[if_pos q,if_pos q];exact r.repl k ry
 . rw[if_neg q,if_neg q];exact Paired.snoc r ⟨rfl,hb,ry⟩
theorem KT.keeps {H H':Hp} {kvs:List (List qU×V)} {xs:List (List qU×Addr×Value)} (r:KT H kvs xs) (ht:∀b ys,H b=some (.tup ys)->H' b=some (.tup ys)):KT H' kvs xs:=
 Paired.mapP r λ_ _ z=>⟨z.1,ht _ _ z.2.1,z.2.2⟩
section
variable {P:Program} {w:World} {H:Hp} {h:Heap} {a:Addr}
theorem Ut {u:HO} (ok:Qa P w H h) (e:Rd H a u):qw P w H h a u:=e.ok ok
theorem Vd {kvs:List (qU×V)} (ok:Qa P w H h) (e:Rd H a (.dK kvs)):kvs.length<=sizeLine/\(a==sysModules)=false/\∃vs,KV kvs vs/\h.DictOf (qP P w) a vs:=
 show qw P w H h a (.dK kvs) from Ut ok e
theorem UC {kvs:List (qU×V)} (ok:Qa P w H h) (e:H a=some (.dK kvs)):kvs.length<=sizeLine/\(a==sysModules)=false/\∃vs,KV kvs vs/\h.DictOf (qP P w) a vs:=Vd ok (.inl e)
theorem Ys {ks:List qU} (ok:Qa P w H h) (e:H a=some (.tup (ks.map kV))):(tupleKind (qP P w)).is h ks a:=by
 obtain⟨_,its,r,o,h1,h2,n,h3⟩:=(show qw P w H h a (.tup (ks.map kV)) from ok a _ e)
 exact⟨o,its.toArray,n,h1,h2,h3,by simpa using ZG r⟩
theorem Vc {kvs:List (List qU×V)} (ok:Qa P w H h) (e:Rd H a (.dT kvs)):kvs.length<=sizeLine/\(a==sysModules)=false/\
   ∃xs,KT H kvs xs/\h.DictOfH (tupleKind (qP P w)) a xs:=by
 obtain⟨z,y,xs,r,o,es,ep,h1,h2,h3,h4,h5⟩:=(show qw P w H h a (.dT kvs) from Ut ok e)
 refine⟨z,y,xs,r,o,es,ep,h1,h2,h3,h4,λx hx=>?_,h5⟩
 have all:∀{l:List (List qU×V)} {m:List (List qU×Addr×Value)},KT H l m->∀x∈m,(tupleKind (qP P w)).is h x.1 x.2.1:=by
   intro l m q
   induction q with
   | nil=>intro x hx;exact nomatch hx
   | @cons p q ps qs hq t ih=>
     intro x hx
     rcases List.mem_cons.mp hx with e | hx
     . subst e
       exact Ys ok (by rw[<-hq.1];exact hq.2.1)
     . exact ih x hx
 exact all r x hx
theorem kS {kvs:List (List qU×V)} (ok:Qa P w H h) (e:H a=some (.dT kvs)):kvs.length<=sizeLine/\(a==sysModules)=false/\
   ∃xs,KT H kvs xs/\h.DictOfH (tupleKind (qP P w)) a xs:=Vc ok (.inl e)
end
def Zl (H:Hp) (a:Addr) (y:V) (r:Option V):Prop:=
 (∃kvs k,Rd H a (.dK kvs)/\y=kV k/\r=QR kvs k)\/∃kvs k b,Rd H a (.dT kvs)/\y=.ref b/\H b=some (.tup (k.map kV))/\r=QR kvs k
def z6 (H:Hp) (a:Addr) (y v:V) (H':Hp):Prop:=
 (∃kvs k,H a=some (.dK kvs)/\y=kV k/\kvs.length < sizeLine/\H'=qr H a (.dK (jY kvs k v)))\/
 ∃kvs k b,H a=some (.dT kvs)/\y=.ref b/\H b=some (.tup (k.map kV))/\kvs.length < sizeLine/\H'=qr H a (.dT (jY kvs k v))
theorem Zl.k {H:Hp} {a:Addr} {kvs:List (qU×V)} {k:qU} (e:H a=some (.dK kvs)):Zl H a (kV k) (QR kvs k):=.inl ⟨kvs,k,.inl e,rfl,rfl⟩
theorem z6.k {H:Hp} {a:Addr} {kvs:List (qU×V)} {k:qU} {v:V} (e:H a=some (.dK kvs)) (hl:kvs.length < sizeLine):z6 H a (kV k) v (qr H a (.dK (jY kvs k v))):=.inl ⟨kvs,k,e,rfl,hl,rfl⟩
section
variable {X:Cx} {pins:List (Addr×Obj)} {σ:St} {H:Hp} {s:Shared} {a:Addr} {y v:V} {u r:Value} {o:Option V} {A:Around} {E:Value->Shared->Prop}
theorem qp.big (I:qp X pins σ H s):sysModules < s.heap.objs.size:=by
 have h:mainGlobals < s.heap.objs.size:=(I.mod.glob.keeps I.bk).lt
 exact Nat.lt_trans (by decide) h
theorem XV {Q:Value->Shared->Prop} (hu:A.units+1 < cLine) (I:qp X pins σ H s) (g:Zl H a y (some v)) (ry:qA y u) (h:∀w' s',qp X pins σ H s'->qA v w'->Q w' s'):
   wpAny (model X.prog X.w) A (getItem (.ref a) u) Q E s:=by
 rcases g with ⟨kvs,k,e,ey,l⟩ | ⟨kvs,k,b,e,ey,eb,l⟩
 . subst ey
   obtain⟨z,hd,vs,rel,dd⟩:=Vd I.hok e
   obtain⟨w',hw,rw'⟩:=Qc.some_of (v:=v) (o:=valueAt vs k) (by rw[l];exact rel.val k)
   exact wpAny_getItem_of (Y3 ry) dd.mapOf hw (h w' _ (I.tok _) rw')
 . subst ey
   cases (show u=Value.ref b from ry)
   obtain⟨z,hd,xs,rel,dd⟩:=Vc I.hok e
   obtain⟨w',hw,rw'⟩:=Qc.some_of (v:=v) (o:=(atKey xs k).map (·.2)) (by rw[l];exact rel.val k)
   obtain⟨p,hp,hp2⟩:=Option.map_eq_some_iff.mp hw
   refine wpAny_getItem_heap (tupleKind_room_in1 hu) (Ys I.hok eb) dd hp ?_
   rw[hp2]
   exact h w' _ (I.tok _) rw'
theorem zh {h':Heap} {t':Nat} {ob:HO} (I:qp X pins σ H s) (mu:vL (H a)) (hs:Heap.SameBut a s.heap h') (he:∃q,h'.get? a=some q) (new:qw X.prog X.w (qr H a ob) h' a ob):
   qp X pins σ (qr H a ob) {s with heap:=h',toks:=t'}:=
 I.write (x:=a) (e:=a) mu (.inl rfl) (λb q hb z=>(hs.2 b hb).trans z) he new
theorem Ve {P:Program} {w:World} {H':Hp} {h':Heap} {kvs:List (qU×V)} {vs:List (qU×Value)} (z:kvs.length<=sizeLine) (hd:(a==sysModules)=false) (rel:KV kvs vs) (dd:h'.DictOf (qP P w) a vs):
   qw P w H' h' a (.dK kvs):=⟨z,hd,vs,rel,dd⟩
theorem XU {H':Hp} {Q:Unit->Shared->Prop} (hu:A.units+1 < cLine) (I:qp X pins σ H s) (g:z6 H a y v H') (ry:qA y u) (rv:qA v r) (h:∀s',qp X pins σ H' s'->Q () s'):
   wpAny (model X.prog X.w) A (setItem (.ref a) u r) Q E s:=by
 rcases g with ⟨kvs,k,e,ey,l,eH⟩ | ⟨kvs,k,b,e,ey,eb,l,eH⟩
 . subst ey eH
   obtain⟨z,hd,vs,rel,dd⟩:=UC I.hok e
   have hz:vs.length<=sizeLine:=by rw[<-rel.length];exact z
   have hl:(jY kvs k v).length<=sizeLine:=by have:=Qj kvs k v;omega
   refine wpAny_setItem_pairs (hsz:=hz) (Y3 ry) dd λh' dd' hs=>h _ ?_
   have he:∃q,h'.get? a=some q:=let ⟨q,_,_,hq,_⟩:=dd';⟨q,hq⟩
   exact zh I (by rw[e];exact True.intro) hs he (Ve hl hd (rel.put k rv) dd')
 . subst ey eH
   cases (show u=Value.ref b from ry)
   obtain⟨z,hd,xs,rel,dd⟩:=kS I.hok e
   have hz:xs.length<=sizeLine:=by rw[<-Paired.length rel];exact z
   have hl:(jY kvs k v).length<=sizeLine:=by have:=Qj kvs k v;omega
   refine wpAny_setItem_heap (hsz:=hz) (tupleKind_room_in1 hu) (Ys I.hok eb) dd λh' dd' hs=>h _ ?_
   obtain⟨q,es,ep,hq,h2,h3,h4,_,h5⟩:=dd'
   refine zh I (by rw[e];exact True.intro) hs ⟨q,hq⟩ ⟨hl,hd,_,(rel.put k eb rv).keeps λc ys ec=>?_,q,es,ep,hq,h2,h3,h4,h5⟩
   rw[qg (kB ec e (λz=>nomatch z))]
   exact ec
end
section
variable {X:Cx} {pins:List (Addr×Obj)} {σ:St} {H:Hp} {s:Shared} {a:Addr} {kvs:List (qU×V)} {k:qU} {u:Value} {A:Around} {E:Value->Shared->Prop}
end
def kX (i:Expr):Prop:=∀ov iv,subscripted i false ov iv=operate [ov,iv] (getItem ov iv)
theorem VC {prog:Program} {w:World} {A:Around} {E:Value->Shared->Prop} {s:Shared} {env:Env} {value slice:Expr} {pos:Pos} {T id:String} {Q:Value->Shared->Prop}
   (hl:typeLookup (.type T) "__getitem__"=pure (some (.builtin id))) (hs:kX slice)
   (h:wpAny (model prog w) A (eval value env) (λo s₁=>wpAny (model prog w) A (eval slice env) (λi s₂=>s₂.TypeIs o T/\wpAny (model prog w) A (getItem o i) Q E s₂) E s₁) E s):
   wpAny (model prog w) A (eval (.Subscript value slice pos) env) Q E s:=by
 refine Subscript_ (wpAny_mono h (λo s₁ h₁=>wpAny_mono h₁ (λi s₂ h₂=>?_) λ_ _ x=>x) λ_ _ x=>x)
 obtain⟨hT,h₂⟩:=h₂
 unfold subscriptTail
 refine wpAny_bind ?_
 rw[getitemInPython_of_ne hT.not_modules]
 refine wpAny_bind (wpAny_specialOf hT hl ?_)
 have fin:wpAny (model prog w) A (subscripted slice false o i) (λr s₃=>wpAny (model prog w) A (letTemporaryGo value o r >>= λ_=>pure r) Q E s₃) E s₂:=by
   rw[hs o i]
   exact wpAny_operating (wpAny_mono h₂ (λr s₃ h₃=>wpAny_bind (wpAny_letTemporaryGo (wpAny_pure h₃))) λ_ _ x=>x)
 first
   | exact wpAny_pure (wpAny_bind fin)
   | exact wpAny_bind (wpAny_pure (wpAny_bind fin))
   | exact wpAny_bind fin
theorem zU {X:Cx} {pins:List (Addr×Obj)} {σ:St} {H:Hp} {s:Shared} {a:Addr} {y:V} {o:Option V} (I:qp X pins σ H s) (g:Zl H a y o):s.TypeIs (.ref a) "dict":=by
 rcases g with ⟨kvs,k,e,_,_⟩ | ⟨kvs,k,b,e,_,_,_⟩
 . obtain⟨_,_,vs,_,dd⟩:=Vd I.hok e
   exact dd.typeIs
 . obtain⟨_,_,xs,_,dd⟩:=Vc I.hok e
   exact dd.typeIs
def vV (td ty:TE):TE:=λσ H Q=>td σ H λx H1=>ty σ H1 λy H2=>∃a v,x=.ref a/\Zl H2 a y (some v)/\Q v H2
def kf (td ty tv:TE):TS:=λD σ H=>tv σ H λv H1=>td σ H1 λx H2=>ty σ H2 λy H3=>∃a H4,x=.ref a/\z6 H3 a y v H4/\D.nx σ H4
section
variable {X:Cx} {o i e value:Expr} {pos pos' tpos:Pos} {td ty tv:TE}
theorem j8 (hu:X.A.units+1 < cLine) (ho:JE X o td) (hi:JE X i ty) (hs:kX i):JE X (.Subscript o i pos) (vV td ty):=.of (by
 have ho:=ho.to
 have hi:=hi.to
 intro pins s σ H Q I h
 refine VC PySem.F.slot_dict_getitem.lookup hs (qO (ho pins s σ H _ I h) λu s1 ⟨x,H1,I1,rx,q1⟩=>qO (hi pins s1 σ H1 _ I1 q1) λiv s2 ⟨y,H2,I2,ry,a,v,ex,g,q2⟩=>?_)
 subst ex
 obtain rfl:u=Value.ref a:=rx
 exact⟨zU I2 g,XV hu I2 g ry λw' s3 I3 rw'=>⟨v,H2,I3,rw',q2⟩⟩)
theorem Y6 (hu:X.A.units+1 < cLine) (ho:JE X o td) (hi:JE X i ty) (hv:JE X value tv) (hs:swapsWith value (some (.Subscript o i pos')) pos.line X.env=pure false):JS X (.Assign [.Subscript o i pos'] value pos) (kf td ty tv):=.of (by
 have ho:=ho.to
 have hi:=hi.to
 have hv:=hv.to
 intro pins s σ H D I h
 refine wpAny_Assign_Subscript (qO (hv pins s σ H _ I h) λr s1 ⟨v,H1,I1,rv,q1⟩=>qO (ho pins s1 σ H1 _ I1 q1) λu s2 ⟨x,H2,I2,rx,q2⟩=>qO (hi pins s2 σ H2 _ I2 q2) λiv s3 ⟨y,H3,I3,ry,a,H4,ex,g,q3⟩=>?_) hs
 subst ex
 obtain rfl:u=Value.ref a:=rx
 exact XU hu I3 g ry rv λs4 I4=>⟨σ,H4,I4,q3⟩)
end
theorem Vf {P:Program} {w:World} {H:Hp} (h:Heap) (hb:sysModules < h.objs.size):qw P w H (h.push {cls:=.type "dict",data:=.dict #[]}) h.objs.size (.dK []):=
 ⟨Nat.zero_le _,beq_eq_false_iff_ne.mpr (Ne.symm (Nat.ne_of_lt hb)),[],.nil,Heap.DictOf.new h⟩
section
variable {X:Cx} {pos:Pos}
end
def Yb:List (TE×TE)->St->Hp->(List (V×V)->Hp->Prop)->Prop
 | [],_,H,Q=>Q [] H
 | (tk,tv)::r,σ,H,Q=>tk σ H λx H1=>tv σ H1 λy H2=>Yb r σ H2 λps H3=>Q ((x,y)::ps) H3
abbrev VV:List (V×V)->List (Value×Value)->Prop:=Paired λp q=>qA p.1 q.1/\qA p.2 q.2
def kW (X:Cx) (pos:Pos) (keys:List (Option Expr)) (values:List Expr) (trs:List (TE×TE)):Prop:=
 ∀(pins:List (Addr×Obj)) (s:Shared) (σ:St) (H:Hp) (Q:List (V×V)->Hp->Prop),qp X pins σ H s->Yb trs σ H Q->
   wpAny (model X.prog X.w) X.A (evalPairs (pairTrees keys values X.env pos)) (λvs s'=>∃ps H',qp X pins σ H' s'/\VV ps vs/\Q ps H') X.xe s
@[irreducible] def Vu (X:Cx) (pos:Pos) (keys:List (Option Expr)) (values:List Expr) (trs:List (TE×TE)):Prop:=kW X pos keys values trs
theorem Vu.of {X:Cx} {pos:Pos} {keys:List (Option Expr)} {values:List Expr} {trs:List (TE×TE)} (h:kW X pos keys values trs):Vu X pos keys values trs:=by unfold Vu;exact h
theorem Vu.to {X:Cx} {pos:Pos} {keys:List (Option Expr)} {values:List Expr} {trs:List (TE×TE)} (h:Vu X pos keys values trs):kW X pos keys values trs:=by unfold Vu at h;exact h
theorem V2 {X:Cx} {pos:Pos}:Vu X pos [] [] []:=.of (by
 exact λpins s σ H Q I h=>pairTrees_nil_walk ⟨[],H,I,.nil,h⟩)
theorem Wx {X:Cx} {pos:Pos} {k v:Expr} {ks:List (Option Expr)} {vs:List Expr} {tk tv:TE} {trs:List (TE×TE)} (hk:PE X k tk) (hv:PE X v tv) (hr:kW X pos ks vs trs):
   kW X pos (some k::ks) (v::vs) ((tk,tv)::trs):=λpins s σ H Q I h=>
 pairTrees_cons_walk (qO (hk pins s σ H _ I h) λu s1 ⟨x,H1,I1,rx,q1⟩=>qO (hv pins s1 σ H1 _ I1 q1) λw2 s2 ⟨y,H2,I2,ry,q2⟩=>
   qO (hr pins s2 σ H2 _ I2 q2) λws s3 ⟨ps,H3,I3,rel,q3⟩=>⟨(x,y)::ps,H3,I3,.cons ⟨rx,ry⟩ rel,q3⟩)
theorem Zb {X:Cx} {pos:Pos} {k v:Expr} {ks:List (Option Expr)} {vs:List Expr} {tk tv:TE} {trs:List (TE×TE)} (hk:JE X k tk) (hv:JE X v tv) (hr:Vu X pos ks vs trs):Vu X pos (some k::ks) (v::vs) ((tk,tv)::trs):=.of (Wx hk.to hv.to hr.to)
def QL (kvs more:List (qU×V)):List (qU×V):=more.foldl (λacc kv=>jY acc kv.1 kv.2) kvs
theorem KV.merge:∀{more:List (qU×V)} {rs:List (qU×Value)} {kvs:List (qU×V)} {vs:List (qU×Value)},KV more rs->KV kvs vs->KV (QL kvs more) (merged vs rs):=by
 intro more rs kvs vs r
 unfold KV at r
 induction r generalizing kvs vs with
 | nil=>intro q;exact q
 | @cons p q ps qs h t ih=>
   intro r0
   have e:KV (jY kvs p.1 p.2) (stored vs q.1 q.2):=by
     have:=r0.put p.1 h.2
     rw[<-h.1];exact this
   exact ih e
theorem QH:∀(more kvs:List (qU×V)),(QL kvs more).length<=kvs.length+more.length
 | [],kvs=>by show kvs.length<=kvs.length+0;omega
 | p::r,kvs=>by
   have h1:=QH r (jY kvs p.1 p.2)
   have h2:=Qj kvs p.1 p.2
   show (QL (jY kvs p.1 p.2) r).length<=_
   rw[List.length_cons];omega
theorem Zh {P:Program} {w:World}:∀{kvs:List (qU×V)} {ws:List (Value×Value)},VV (kvs.map λkv=>(kV kv.1,kv.2)) ws->∃rs,Carries (qP P w) ws rs/\KV kvs rs
 | [],_,r=>by rw[List.map_nil]at r;cases r;exact⟨[],True.intro,.nil⟩
 | p::kvs,_,r=>by
   rw[List.map_cons]at r
   cases r with
   | @cons a b as bs h t=>
     obtain⟨rs,c,q⟩:=Zh (P:=P) (w:=w) t
     obtain⟨b1,b2⟩:=b
     exact⟨(p.1,b2)::rs,⟨Y3 h.1,rfl,c⟩,.cons ⟨rfl,h.2⟩ q⟩
def vU (trs:List (TE×TE)):TE:=λσ H Q=>∀p,H p=none->Yb trs σ (qr H p (.dK [])) λps H2=>H2 p=some (.dK [])/\∃kvs:List (qU×V),ps=kvs.map (λkv=>(kV kv.1,kv.2))/\kvs.length<=15/\Q (.ref p) (qr H2 p (.dK (QL [] kvs)))
theorem V5 {X:Cx} {pos:Pos} {keys:List (Option Expr)} {values:List Expr} {trs:List (TE×TE)} (h:Vu X pos keys values trs) (hall:keys.all (·.isSome)=true) (hl:keys.length=values.length) (h0:keys≠[]) (h15:keys.length<=15):JE X (.Dict keys values pos) (vU trs):=.of (by
 have h:=h.to
 intro pins s σ H Q I q
 have hn:=I.hok.fresh (Nat.le_refl s.heap.objs.size)
 have I1:=I.laid (a:=s.heap.objs.size) (o:=.dK []) (h':=s.heap.push {cls:=.type "dict",data:=.dict #[]}) (t':=s.toks) (λ_ _ q=>Heap.get?_push_of_some _ q) (Nat.le_refl _) (Vf s.heap I.big)
 refine wpAny_Dict_walk (knd:=qP X.prog X.w) hall hl h0 h15 (qO (h pins _ σ _ _ I1 (q _ hn)) λws s2 ⟨ps,H2,I2,rel,e,kvs,ep,lk,q2⟩=>?_)
 subst ep
 obtain⟨rs,c,rk⟩:=Zh (P:=X.prog) (w:=X.w) rel
 obtain⟨z,hd,vs0,r0,dd⟩:=UC I2.hok e
 cases r0
 refine⟨rs,c,dd,λh' dd' hs=>⟨.ref s.heap.objs.size,_,?_,rfl,q2⟩⟩
 have hz:(QL [] kvs).length<=sizeLine:=by
   have h1:=QH kvs []
   rw[List.length_nil]at h1
   rw[sizeLine_eq];omega
 have he:∃q,h'.get? s.heap.objs.size=some q:=let ⟨q,_,_,hq,_⟩:=dd';⟨q,hq⟩
 exact zh I2 (by rw[e];exact True.intro) hs he (Ve hz hd (rk.merge .nil) dd'))
structure M1 (X:Cx) (o:Expr) (m:Str) (apos:Pos) (e:Expr) (cpos:Pos):Prop where
 base:attributeBase o m X.env (eval o X.env)=eval o X.env
 few:((backTo cpos (starEach [e] X.env)).all (λx=> !x.1)&&(backToKw cpos (keywordEach [] X.env)).all (λx=>x.1.isSome)
   &&decide (([e]:List Expr).length+([]:List Keyword).length+(if ([]:List Keyword).isEmpty then 0 else 1) < 30))=true
 line:(apos.endLine==cpos.line)=true
 trees:backTo cpos (starEach [e] X.env)=[(false,eval e X.env)]
structure M2 (X:Cx) (o:Expr) (m:Str) (apos:Pos) (e f:Expr) (cpos:Pos):Prop where
 base:attributeBase o m X.env (eval o X.env)=eval o X.env
 few:((backTo cpos (starEach [e,f] X.env)).all (λx=> !x.1)&&(backToKw cpos (keywordEach [] X.env)).all (λx=>x.1.isSome)
   &&decide (([e,f]:List Expr).length+([]:List Keyword).length+(if ([]:List Keyword).isEmpty then 0 else 1) < 30))=true
 line:(apos.endLine==cpos.line)=true
 trees:backTo cpos (starEach [e,f] X.env)=[(false,eval e X.env),(false,eval f X.env)]
section
variable {X:Cx} {pins:List (Addr×Obj)} {σ:St} {H:Hp} {s:Shared} {a:Addr} {y d:V} {u r:Value} {o:Option V} {A:Around} {E:Value->Shared->Prop}
end
section
variable {X:Cx} {o e f:Expr} {apos cpos:Pos} {td ty tx:TE}
end
section
variable {X:Cx} {pins:List (Addr×Obj)} {σ:St} {H:Hp} {s:Shared} {a:Addr} {kvs:List (qU×V)} {A:Around} {E:Value->Shared->Prop}
end
section
variable {X:Cx} {pins:List (Addr×Obj)} {σ:St} {H:Hp} {s:Shared} {a:Addr} {y:V} {u:Value} {A:Around} {E:Value->Shared->Prop}
end
end L2
namespace Att
open PySem PySem.W PySem.Calls PyProof.Rows
theorem Jx {P:Params} {h:Heap}:∀(ns:List Int) (vs:List Value),WellAll P h vs (ns.map WData.int)->IntsAre vs ns:=by
 intro ns
 induction ns with
 | nil=>
   intro vs w
   rw[List.map_nil]at w
   cases w
   exact .nil
 | cons n ns ih=>
   intro vs w
   rw[List.map_cons]at w
   cases w with
   | cons a b=>
     cases a
     exact .cons _ _ (ih _ b)
theorem Xo {l:OpenLaw} {n:Nat} (hn:l.most=some n) {P:Params} {h:Heap} {args:List WData} {vals:List Value}
   (hpre:l.row.toRowW.claim.pre args=true) (hwl:WellAll P h vals args):
   ∃a vs ns,vals=[Value.ref a]/\args=[WData.list (ns.map WData.int)]/\h.get? a=some {cls:=.type "list",data:=.seq vs.toArray}/\IntsAre vs ns/\ns.length<=n:=by
 have hsh:WShape.hasAll [] args [.list .int]=true:=(pre_splitW hpre).1
 have hc:l.pre.holds [] {args:=args}=true:=(pre_splitW hpre).2
 obtain⟨d,r,rfl,h1,h2⟩:=hasAllW_cons hsh
 obtain rfl:=hasAllW_nil h2
 obtain⟨xs,rfl,h3⟩:=hasW_list h1
 obtain⟨ns,rfl⟩:=items_int h3
 have hlen:ns.length<=n:=by
   unfold OpenLaw.pre at hc
   have h4:(WTm.not (.lt (.lit (.int (n:Int))) (.len (.arg 0)))).holds [] {args:=[.list (ns.map .int)]}=true:=by
     have h4:=(holds_andW hc).1
     rw[hn]at h4
     exact h4
   have h5:=condW_of h4 (w_not (w_lt w_lit (w_len_list (w_arg rfl))))
   rw[List.length_map]at h5
   refine Nat.le_of_not_lt λq=>?_
   have q':(n:Int) < ((ns.length:Nat):Int):=by omega
   first
     | (rw[decide_eq_true q']at h5;exact absurd h5 (by decide))
     | (simp at h5;omega)
 cases hwl with
 | cons w1 w2=>
   cases w2
   cases w1 with
   | list ho hall=>exact⟨_,_,ns,rfl,rfl,ho,Jx ns _ hall,hlen⟩
theorem Xr (l:OpenLaw) (args:List WData):l.row.toRowW.claim.post args (.bool true) args=true:=
 postW_of (r:=l.row.toRowW) (X:=(true==true))
   (show WShape.has [] (.bool true) .bool=true by first | rfl | decide | simp [WShape.has,WShape.arms,WShape.armsAll])
   (show (WTm.eq .res (.lit (.bool true))).value [] {args:=args,res:=some (.bool true),after:=args}=some (.bool (true==true)) from w_eq_bool (w_res rfl) w_lit) rfl
theorem attach_call {l:OpenLaw} {n:Nat} {q:Program} {loose:List Str} {XP:(Str->Option Value)->Heap->Prop} {YP:World->Heap->Prop} {d:DefRec}
   (hn:l.most=some n) (hdf:d.params.defaults=[])
   (call:∀(w:World) (s₀ s₁:Shared) (mg mb:Str->Option Value) (fa:Addr) (o:Obj) (pm cd doc:Value) (a:Addr) (vs:List Value) (ns:List Int),
     Ground q loose [] XP w s₀ mg mb s₁.heap->YP w s₁.heap->
     s₁.heap.get? fa=some o->o.data=.func (docDef d.name d.params d.body d.scope pm cd doc)->s₁.heap.CodeRec cd d.name->mg d.name=some (.ref fa)->
     s₁.heap.get? a=some {cls:=.type "list",data:=.seq vs.toArray}->IntsAre vs ns->ns.length<=n->s₁.gens=#[]->
     codeAny (model l.prog w) callerA (.call (.ref fa) ⟨[.ref a],[]⟩) (λr s'=>r=.ok (.ret (.bool true))/\OldK s₁.heap s'.heap/\s'.os=s₁.os/\AllBare s'.gens) s₁):
   WalkO q loose XP YP l.row.toRowW d [] (λf vs=>PySem.call f vs):=by
 intro w s₀ s₁ mg mb G Y fa o pm cd doc dV kV ho hd hcd hD hmg hg args vals as hpre hlay hrd hwl hlo
 obtain rfl:dV=.none:=Dflts.none hD hdf
 obtain rfl:kV=.none:=Dflts.noKw hD
 obtain⟨a,vs,ns,rfl,rfl,hobj,hints,hlen⟩:=Xo hn hpre hwl
 refine enter_call (codeAny_mono (call w s₀ s₁ mg mb fa o pm cd doc a vs ns G Y ho (fd_plain hd) hcd hmg hobj hints hlen hg) λr s' hq=>?_)
 obtain⟨rfl,h2,h3,h4⟩:=hq
 exact⟨.inl ⟨.bool true,.bool true,[],rfl,λ_=>rfl,.bool true,Xr l _,λ_=>⟨List.Pairwise.nil,λ_ hm=>(nomatch hm)⟩⟩,h2,h3,h4⟩
section
variable {prog:Program} {w:World} {A:Around} {E:Value->Shared->Prop} {s:Shared} {K:Frag}
end
end Att
namespace L2
open PySem PySem.Spec PyProof.Rows
theorem Zt:∀{vs:List Value} {ns:List Int},IntsAre vs ns->qy (ns.map V.int) vs
 | _,_,.nil=>.nil
 | _,_,.cons n t h=>.cons ⟨t,rfl⟩ (Zt h)
def yQ (H:Hp):Prop:=∀b,H b=none\/∃o xs,H b=some (.frz o (.lst xs))
end L2
namespace L2
open PySem PySem.Spec PyProof.Rows
end L2
namespace L2
open PySem PySem.Spec PyProof.Rows
def jn (s:Stmt) (j:Nat):Stmt:=match s with
 | .ClassDef _ _ _ body _ _ _ _ _ _ _=>body.getD j (.Pass ⟨0,0,0,0⟩)
 | _=>.Pass ⟨0,0,0,0⟩
def jt (s:Stmt):Arguments:=match s with
 | .FunctionDef _ a _ _ _ _ _ _ _ _=>a
 | _=>{posonlyargs:=[],args:=[],vararg:=none,kwonlyargs:=[],kw_defaults:=[],kwarg:=none,defaults:=[]}
def qK (s:Stmt):List Stmt:=match s with
 | .FunctionDef _ _ b _ _ _ _ _ _ _=>b
 | _=>[]
def ql (s:Stmt):Scope:=match s with
 | .FunctionDef _ _ _ _ _ _ sc _ _ _=>sc
 | _=>{kind:=.function,names:=[],isGenerator:=false,isCoroutine:=false}
abbrev qN:Zm:=λ_ _ _ _ _ _=>False
abbrev E0:XK:=λ_ _ _=>False
theorem jJ {X:Cx}:jo qN X E0:=λ_ _ _ _ _ _ _ h=>h.elim
structure jQ (K:PySem.W.Frag) (x qual:Str) (st:Stmt) (f:Addr) (fd:FuncData):Prop where
 ex:∃(oc:Value) (od:Option Addr) (kV doc pm:Value) (an:Option Addr) (cdv ct:Value) (osl:Array (Option Value)),
   fd=PySem.W.fnOf x qual (jt st) (qK st) (ql st) .none kV doc pm an cdv ct/\K.lookup f=some ⟨oc,od,.func fd,osl⟩/\PySem.W.codeIn K cdv qual=true
 kp:PySem.W.keepIn K (.ref f)=true
section
variable {P:Program} {w:World} {K:PySem.W.Frag} {mg:Str->Option Value} {base:Heap}
theorem jQ.ok {x qual:Str} {st:Stmt} {f:Addr} {fd:FuncData} {N ps:List Str} {k:Nat} {sp:Sp} (F:jQ K x qual st f fd) (S:qu N ps (ql st)) (len:∀vs H Q E,sp vs H Q E->vs.length=ps.length)
   (hbody:∀(cdv:Value) (A:Around) (outer:List Env) (s:Shared) (H:Hp) (vs:List V) (Q:VK) (E:XK),qI k (A.deeper (envOfC qual (ql st) s.heap.objs.size f cdv))->sp vs H Q E->
     ∃t,Vs (QE qN P w K mg base N qual (ql st) f cdv A outer s H E).nox (qK st) t/\t {nx:=λ_ H'=>Q .non H',rt:=Q} (jp N vs) H):qo P w K mg base qN (k+1) f fd ps sp:=by
 obtain⟨oc,od,kV,doc,pm,an,cdv,ct,osl,rfl,lk,hcd⟩:=F.ex
 refine W8 lk hcd S len λA outer s H vs Q E hr hsp=>?_
 obtain⟨t,h,q⟩:=hbody cdv A outer s H vs Q E hr hsp
 exact⟨t,h.nox,q⟩
theorem jQ.okJ {x qual:Str} {st:Stmt} {f:Addr} {fd:FuncData} {N ps:List Str} {k:Nat} {sp:Sp} (F:jQ K x qual st f fd) (S:qu N ps (ql st)) (len:∀vs H Q E,sp vs H Q E->vs.length=ps.length)
   (hbody:∀(cdv:Value) (A:Around) (outer:List Env) (s:Shared) (H:Hp) (vs:List V) (Q:VK) (E:XK),qI k (A.deeper (envOfC qual (ql st) s.heap.objs.size f cdv))->sp vs H Q E->
     ∃t,zp (QE qN P w K mg base N qual (ql st) f cdv A outer s H E).nox (qK st) t/\t {nx:=λ_ H'=>Q .non H',rt:=Q} (jp N vs) H):qo P w K mg base qN (k+1) f fd ps sp:=
 F.ok S len λcdv A outer s H vs Q E hr h=>let ⟨t,a,b⟩:=hbody cdv A outer s H vs Q E hr h;⟨t,a.to,b⟩
theorem jQ.binds {x qual:Str} {st:Stmt} {f:Addr} {fd:FuncData} {ps:List Str} (F:jQ K x qual st f fd)
   (h:∀(kV doc pm:Value) (an:Option Addr) (cdv ct:Value) (us:List Value),us.length=ps.length->bindArgs (PySem.W.fnOf x qual (jt st) (qK st) (ql st) .none kV doc pm an cdv ct) ⟨us,[]⟩=pure (ps.zip us)):qX K fd ps []:=by
 obtain⟨oc,od,kV,doc,pm,an,cdv,ct,osl,rfl,lk,hcd⟩:=F.ex
 exact .all (h kV doc pm an cdv ct)
theorem zg {x qual:Str} {st:Stmt} {f:Addr} {oc:Value} {od an:Option Addr} {osl:Array (Option Value)} {kV doc pm cdv ct:Value} (l:K.lookup f=some ⟨oc,od,.func (PySem.W.fnOf x qual (jt st) (qK st) (ql st) .none kV doc pm an cdv ct),osl⟩)
   (c:PySem.W.codeIn K cdv qual=true) (k:PySem.W.keepIn K (.ref f)=true):jQ K x qual st f (PySem.W.fnOf x qual (jt st) (qK st) (ql st) .none kV doc pm an cdv ct):=⟨⟨oc,od,kV,doc,pm,an,cdv,ct,osl,rfl,l,c⟩,k⟩
end
theorem UB {A:Around} {k:Nat} (hr:qI k A):A.units+1 < cLine:=Nat.lt_of_le_of_lt (Nat.add_le_add_left (by decide:1<=64) _) hr.units
theorem qE {n:Nat} (h:n<=1000):n < sizeLine:=Nat.lt_of_le_of_lt h (by decide)
section
variable {X:Cx}
theorem pv (i:Nat) {x:Str} {pos:Pos} (hN:X.N[i]?=some x:=by rfl) (hv:vJ X.env.scope x:=by first | exact Or.inl rfl | exact Or.inr (Or.inl rfl) | exact Or.inr (Or.inr rfl)) (hd:(x==("__debug__":Str))=false:=by decide)
   (hcd:(x==("__classdict__":Str))=false:=by decide):PE X (.Name x pos) (JQ i):=Wy hN hv hd hcd
theorem jv (i:Nat) {x:Str} {pos:Pos} (hN:X.N[i]?=some x:=by rfl) (hv:vJ X.env.scope x:=by first | exact Or.inl rfl | exact Or.inr (Or.inl rfl) | exact Or.inr (Or.inr rfl)) (hd:(x==("__debug__":Str))=false:=by decide) (hcd:(x==("__classdict__":Str))=false:=by decide):JE X (.Name x pos) (JQ i):=.of (pv i hN hv hd hcd)
end
theorem jq {A B:Prop} (h:B):if false=true then A else B:=by
 rw[if_neg Bool.false_ne_true]
 exact h
theorem j3 {A B:Prop} (h:A):if true=true then A else B:=by
 rw[if_pos rfl]
 exact h
theorem zQ {c A B:Prop} [Decidable c] (h1:c->A) (h2:¬c->B):if c then A else B:=by
 by_cases h:c
 . rw[if_pos h]
   exact h1 h
 . rw[if_neg h]
   exact h2 h
def Same (H H':Hp):Prop:=∀b o,H b=some o->H' b=some o
theorem Same.refl (H:Hp):Same H H:=λ_ _ h=>h
theorem Same.trans {H H1 H2:Hp} (a:Same H H1) (b:Same H1 H2):Same H H2:=λc o h=>b c o (a c o h)
section
variable {X:Cx}
end
section
variable {κ:Type} [DecidableEq κ]
end
end L2
set_option Elab.async false
set_option linter.all false
set_option maxRecDepth 100000
set_option maxHeartbeats 4000000
namespace L2
open PySem PySem.Spec PyProof.Rows
theorem Xd:(NameKind.free==NameKind.free)=true:=rfl
def qH (env:Env):List (Str×NameKind)->List (Str×Addr)->List (Str×Addr)
 | [],cs=>cs
 | (n,k)::r,cs=>qH env r (if k==.free then (n,(env.cells.lookup n).getD 0)::cs else cs)
theorem jU {scope:Scope} {env:Env} (h:∀x∈scope.names,x.2=.free->∃c,env.cells.lookup x.1=some c):closureFor scope env=pure (qH env scope.names []):=by
 simp only[closureFor]
 have key:∀(l:List (Str×NameKind)) (cs:List (Str×Addr)),(∀x∈l,x.2=.free->∃c,env.cells.lookup x.1=some c)->
     (forIn l cs λx (r:List (Str×Addr))=>if (x.snd==NameKind.free)=true then (do let a <-cellOf env x.fst;pure (ForInStep.yield ((x.fst,a)::r)):Sem (ForInStep (List (Str×Addr)))) else pure (ForInStep.yield r))=(pure (qH env l cs):Sem (List (Str×Addr))):=by
   intro l
   induction l with
   | nil=>intro cs _;rfl
   | cons x l ih=>
     intro cs hl
     obtain⟨n,k⟩:=x
     have ihl:=λcs'=>ih cs' λy hy=>hl y (List.mem_cons_of_mem _ hy)
     rw[List.forIn_cons]
     by_cases hk:k=.free
     . subst hk
       obtain⟨c,hc⟩:=hl (n,.free) List.mem_cons_self rfl
       have e1:cellOf env n=pure c:=by
         unfold cellOf
         have hc':env.cells.lookup n=some c:=hc
         rw[hc']
       have e2:qH env ((n,NameKind.free)::l) cs=qH env l ((n,c)::cs):=by
         have hc':env.cells.lookup n=some c:=hc
         show qH env l (if (NameKind.free==NameKind.free)=true then (n,(env.cells.lookup n).getD 0)::cs else cs)=_
         rw[if_pos Xd,hc']
         rfl
       rw[e2,<-ihl]
       dsimp only
       rw[if_pos Xd,e1]
       rfl
     . have hb:(k==NameKind.free)=false:=by simpa using hk
       have e2:qH env ((n,k)::l) cs=qH env l cs:=by
         show qH env l (if (k==NameKind.free)=true then (n,(env.cells.lookup n).getD 0)::cs else cs)=_
         rw[if_neg (by rw[hb];decide)]
       rw[e2,<-ihl]
       dsimp only
       rw[if_neg (by rw[hb];decide)]
       rfl
 rw[key scope.names [] h]
 rfl
theorem Qp {env:Env} {x:Str} {c:Addr}:∀{l:List (Str×NameKind)} {cs:List (Str×Addr)},(qH env l cs).lookup x=some c->cs.lookup x=some c\/((x,NameKind.free)∈l/\c=(env.cells.lookup x).getD 0)
 | [],cs,h=>.inl h
 | (n,k)::r,cs,h=>by
   rcases Qp (l:=r) h with h | ⟨h1,h2⟩
   . by_cases hk:k=.free
     . subst hk
       rw[if_pos Xd,List.lookup_cons]at h
       by_cases hx:x=n
       . subst hx
         simp only[beq_self_eq_true]at h
         exact .inr ⟨List.mem_cons_self,(Option.some.inj h).symm⟩
       . have hb:(x==n)=false:=beq_eq_false_iff_ne.mpr hx
         simp only[hb]at h
         exact .inl h
     . have hb:(k==NameKind.free)=false:=by simpa using hk
       rw[if_neg (by rw[hb];decide)]at h
       exact .inl h
   . exact .inr ⟨List.mem_cons_of_mem _ h1,h2⟩
theorem QP {env:Env} {x:Str}:∀{l:List (Str×NameKind)} {cs:List (Str×Addr)},((x,NameKind.free)∈l\/∃c,cs.lookup x=some c)->∃c,(qH env l cs).lookup x=some c
 | [],cs,h=>by
   rcases h with h | h
   . cases h
   . exact h
 | (n,k)::r,cs,h=>by
   show ∃c,(qH env r (if (k==NameKind.free)=true then (n,(env.cells.lookup n).getD 0)::cs else cs)).lookup x=some c
   refine QP (l:=r) ?_
   rcases h with h | ⟨c,h⟩
   . rcases List.mem_cons.mp h with h | h
     . cases h
       refine .inr ⟨(env.cells.lookup x).getD 0,?_⟩
       rw[if_pos Xd,List.lookup_cons]
       simp only[beq_self_eq_true]
     . exact .inl h
   . refine .inr ?_
     by_cases hk:(k==NameKind.free)=true
     . rw[if_pos hk,List.lookup_cons]
       cases hx:x==n with
       | true=>exact⟨_,rfl⟩
       | false=>exact⟨c,h⟩
     . rw[if_neg hk]
       exact⟨c,h⟩
theorem QY {scope:Scope} {env:Env} {x:Str} {k:NameKind}:∀{names:List (Str×NameKind)},names.lookup x=some k->
   ∃k',(names.map λ(n,k)=>if (k==NameKind.free&&env.scope.kind==.function&&env.kindOf n==some .cell) then (n,NameKind.cell) else (n,k)).lookup x=some k'/\(k'=k\/(k=.free/\k'=.cell))
 | [],h=>by simp at h
 | (n,j)::r,h=>by
   rw[List.map_cons]
   by_cases hx:x=n
   . subst hx
     rw[List.lookup_cons]at h
     simp only[beq_self_eq_true]at h
     cases h
     dsimp only
     by_cases hc:(k==NameKind.free&&env.scope.kind==.function&&env.kindOf x==some .cell)=true
     . rw[if_pos hc,List.lookup_cons]
       simp only[beq_self_eq_true]
       refine⟨_,rfl,.inr ⟨?_,rfl⟩⟩
       simp only[Bool.and_eq_true,beq_iff_eq]at hc
       exact hc.1.1
     . rw[if_neg hc,List.lookup_cons]
       simp only[beq_self_eq_true]
       exact⟨_,rfl,.inl rfl⟩
   . have hb:(x==n)=false:=beq_eq_false_iff_ne.mpr hx
     rw[List.lookup_cons]at h
     simp only[hb]at h
     obtain⟨k',h1,h2⟩:=QY (env:=env) (scope:=scope) h
     refine⟨k',?_,h2⟩
     dsimp only
     by_cases hc:(j==NameKind.free&&env.scope.kind==.function&&env.kindOf n==some .cell)=true
     . rw[if_pos hc,List.lookup_cons]
       simp only[hb]
       exact h1
     . rw[if_neg hc,List.lookup_cons]
       simp only[hb]
       exact h1
theorem mem_of_lookup {x:Str} {k:NameKind}:∀{l:List (Str×NameKind)},l.lookup x=some k->(x,k)∈l
 | [],h=>by simp at h
 | (n,j)::r,h=>by
   rw[List.lookup_cons]at h
   by_cases hx:x=n
   . subst hx
     simp only[beq_self_eq_true]at h
     cases h
     exact List.mem_cons_self
   . have hb:(x==n)=false:=beq_eq_false_iff_ne.mpr hx
     simp only[hb]at h
     exact List.mem_cons_of_mem _ (mem_of_lookup h)
theorem QG {f:Str×NameKind->Str×NameKind} (hf:∀p,(f p).1=p.1) {x:Str} {k:NameKind}:∀{l:List (Str×NameKind)},(l.map f).lookup x=some k->∃j,l.lookup x=some j/\(f (x,j)).2=k
 | [],h=>by simp at h
 | (n,j)::r,h=>by
   rw[List.map_cons]at h
   have e:f (n,j)=(n,(f (n,j)).2):=by
     have:=hf (n,j)
     exact Prod.ext this rfl
   rw[e,List.lookup_cons]at h
   rw[List.lookup_cons]
   by_cases hx:x=n
   . subst hx
     simp only[beq_self_eq_true]at h ⊢
     exact⟨j,rfl,Option.some.inj h⟩
   . have hb:(x==n)=false:=beq_eq_false_iff_ne.mpr hx
     simp only[hb]at h ⊢
     exact QG hf h
def Jw (X:Cx) (N:List Str) (scope:Scope) (C:Addr) (s₂:Shared) (H₂:Hp) (fp:List Addr) (pins:List (Addr×Obj)):Cx where
 prog:=X.prog
 w:=X.w
 K:=X.K
 mg:=X.mg
 base:=X.base
 A:=X.A
 N:=N
 s₀:=s₂
 H₀:=H₂
 env:=compEnvC scope (qH X.env scope.names []) C X.env
 outer:=X.stack
 stack:=X.stack
 ex:=fp
 fn:=λ_=>false
 calm:=X.calm
 pn:=X.pn++pins
 xe:=λ_ _=>False
def UM (ix:List (Option Nat)) (σ:St):St:=ix.map λo=>o.bind λj=>(σ[j]?).join
def V6 (N' N:List Str) (sc esc:Scope) (ix:List (Option Nat)):Bool:=
 ix.length==N'.length&&(ix.zip N').all λp=>match p.1 with
   | none=>true
   | some j=>N[j]?==some p.2&&sc.names.lookup p.2==some .free&&(esc.names.lookup p.2==some .cell || esc.names.lookup p.2==some .free)
structure jd (X:Cx) (N':List Str) (ix:List (Option Nat)) (scope:Scope):Prop where
 kind:scope.kind=.function
 nocell:(scope.names.all λx=>x.2 != .cell)=true
 locs:(scope.names.all λx=>x.2 != .local || scope.names.lookup x.1==some .local)=true
 frees:(scope.names.all λx=>x.2 != .free || (X.env.scope.names.lookup x.1==some .cell || X.env.scope.names.lookup x.1==some .free))=true
 ixs:V6 N' X.N scope X.env.scope ix=true
section
variable {X:Cx} {N':List Str} {ix:List (Option Nat)} {scope:Scope} {pins:List (Addr×Obj)} {σ:St} {H:Hp} {s:Shared}
theorem jd.cellH (S:jd X N' ix scope):∀y∈scope.names,y.2≠.cell:=λy hy e=>by
 have:=List.all_eq_true.mp S.nocell y hy
 rw[e]at this
 exact absurd this (by decide)
theorem jd.locH (S:jd X N' ix scope):∀y∈scope.names,y.2=.local->scope.names.lookup y.1=some .local:=λy hy e=>by
 have:=List.all_eq_true.mp S.locs y hy
 simp only[e,Bool.or_eq_true,bne_self_eq_false,Bool.false_eq_true,false_or,beq_iff_eq]at this
 exact this
theorem jd.freeH (S:jd X N' ix scope) (ok:X.Ok):∀x∈scope.names,x.2=.free->∃c,X.env.cells.lookup x.1=some c:=λx hx e=>by
 have:=List.all_eq_true.mp S.frees x hx
 simp only[e,Bool.or_eq_true,bne_self_eq_false,Bool.false_eq_true,false_or,beq_iff_eq]at this
 exact ok.has x.1 this
theorem jd.clook (S:jd X N' ix scope) (ok:X.Ok) {x:Str} {c:Addr} (h:(qH X.env scope.names []).lookup x=some c):X.env.cells.lookup x=some c/\(x,NameKind.free)∈scope.names:=by
 rcases Qp h with h | ⟨h1,h2⟩
 . simp at h
 . obtain⟨c',hc'⟩:=S.freeH ok _ h1 rfl
   have hc2:X.env.cells.lookup x=some c':=hc'
   rw[hc2]at h2
   subst h2
   exact⟨hc2,h1⟩
theorem kT {C:Addr} {fp:List Addr} (S:jd X N' ix scope) (I:qp X pins σ H s) (hC:s.heap.objs.size<=C) (hf:∀b∈fp,Zk X pins H b) (hfo:∀b∈fp,b < s.heap.objs.size):(Jw X N' scope C s H fp pins).Ok where
 mod:=I.ok.mod
 kind:=S.kind
 glob:=I.ok.glob
 blt:=I.ok.blt
 above:=hC
 inj:=λx y c h1 h2=>I.ok.inj x y c (S.clook I.ok h1).1 (S.clook I.ok h2).1
 has:=λx hx=>by
   have hx':(relabel scope X.env).names.lookup x=some .cell\/(relabel scope X.env).names.lookup x=some .free:=hx
   refine QP (.inl ?_)
   have go:∀k,(k=NameKind.cell\/k=.free)->(relabel scope X.env).names.lookup x=some k->(x,NameKind.free)∈scope.names:=λk hk h=>by
     obtain⟨j,h1,h2⟩:=QG (f:=λ(n,k)=>if (k==NameKind.free&&X.env.scope.kind==.function&&X.env.kindOf n==some .cell) then (n,NameKind.cell) else (n,k)) (λp=>by dsimp only;split<;>rfl) h
     have hm:=mem_of_lookup h1
     by_cases hj:j=.free
     . subst hj;exact hm
     . exfalso
       have hb:(j==NameKind.free)=false:=by simpa using hj
       dsimp only at h2
       rw[hb,Bool.false_and,Bool.false_and,if_neg (by decide)]at h2
       have h2':j=k:=h2
       rcases hk with e | e
       . exact S.cellH _ hm (h2'.trans e)
       . exact hj (h2'.trans e)
   rcases hx' with h | h
   . exact go _ (.inl rfl) h
   . exact go _ (.inr rfl) h
 cab:=λx c h _=>by cases h
 hd:=I.ok.hd
 frames:=I.ok.frames
 stk:=.inl rfl
 exf:=λb hb=>⟨Nat.ne_of_lt (Nat.lt_of_lt_of_le (hfo b hb) hC),λx c h=>(hf b hb).2.2.2.2.1 x c (S.clook I.ok h).1⟩
 bs:=I.bs
 bsz:=Nat.le_trans I.ok.bsz I.sz
 noex:=λb o e hb=>by
   rcases(hf b hb).2.2.2.1 with h | h
   . exact I.ok.noex b o e h
   . exact absurd (Nat.lt_of_lt_of_le (Heap.lt_size e) (Nat.le_trans I.ok.bsz h)) (Nat.lt_irrefl _)
 exfs:=λb hb hm=>by
   rcases List.mem_cons.mp (I.stkSub b hm) with e | e
   . exact(hf b hb).2.1 e
   . exact(hf b hb).2.2.1 e
 funs:=I.stack
 frf:=I.stkFree
theorem XN {C D:Addr} {fp:List Addr} {h₁:Heap} {m:Str->Option Value} {t':Nat} {n₀:Nat} (S:jd X N' ix scope) (I:qp X pins σ H s) (hf:∀b∈fp,Zk X pins H b) (hfo:∀b∈fp,b < s.heap.objs.size)
   (hD:s.heap.objs.size<=D) (hC:s.heap.objs.size<=C) (hDC:D≠C) (kp:∀b o,s.heap.get? b=some o->h₁.get? b=some o) (hn:h₁.Ns C m) (hl:h₁.get? D=some {cls:=.type "list",data:=.seq #[] n₀}):
   qp (Jw X N' scope C s H fp pins) [] (UM ix σ) (qr H D (.lst [])) {s with heap:=h₁,toks:=t'} where
 ok:=kT S I hC hf hfo
 os:=rfl
 bare:=I.bare
 base:=Un.laid kp hD (I.hok.fresh hD)
 loc:=by
   refine⟨m,hn,λi x v e1 e2 e3=>?_⟩
   have hix:=S.ixs
   unfold V6 at hix
   rw[Bool.and_eq_true]at hix
   obtain⟨hlen,hall⟩:=hix
   have hlen':ix.length=N'.length:=by simpa using hlen
   have e1':N'[i]?=some x:=e1
   unfold UM at e2
   rw[List.getElem?_map]at e2
   cases ho:ix[i]? with
   | none=>rw[ho]at e2;cases e2
   | some o=>
     rw[ho]at e2
     cases o with
     | none=>cases e2
     | some j=>
       have e2':(σ[j]?).join=some v:=Option.some.inj e2
       have hz:(ix.zip N')[i]?=some (some j,x):=by
         rw[List.getElem?_zip_eq_some]
         exact⟨ho,e1'⟩
       have hm:=List.all_eq_true.mp hall _ (List.mem_of_getElem? hz)
       dsimp only at hm
       simp only[Bool.and_eq_true,beq_iff_eq,Bool.or_eq_true]at hm
       obtain⟨⟨hN,hfr⟩,hk⟩:=hm
       have e2'':σ[j]?=some (some v):=by
         cases q:σ[j]? with
         | none=>rw[q]at e2';cases e2'
         | some z=>
           rw[q]at e2'
           have:z=some v:=e2'
           rw[this]
       obtain⟨mX,hnX,hlX⟩:=I.loc
       have hvis:vJ X.env.scope x:=by
         rcases hk with h | h
         . exact .inr (.inl h)
         . exact .inr (.inr h)
       obtain⟨u,ru,lu⟩:=hlX j x v hN e2'' hvis
       refine⟨u,ru,?_⟩
       rcases lu with ⟨hk',_⟩ | ⟨_,c,hc,hcell⟩
       . exfalso
         have hk'':X.env.scope.names.lookup x=some .local:=hk'
         rcases hk with h | h<;>rw[h]at hk''<;>cases hk''
       . right
         obtain⟨k',r1,r2⟩:=QY (scope:=scope) (env:=X.env) hfr
         refine⟨?_,?_⟩
         . rcases r2 with z | ⟨_,z⟩
           . right;rw[z]at r1;exact r1
           . left;rw[z]at r1;exact r1
         . obtain⟨c',hc'⟩:=QP (env:=X.env) (cs:=[]) (.inl (mem_of_lookup hfr))
           have:=(S.clook I.ok hc').1
           rw[hc]at this
           cases this
           obtain⟨o,ho',hd⟩:=hcell
           exact⟨c,hc',o,kp _ _ ho',hd⟩
 cell:=λx c h=>by
   obtain⟨v,o,ho,hd⟩:=I.cell x c (S.clook I.ok h).1
   exact⟨v,o,kp _ _ ho,hd⟩
 free:=by
   show (qr H D _) C=none
   rw[qg (Ne.symm hDC)]
   exact I.hok.fresh hC
 freeC:=λx c h=>by
   have h1:=(S.clook I.ok h).1
   obtain⟨v,o,ho,hd⟩:=I.cell x c h1
   rw[qg (Nat.ne_of_lt (Nat.lt_of_lt_of_le (Heap.lt_size ho) hD))]
   exact(I.freeC x c h1).imp id λz=>⟨rfl,z.2⟩
 pin:=λp hp=>by
   have hp':p∈X.pn++pins:=by
     have:p∈(X.pn++pins)++[]:=hp
     simpa using this
   obtain⟨e,n,ne,nf,d⟩:=I.pin p hp'
   have hlt:=Heap.lt_size e
   refine⟨kp _ _ e,?_,Nat.ne_of_lt (Nat.lt_of_lt_of_le hlt hC),λhm=>?_,d⟩
   . rw[qg (Nat.ne_of_lt (Nat.lt_of_lt_of_le hlt hD))];exact n
   . rcases List.mem_cons.mp (I.stkSub p.1 hm) with z | z
     . exact ne z
     . exact nf z
 hok:=I.hok.laid kp hD ⟨Nat.zero_le _,[],n₀,.nil,hl⟩
 len:=by
   have hix:=S.ixs
   unfold V6 at hix
   rw[Bool.and_eq_true]at hix
   have:ix.length=N'.length:=by simpa using hix.1
   show (UM ix σ).length=N'.length
   unfold UM
   rw[List.length_map,this]
theorem W0 {C:Addr} {fp:List Addr} {σ':St} {H':Hp} {s':Shared} {pl:List (Addr×Obj)} (I:qp X pins σ H s) (hf:∀b∈fp,Zk X pins H b) (J:qp (Jw X N' scope C s H fp pins) pl σ' H' s'):qp X pins σ H' s':=
 I.call' (ch:=fp) J.os J.base J.hok J.bare λb hb=>⟨(hf b hb).2.2.2.1,(hf b hb).2.1,(hf b hb).2.2.2.2.1,(hf b hb).2.2.2.2.2⟩
theorem WZ {C:Addr} {H':Hp} {s₀ s':Shared} {h':Heap} (I₀:qp X pins σ H s₀) (I:qp X pins σ H' s') (hC:s₀.heap.objs.size<=C) (hn:H' C=none) (sb:Heap.SameBut C s'.heap h'):qp X pins σ H' {s' with heap:=h'}:=by
 refine I.turned (it:=C) (t':=s'.toks) (λb o hb e=>(sb.2 b hb).trans e) hn (Nat.ne_of_gt (Nat.lt_of_lt_of_le I₀.lt hC)) (.inr (Nat.le_trans I₀.sz hC)) (λx c e z=>?_) λp hp z=>?_
 . obtain⟨v,q⟩:=I₀.cell x c e
   exact absurd (Nat.lt_of_lt_of_le q.lt (by rw[z];exact hC)) (Nat.lt_irrefl _)
 . exact absurd (Nat.lt_of_lt_of_le (Heap.lt_size (I₀.pin p hp).1) (by rw[z];exact hC)) (Nat.lt_irrefl _)
end
def vK (X:Cx) (ifs:List Expr) (t:TT):Prop:=
 ∀(pins:List (Addr×Obj)) (s:Shared) (σ:St) (H:Hp) (Q:Bool->Hp->Prop),qp X pins σ H s->t σ H Q->
   wpAny (model X.prog X.w) X.A (forIn ifs true λc r=>if r=true then do let ok <-isTrue c X.env (eval c X.env);pure (ForInStep.yield ok) else pure (ForInStep.yield r)) (TP X pins σ Q) X.xe s
@[irreducible] def Vt (X:Cx) (ifs:List Expr) (t:TT):Prop:=vK X ifs t
theorem Vt.of {X:Cx} {ifs:List Expr} {t:TT} (h:vK X ifs t):Vt X ifs t:=by unfold Vt;exact h
theorem Vt.to {X:Cx} {ifs:List Expr} {t:TT} (h:Vt X ifs t):vK X ifs t:=by unfold Vt at h;exact h
def yf:TT:=λ_ H Q=>Q true H
theorem Q2 {X:Cx}:Vt X [] yf:=.of (by
 exact λ_ _ _ H _ I h=>wpAny_tests_nil ⟨H,I,h⟩)
theorem Y4 {X:Cx} {c:Expr} {t:TT} (h:JT X c t):Vt X [c] t:=.of (by
 have h:=h.to
 exact λpins s σ H Q I hw=>wpAny_tests_one (h pins s σ H Q I hw))
section
variable {prog:Program} {w:World} {A:Around} {R:Result->Shared->Prop} {s:Shared}
theorem zi {elt target iter:Expr} {ifs:List Expr} {scope:Scope} {pos:Pos} {it acc:Value} {env:Env} (I:Nat->Shared->Prop)
   (turn:∀n s,I n s->wpAny (model prog w) A (pyNext it) (λr s₁=>match r with
     | none=>R (.ok .next) s₁
     | some v=>wpAny (model prog w) A (letOwnedTupleGo target it v) (λ_ s₁'=>wpAny (model prog w) A (assign target env v) (λ_ s₂=>
         wpAny (model prog w) A (forIn ifs true λc r=>if r=true then do let ok <-isTrue c env (eval c env);pure (ForInStep.yield ok) else pure (ForInStep.yield r)) (λok s₃=>
           if ok=true then wpAny (model prog w) A (eval elt env) (λx s₄=>
             wpAny (model prog w) A (call (.builtin "list.append") [acc,x]) (λ_ s₅=>∃m,m < n/\I m s₅) (λ_ _=>False) s₄) (λ_ _=>False) s₃
           else ∃m,m < n/\I m s₃) (λ_ _=>False) s₂) (λ_ _=>False) s₁') (λ_ _=>False) s₁) (λ_ _=>False) s)
   (n:Nat) (h:I n s):
   codeAny (model prog w) A (.compLoop (.ListComp elt [⟨target,iter,ifs,0⟩] scope pos) 0 it acc env) R s:=by
 refine codeAny_loop rfl I (λn s hI=>?_) n h
 show wpAny _ A ((compTurn (.ListComp elt [⟨target,iter,ifs,0⟩] scope pos) 0 it acc env).onRaise (λx=>do noteFrame x env;theTreesLotGoes x)) _ _ s
 refine wpAny_noted ?_
 rw[compTurn_list]
 refine wpAny_bind (wpAny_standAt (wpAny_bind (wpAny_mono (turn n s hI) (λr s₁ h₁=>?_) λ_ _ h'=>h'.elim)))
 cases r with
 | none=>exact wpAny_pure h₁
 | some v=>
   refine wpAny_bind (wpAny_mono h₁ (λ_ s₁' h₁'=>?_) λ_ _ h'=>h'.elim)
   refine wpAny_bind (wpAny_mono h₁' (λ_ s₂ h₂=>wpAny_bind (wpAny_mono h₂ (λok s₃ h₃=>?_) λ_ _ h'=>h'.elim)) λ_ _ h'=>h'.elim)
   cases ok with
   | false=>exact wpAny_pure ⟨rfl,h₃⟩
   | true=>
     exact wpAny_bind (wpAny_bind (wpAny_mono h₃ (λx s₄ h₄=>wpAny_bind (wpAny_mono h₄ (λ_ s₅ h₅=>wpAny_pure (wpAny_pure ⟨rfl,h₅⟩)) λ_ _ h'=>h'.elim)) λ_ _ h'=>h'.elim))
end
def Yc (J:It) (g:TG) (tt:TT) (te:TE) (D:Addr) (σ:St) (H:Hp) (Q:Hp->Prop):Prop:=
 ∃W:Nat->Nat->St->Hp->Prop,(∃m,W 0 m σ (qr H D (.lst [])))/\∀i m σ' H',W i m σ' H'->
   (J.stop i H'/\Q H')\/(J.go i H'/\∃N:St->Hp->Prop,(∀σ2 H2,N σ2 H2->∃m',m' < m/\W (i+1) m' σ2 H2)/\∀x H2,J.yld i H' x H2->g x σ' H2 λσ2 H3=>tt σ2 H3 λb H4=>
     if b=true then te σ2 H4 λv H5=>∃ys,H5 D=some (.lst ys)/\ys.length < sizeLine/\N σ2 (qr H5 D (.lst (ys++[v]))) else N σ2 H4)
def k9 (wi:TI) (ix:List (Option Nat)) (g:TG) (tt:TT) (te:TE):TE:=λσ H Q=>wi σ H λJ H1=>∀D,H1 D=none->Yc J g tt te D (UM ix σ) H1 λH2=>Q (.ref D) H2
section
variable {X:Cx} {N':List Str} {ix:List (Option Nat)} {scope:Scope}
theorem ZJ {elt iter target:Expr} {ifs:List Expr} {pos:Pos} {g:TG} {tt:TT} {te:TE} {pins:List (Addr×Obj)} {σ:St} {H:Hp} {s:Shared} {it:Addr} {fp:List Addr} {tn:Nat->Heap->Prop} {J:It} {E:Value->Shared->Prop}
   {RR:Value->Addr->Result->Shared->Prop} {Q:Addr->Hp->Prop}
   (hc:X.calm=true) (S:jd X N' ix scope) (I:qp X pins σ H s) (T:Vm X.prog X.w X.K target J fp it tn) (st:tn 0 s.heap) (hf:∀b∈fp,Zk X pins H b)
   (hb:∀C s₂ H₂ fp pins,PG (Jw X N' scope C s₂ H₂ fp pins) target g/\vK (Jw X N' scope C s₂ H₂ fp pins) ifs tt/\PE (Jw X N' scope C s₂ H₂ fp pins) elt te)
   (h:∀D,H D=none->Yc J g tt te D (UM ix σ) H (Q D))
   (fin:∀(D C:Addr) (H':Hp) (s':Shared) (m:Str->Option Value),s.heap.objs.size<=C->H' C=none->s'.heap.Ns C m->qp X pins σ H' s'->Q D H'->RR (.ref D) C (.ok .next) s'):
   wpAny (model X.prog X.w) X.A (newList []) (λacc s₃=>wpAny (model X.prog X.w) X.A (newFunctionEnv scope X.env.globals (qH X.env scope.names []) [] X.env.qual none .none (some X.env)) (λcenv s₄=>
     codeAny (model X.prog X.w) X.A (.compStart (.ListComp elt [⟨target,iter,ifs,0⟩] scope pos) 0 (.ref it) acc {cenv with scope:=relabel scope X.env}) (RR acc cenv.locals) s₄) E s₃) E s:=by
 have hfo:∀b∈fp,b < s.heap.objs.size:=λb hb=>by
   obtain⟨o,e,_⟩:=T.obj _ _ st b hb
   exact Heap.lt_size e
 refine wpAny_newObj_type (wpAny_newFunctionEnv S.cellH (by intro y hy;simp at hy) (λh₁ hns₁ hsb₁=>?_) S.kind)
 dsimp only at hns₁ hsb₁ ⊢
 generalize hH2:s.heap.push {cls:=.type "list",dict:=none,data:=.seq ([]:List Value).toArray}=H2 at hns₁ hsb₁ ⊢
 have hC:H2.objs.size=s.heap.objs.size+1:=by rw[<-hH2,Heap.size_push]
 have hDC:s.heap.objs.size≠H2.objs.size:=by rw[hC];exact Nat.ne_of_lt (Nat.lt_succ_self _)
 have hCle:s.heap.objs.size<=H2.objs.size:=by rw[hC];exact Nat.le_succ _
 have below:∀b,b < s.heap.objs.size->b≠H2.objs.size:=λb hb=>by rw[hC];exact Nat.ne_of_lt (Nat.lt_succ_of_lt hb)
 have old:∀b o,s.heap.get? b=some o->h₁.get? b=some o:=λb o e=>hsb₁.extBut b o (below b (Heap.lt_size e)) (Heap.get?_push_of_some _ (hH2▸Heap.get?_push_of_some _ e))
 have hacc:h₁.get? s.heap.objs.size=some {cls:=.type "list",data:=.seq #[] 0}:=hsb₁.extBut _ _ hDC (Heap.get?_push_of_some _ (hH2▸Heap.get?_push_size _ rfl))
 obtain⟨W,⟨m0,w0⟩,turn⟩:=h s.heap.objs.size (I.hok.fresh (Nat.le_refl _))
 have I1:qp (Jw X N' scope H2.objs.size s H fp pins) [] (UM ix σ) (qr H s.heap.objs.size (.lst [])) {s with heap:=h₁,toks:=s.toks+([]:List (Str×Value)).length}:=
   XN S I hf hfo (Nat.le_refl _) hCle hDC old hns₁ hacc
 have st₁:tn 0 h₁:=T.keep _ _ _ st λb hb o e=>old b o e
 have fpn:∀b∈fp,(qr H s.heap.objs.size (.lst [])) b=none:=λb hb=>by
   rw[qg (Nat.ne_of_lt (hfo b hb))]
   exact(hf b hb).1
 obtain⟨hg,htt,hte⟩:=hb H2.objs.size s H fp pins
 have okY:=I1.ok
 have stat:∀{H':Hp},(∀b∈fp,H' b=none)->∀b∈fp,Zk (Jw X N' scope H2.objs.size s H fp pins) [] H' b:=λ{H'} hn b hb=>
   ⟨hn b hb,(okY.exf b hb).1,okY.exfs b hb,.inl hb,(okY.exf b hb).2,λp hp=>by
     have hp':p∈X.pn++pins:=by
       have:p∈(X.pn++pins)++[]:=hp
       simpa using this
     exact(hf b hb).2.2.2.2.2 p hp'⟩
 have loop:codeAny (model X.prog X.w) X.A (.compLoop (.ListComp elt [⟨target,iter,ifs,0⟩] scope pos) 0 (.ref it) (.ref s.heap.objs.size) (compEnvC scope (qH X.env scope.names []) H2.objs.size X.env))
     (RR (.ref s.heap.objs.size) H2.objs.size) {s with heap:=h₁,toks:=s.toks+([]:List (Str×Value)).length}:=by
   refine zi (λn s'=>∃i σ' H',qp (Jw X N' scope H2.objs.size s H fp pins) [] σ' H' s'/\tn i s'.heap/\(∀b∈fp,H' b=none)/\W i n σ' H') ?_ m0 ⟨0,_,_,I1,st₁,fpn,w0⟩
   rintro n s3 ⟨i,σ3,H3,I3,st3,fr3,w3⟩
   rcases turn i n σ3 H3 w3 with ⟨stop,qn⟩ | ⟨go,NN,hNN,step⟩
   . refine qO (T.done (Jw X N' scope H2.objs.size s H fp pins) rfl rfl rfl hc i [] s3 σ3 H3 _ I3 (stat fr3) st3 stop) λr s4 ⟨hr,I4⟩=>?_
     subst hr
     obtain⟨mm,hnm,_⟩:=I4.loc
     exact fin _ _ H3 s4 mm hCle I4.free hnm (W0 I hf I4) qn
   . refine qO (T.item (Jw X N' scope H2.objs.size s H fp pins) rfl rfl rfl hc i [] s3 σ3 H3 _ I3 (stat fr3) st3 go) λr s4 ⟨u,hr,h4⟩=>?_
     subst hr
     refine qO h4 λ_ s5 ⟨x,H5,I5,r5,y5,st5,fr5⟩=>?_
     have I5':=I5.pinned (stat fr5) (T.obj _ _ st5)
     refine qO (hg _ s5 σ3 H5 x u _ I5' r5 (step x H5 y5)) λ_ s6 ⟨σ6,H6,I6,q6⟩=>?_
     refine qO (htt _ s6 σ6 H6 _ I6 q6) λok s7 ⟨H7,I7,q7⟩=>?_
     have again:∀{σ8:St} {H8:Hp} {s8:Shared},qp (Jw X N' scope H2.objs.size s H fp pins) ([]++J5 fp s5.heap) σ8 H8 s8->NN σ8 H8->
         ∃m,m < n/\∃i σ' H',qp (Jw X N' scope H2.objs.size s H fp pins) [] σ' H' s8/\tn i s8.heap/\(∀b∈fp,H' b=none)/\W i m σ' H':=λ{σ8 H8 s8} I8 n8=>by
       obtain⟨m',hm,w8⟩:=hNN σ8 H8 n8
       refine⟨m',hm,i+1,σ8,H8,I8.unpinned,T.keep _ _ _ st5 λb hb o e=>(I8.pin (b,o) (List.mem_append_right _ (List.mem_append_right _ (j7 hb e)))).1,λb hb=>?_,w8⟩
       obtain⟨o,e,d⟩:=T.obj _ _ st5 b hb
       exact(I8.pin (b,o) (List.mem_append_right _ (List.mem_append_right _ (j7 hb e)))).2.1
     cases ok with
     | false=>
       rw[if_neg Bool.false_ne_true]at q7 ⊢
       exact again I7 q7
     | true=>
       rw[if_pos rfl]at q7 ⊢
       refine qO (hte _ s7 σ6 H7 _ I7 q7) λv s8 ⟨y,H8,I8,r8,q8⟩=>?_
       obtain⟨ys,hy,hz,q8⟩:=q8
       refine qO (Zz (X:=Jw X N' scope H2.objs.size s H fp pins) _ s8 σ6 H8 (.ref s.heap.objs.size) [y] (.ref s.heap.objs.size) [v] (λ_ H9=>NN σ6 H9) I8 rfl (.cons r8 .nil) ⟨_,ys,y,rfl,rfl,hy,hz,q8⟩) λ_ s9 ⟨_,H9,I9,_,q9⟩=>?_
       exact again I9 q9
 exact codeAny_compStart_list loop (T.self X.A 0 _ _ _ st₁ loop)
theorem ko {elt iter target:Expr} {ifs:List Expr} {pos:Pos} {wi:TI} {g:TG} {tt:TT} {te:TE} (hc:X.calm=true) (S:jd X N' ix scope) (hi:PI X target iter wi)
   (hb:∀C s₂ H₂ fp pins,PG (Jw X N' scope C s₂ H₂ fp pins) target g/\vK (Jw X N' scope C s₂ H₂ fp pins) ifs tt/\PE (Jw X N' scope C s₂ H₂ fp pins) elt te)
   (hs:∀x,foldedSetIterable iter X.env x=pure x:=by intro _;rfl):PE X (.ListComp elt [⟨target,iter,ifs,0⟩] scope pos) (k9 wi ix g tt te):=by
 intro pins s σ H Q I h
 rw[eval_ListComp]
 refine wpAny_comprehension_free (use:=none) rfl hs (jU (S.freeH I.ok)) S.kind S.locH ?_
 refine qO (hi pins s σ H _ I h) λxv s1 h1=>qO h1 λitv s2 h2=>?_
 obtain⟨it,fp,tn,J,H2,e,I2,T,st2,f2,q2⟩:=h2
 subst e
 refine ZJ (RR:=λacc C=>compPost (model X.prog X.w) X.A X.xe none (EP X pins σ Q) acc C) (Q:=λD H'=>Q (.ref D) H') hc S I2 T st2 f2 hb q2 ?_
 intro D C H' s' m hC hn hm I' q
 exact⟨m,hm,λh' sb=>⟨.ref D,H',WZ I2 I' hC hn sb,rfl,q⟩⟩
theorem ZF {elt iter target:Expr} {ifs:List Expr} {pos:Pos} {wi:TI} {g:TG} {tt:TT} {te:TE} (hc:X.calm=true) (S:jd X N' ix scope) (hi:JI X target iter wi) (hb:∀C s₂ H₂ fp pins,JG (Jw X N' scope C s₂ H₂ fp pins) target g/\Vt (Jw X N' scope C s₂ H₂ fp pins) ifs tt/\JE (Jw X N' scope C s₂ H₂ fp pins) elt te) (hs:∀x,foldedSetIterable iter X.env x=pure x:=by intro _;rfl):JE X (.ListComp elt [⟨target,iter,ifs,0⟩] scope pos) (k9 wi ix g tt te):=.of (ko hc S hi.to (λC s₂ H₂ fp pins=>⟨(hb C s₂ H₂ fp pins).1.to,(hb C s₂ H₂ fp pins).2.1.to,(hb C s₂ H₂ fp pins).2.2.to⟩) hs)
theorem Ww {i:Nat} {x:Str} {elt iter target:Expr} {ifs:List Expr} {pos spos px:Pos} {wi:TI} {g:TG} {tt:TT} {te:TE} (hN:X.N.Nodup) (hxi:X.N[i]?=some x) (hx:vM X.env.scope x) (hc:X.calm=true) (S:jd X N' ix scope) (hi:PI X target iter wi)
   (hb:∀C s₂ H₂ fp pins,PG (Jw X N' scope C s₂ H₂ fp pins) target g/\vK (Jw X N' scope C s₂ H₂ fp pins) ifs tt/\PE (Jw X N' scope C s₂ H₂ fp pins) elt te)
   (hsw:swapsWith (.ListComp elt [⟨target,iter,ifs,0⟩] scope pos) (some (.Name x px)) spos.line X.env=pure true:=by rfl)
   (hs:∀x,foldedSetIterable iter X.env x=pure x:=by intro _;rfl) (hf:X.fn x=true\/X.env.scope.names.lookup x=some .local:=by first | exact .inl rfl | exact .inr rfl | assumption):
   PS X (.Assign [.Name x px] (.ListComp elt [⟨target,iter,ifs,0⟩] scope pos) spos) (VB (k9 wi ix g tt te) (Jv i)):=by
 intro pins s σ H D I h
 rw[exec_Assign_Name_used _ _ _ _ hsw]
 refine wpAny_bind (wpAny_standAt (wpAny_bind ?_))
 show wpAny _ X.A (do let _ <-comprehension (.ListComp elt [⟨target,iter,ifs,0⟩] scope pos) scope X.env _ (newList []) false (eval iter X.env) (some (assign (.Name x px) X.env))) _ _ s
 refine wpAny_bind (qO (wpAny_comprehension_free (use:=some (assign (.Name x px) X.env)) (Q:=λ_ s'=>SP X pins D .next s') rfl hs (jU (S.freeH I.ok)) S.kind S.locH ?_) λ_ s' hq=>wpAny_pure (wpAny_pure hq))
 refine qO (hi pins s σ H _ I h) λxv s1 h1=>qO h1 λitv s2 h2=>?_
 obtain⟨it,fp,tn,J,H2,e,I2,T,st2,f2,q2⟩:=h2
 subst e
 refine ZJ (RR:=λacc C=>compPost (model X.prog X.w) X.A X.xe (some (assign (.Name x px) X.env)) (λ_ s'=>SP X pins D .next s') acc C) (Q:=λD' H'=>Jv i (.ref D') σ H' D.nx) hc S I2 T st2 f2 hb q2 ?_
 intro D' C H' s' m hC hn hm I' q
 show wpAny _ X.A (assign (.Name x px) X.env (.ref D')) _ _ _
 refine wpAny_assign_Name (Zu I' hN hxi hx (v:=.ref D') rfl (λs'' I'' hch=>?_) hf)
 obtain⟨a,sb,ha⟩:=hch
 have hCa:C≠a:=by
   rcases ha with z | z
   . rw[z];exact Nat.ne_of_gt (Nat.lt_of_lt_of_le I2.lt hC)
   . intro e
     obtain⟨v,qc⟩:=I2.cell x a z
     exact absurd (Nat.lt_of_lt_of_le qc.lt (by rw[<-e];exact hC)) (Nat.lt_irrefl _)
 refine⟨m,hm.sameBut sb hCa,λh' sb'=>?_⟩
 refine⟨_,H',?_,q⟩
 refine I''.turned (it:=C) (t':=s''.toks) (λb o hb e=>(sb'.2 b hb).trans e) hn (Nat.ne_of_gt (Nat.lt_of_lt_of_le I2.lt hC)) (.inr (Nat.le_trans I2.sz hC)) (λy c e z=>?_) λp hp z=>?_
 . obtain⟨v,qc⟩:=I2.cell y c e
   exact absurd (Nat.lt_of_lt_of_le qc.lt (by rw[z];exact hC)) (Nat.lt_irrefl _)
 . exact absurd (Nat.lt_of_lt_of_le (Heap.lt_size (I2.pin p hp).1) (by rw[z];exact hC)) (Nat.lt_irrefl _)
theorem WR {i:Nat} {x:Str} {elt iter target:Expr} {ifs:List Expr} {pos spos px:Pos} {wi:TI} {g:TG} {tt:TT} {te:TE} (hN:X.N.Nodup) (hxi:X.N[i]?=some x) (hx:vM X.env.scope x) (hc:X.calm=true) (S:jd X N' ix scope) (hi:JI X target iter wi) (hb:∀C s₂ H₂ fp pins,JG (Jw X N' scope C s₂ H₂ fp pins) target g/\Vt (Jw X N' scope C s₂ H₂ fp pins) ifs tt/\JE (Jw X N' scope C s₂ H₂ fp pins) elt te) (hsw:swapsWith (.ListComp elt [⟨target,iter,ifs,0⟩] scope pos) (some (.Name x px)) spos.line X.env=pure true:=by rfl) (hs:∀x,foldedSetIterable iter X.env x=pure x:=by intro _;rfl) (hf:X.fn x=true\/X.env.scope.names.lookup x=some .local:=by first | exact .inl rfl | exact .inr rfl | assumption):JS X (.Assign [.Name x px] (.ListComp elt [⟨target,iter,ifs,0⟩] scope pos) spos) (VB (k9 wi ix g tt te) (Jv i)):=.of (Ww hN hxi hx hc S hi.to (λC s₂ H₂ fp pins=>⟨(hb C s₂ H₂ fp pins).1.to,(hb C s₂ H₂ fp pins).2.1.to,(hb C s₂ H₂ fp pins).2.2.to⟩) hsw hs hf)
end
end L2
set_option Elab.async false
set_option linter.all false
set_option maxRecDepth 100000
set_option maxHeartbeats 4000000
namespace L2
open PySem PySem.Spec PyProof.Rows
section
variable {K:PySem.W.Frag} {g:TG} {tt:TT} {te:TE} {D a:Addr} {σ:St} {H:Hp} {Q:Hp->Prop}
def Vk (tt:TT) (te:TE) (D:Addr) (N:St->Hp->Prop):St->Hp->Prop:=λσ2 H3=>tt σ2 H3 λb H4=>
 if b=true then te σ2 H4 λv H5=>∃ys,H5 D=some (.lst ys)/\ys.length < sizeLine/\N σ2 (qr H5 D (.lst (ys++[v]))) else N σ2 H4
theorem Vi {J:It} {n:Nat} (Pv:Nat->St->Hp->Prop) (h0:Pv 0 σ (qr H D (.lst [])))
   (go:∀i σ' H',i < n->Pv i σ' H'->J.go i H'/\∀x H2,J.yld i H' x H2->g x σ' H2 (Vk tt te D (Pv (i+1)))) (stop:∀σ' H',Pv n σ' H'->J.stop n H'/\Q H'):Yc J g tt te D σ H Q:=by
 refine⟨λi m σ' H'=>m=n - i/\i<=n/\Pv i σ' H',⟨n,by simp,Nat.zero_le _,h0⟩,?_⟩
 rintro i m σ' H' ⟨rfl,hi,p⟩
 by_cases hlt:i < n
 . obtain⟨h1,h2⟩:=go i σ' H' hlt p
   exact .inr ⟨h1,Pv (i+1),λσ2 H2 p2=>⟨n - (i+1),by omega,rfl,hlt,p2⟩,h2⟩
 . have e:i=n:=by omega
   subst e
   exact .inl (stop σ' H' p)
theorem ZK {lo:Int} {n:Nat} (Pv:Nat->St->Hp->Prop) (h0:Pv 0 σ (qr H D (.lst [])))
   (hs:∀i σ' H',i < n->Pv i σ' H'->g (.int (lo+i)) σ' H' (Vk tt te D (Pv (i+1)))) (hd:∀σ' H',Pv n σ' H'->Q H'):Yc (UF lo n) g tt te D σ H Q:=
 Vi (n:=n) Pv h0 (λi σ' H' hi p=>⟨hi,λx H2 y=>by
   obtain⟨e,y⟩:=y
   subst e y
   exact hs i σ' H2 hi p⟩) λσ' H' p=>⟨Nat.le_refl _,hd σ' H' p⟩
theorem Vj {xs:List V} (Pv:Nat->St->Hp->Prop) (h0:Pv 0 σ (qr H D (.lst []))) (hl:∀i σ' H',i<=xs.length->Pv i σ' H'->SqL K H' a xs)
   (hs:∀i x σ' H',xs[i]?=some x->Pv i σ' H'->g x σ' H' (Vk tt te D (Pv (i+1)))) (hd:∀σ' H',Pv xs.length σ' H'->Q H'):Yc (vD K a) g tt te D σ H Q:=
 Vi (n:=xs.length) Pv h0 (λi σ' H' hi p=>⟨⟨xs,xs[i],hl i σ' H' (Nat.le_of_lt hi) p,by simp [hi]⟩,λx H2 y=>by
   obtain⟨e,y⟩:=y
   subst e
   exact hs i x σ' _ (y xs (hl i σ' _ (Nat.le_of_lt hi) p)) p⟩) λσ' H' p=>⟨⟨xs,hl _ σ' H' (Nat.le_refl _) p,Nat.le_refl _⟩,hd σ' H' p⟩
end
section
variable {X:Cx}
theorem Zi:∀(bs:List Bool),(List.range bs.length).all (λi=>bs.getD i false)=bs.all id:=by
 intro bs
 induction bs with
 | nil=>rfl
 | cons b bs ih=>
   rw[List.length_cons,List.range_succ_eq_map,List.all_cons,List.all_map,List.all_cons]
   have:((λi=>(b::bs).getD i false) ∘ Nat.succ)=λi=>bs.getD i false:=by
     funext i
     simp [Function.comp]
   rw[this,ih]
   simp
theorem XY (hc:X.calm=true):Qr X (.builtin "all") (λxs H Q=>∃(p:Addr) (bs:List Bool),xs=[.ref p]/\SqL X.K H p (bs.map V.bl)/\Q (.bl (bs.all id)) H):=by
 intro pins s σ H xs us Q I r h
 obtain⟨p,bs,rfl,hq,q⟩:=h
 obtain⟨u,rfl,rx⟩:=QQ r
 cases rx
 obtain⟨its,rv,pl,hz⟩:=I.list hq
 have hlt:p < s.heap.objs.size:=by
   obtain⟨o,n,e,_⟩:=pl
   exact Heap.lt_size e
 have hn:its.toArray.size=bs.length:=by
   have:=rv.length
   rw[List.length_map]at this
   simp only[List.size_toArray]
   omega
 have hh:X.A.in1.handled=none:=I.ok.hd hc
 refine call_all_walk (wpAny_pyIter_list pl.isList ?_)
 refine⟨s.heap.objs.size,[s.heap.objs.size,p],[s.heap.objs.size],its.toArray.size,λi v=>its.toArray[i]?=some v,_,λi=>bs.getD i false,rfl,Walks.list hh s.heap.objs.size p (Nat.ne_of_lt hlt) its.toArray,
   ⟨⟨_,Heap.get?_push_size _ rfl,rfl,rfl⟩,pl.isList.at λo e=>Heap.get?_push_of_some _ e⟩,?_,λh' tk hk=>?_⟩
 . intro i v s' Q' E' hP hQ
   have hi:its[i]?=some v:=by simpa using hP
   have hb:∃b,bs[i]?=some b/\v=Value.bool b:=by
     cases e:bs[i]? with
     | none=>
       exfalso
       have h1:(bs.map V.bl)[i]?=none:=by rw[List.getElem?_map,e];rfl
       rw[qy.none_of rv h1]at hi
       cases hi
     | some b=>
       have h1:(bs.map V.bl)[i]?=some (V.bl b):=by rw[List.getElem?_map,e];rfl
       obtain⟨u,hu,ru⟩:=rv.get h1
       rw[hi]at hu
       cases hu
       exact⟨b,rfl,ru⟩
   obtain⟨b,e,rfl⟩:=hb
   refine wpAny_truthy_bool ?_
   have e2:bs.getD i false=b:=by rw[List.getD_eq_getElem?_getD,e];rfl
   have hQ':Q' (bs.getD i false) s':=hQ
   rw[e2]at hQ'
   exact hQ'
 . rw[hn,Zi]
   refine⟨.bl (bs.all id),H,?_,rfl,q⟩
   exact I.kept (h':=h') (t':=tk) λb o e=>hk b o (by
     intro z
     have z':b=s.heap.objs.size:=by simpa using z
     exact absurd (Heap.lt_size e) (by rw[z'];exact Nat.lt_irrefl _)) (Heap.get?_push_of_some _ e)
theorem Yd {ys:List Str}:∀{us:List Value},qy (ys.map V.str) us->StrsAre us ys:=by
 induction ys with
 | nil=>
   intro us r
   rw[List.map_nil]at r
   cases r
   exact .nil
 | cons y ys ih=>
   intro us r
   rw[List.map_cons]at r
   cases r with
   | cons a b=>
     obtain⟨t,rfl⟩:=a
     exact .cons _ _ (ih b)
def ki (K:PySem.W.Frag):V->List V->Hp->VK->Prop:=λx xs H Q=>∃(sep:Str) (p:Addr) (ys:List Str),x=.str sep/\xs=[.ref p]/\SqL K H p (ys.map V.str)/\(ys.map (·.length)).sum+ys.length*sep.length<=16777216/\Q (.str (Txt.join sep ys)) H
theorem JJ:vC X "str.join" (ki X.K):=by
 intro pins s σ H x xs v us Q I rx rv h
 obtain⟨sep,p,ys,rfl,rfl,hq,hz,q⟩:=h
 obtain⟨t,rfl⟩:=rx
 obtain⟨u,rfl,ru⟩:=QQ rv
 cases ru
 obtain⟨its,r',pl,_⟩:=I.list hq
 exact join_list pl.isList (by simpa using Yd r') hz λt' k=>⟨.str _,H,I.tok k,⟨t',rfl⟩,q⟩
def Ue:V->Value
 | .ty n=>.type n
 | .ref a=>.ref a
 | _=>.none
def UA:V->Bool
 | .ty _=>true
 | .ref _=>true
 | _=>false
def kj (K:PySem.W.Frag):List V->Hp->VK->Prop:=λxs H Q=>∃x c t b,xs=[x,c]/\UA c=true/\TyOf K H x t/\PySem.W.kitOne K t (Ue c)=some b/\Q (.bl b) H
theorem qG:Qr X (.builtin "isinstance") (kj X.K):=by
 intro pins s σ H xs us Q I r h
 obtain⟨x,c,t,b,rfl,hc,ty,e,q⟩:=h
 obtain⟨u,w',rfl,ru,rw'⟩:=YB r
 have ew:w'=Ue c:=by
   cases c with
   | ty n=>exact rw'
   | ref a=>exact rw'
   | _=>cases hc
 subst ew
 exact XL I ru ty e λtk=>⟨.bl b,H,I.tok tk,rfl,q⟩
end
end L2
namespace L2
open PySem PySem.Spec PyProof.Rows
end L2
set_option Elab.async false
set_option linter.all false
set_option maxRecDepth 100000
set_option maxHeartbeats 4000000
namespace L2
open PySem PySem.Spec PyProof.Rows
abbrev vO (rest:List Value):Obj:={cls:=.type "tuple",data:=.seq rest.toArray}
abbrev vw (C t:Addr):Obj:={cls:=.ref C,data:=.fields #[.ref t,.none,.none,.none,.bool false,.none]}
section
variable {prog:Program} {w:World} {A:Around} {E:Value->Shared->Prop} {h:Heap} {g:Array GenState} {d:Drawn} {t:Nat} {os:OsState}
variable {nm q:Str} {C N fI:Addr} {bs bm bmB bmN:List Value} {hdct:Bool} {sn:List Str} {sub:List Value} {ab:Bool} {col:Option Bool} {dd:Option Addr} {k0 k1 k2 k3 k5:Option Value} {B Bn newId nid initId inN:String} {rest:List Value} {oI:Obj}
theorem Ya {Q:Fin->Shared->Prop} (Fn:ExcBaseFacts Bn newId inN bmN) (hBn:bmB.contains (.type Bn)=true)
   (F:ExcBaseFacts B nid initId bmB) (T:OwnTail h bmB bm)
   (hC:h.get? C=some (excClassObj nm q C N bs bm hdct sn sub ab col dd k0 k1 k2 k3 k5 newId))
   (hi:PySem.W.Looks (model prog w) h (typeLookup (.ref C) "__init__") (some (.ref fI))) (hfI:h.get? fI=some oI) (hfc:oI.cls=.type "function")
   (hq:∀h' e,h.objs.size<=e->Heap.MadeExcOf h h' e (.ref C) rest->
     wpAny (model prog w) A (call (.ref fI) (.ref e::rest)) (λr s'=>r=.none/\Q (.done (.ret (.ref e))) s') E ⟨h',g,d,t,os⟩)
   (hz:rest.length<=sizeLine):
   wpAny (model prog w) A (Builtin.«type.__call__» ⟨.ref C::rest,[]⟩) Q E ⟨h,g,d,t,os⟩:=by
 repeat (first
   | with_reducible refine wpAny_loadPart_at hC ?_
   | with_reducible refine wpAny_madeBy_exc hC ?_
   | wp_step)
 refine codeAny_call_builtin_code (Code.quiet_builtin _ Fn.quiet) (wpAny_check_new_subU Fn hBn T hC
   (codeAny_exc_new_subU Fn hBn F T hC ?_ hz))
 show wpAny _ _ _ _ _ _
 have k:∀b o,h.get? b=some o->((h.push (vO rest)).push (vw C h.objs.size)).get? b=some o:=λb o e=>
   Heap.get?_push_of_some _ (Heap.get?_push_of_some _ e)
 have c1:=k _ _ hC
 have f1:=k _ _ hfI
 have i1:=hi.keeps k
 have e1:((h.push (vO rest)).push (vw C h.objs.size)).get? (h.objs.size+1)=some (vw C h.objs.size):=by heap_get
 have hcC:(Value.ref C::bm).contains (.ref C)=true:=by simp
 unfold isInstance
 repeat (first
   | with_reducible refine wpAny_loadPart_at e1 ?_
   | (with_reducible refine wpAny_isSubtype_exc c1 ?_;rw[hcC])
   | wp_step)
 show wpAny _ _ (typeLookup (.ref C) _) _ _ _
 refine i1.at ?_
 refine wpAny_holding (wpAny_bind ?_)
 unfold bindSpecial
 refine wpAny_bind (wpAny_typeOf (T:="function") ⟨_,f1,hfc⟩ ?_)
 rw[if_pos (by decide)]
 refine wpAny_pure (wpAny_bind (qO (hq _ (h.objs.size+1) (Nat.le_succ _) ⟨k,Heap.get?_none_of_le (Nat.le_succ _),h.objs.size,e1,Heap.get?_none_of_le (Nat.le_refl _),?_⟩) λr s' hr=>?_))
 . exact Heap.get?_push_of_some _ (Heap.get?_push_at rfl rfl)
 . obtain⟨rfl,hQ⟩:=hr
   wp_walk
   exact hQ
theorem XX {Q:Value->Shared->Prop} (Fn:ExcBaseFacts Bn newId inN bmN) (hBn:bmB.contains (.type Bn)=true)
   (F:ExcBaseFacts B nid initId bmB) (T:OwnTail h bmB bm)
   (hC:h.get? C=some (excClassObj nm q C N bs bm hdct sn sub ab col dd k0 k1 k2 k3 k5 newId))
   (hi:PySem.W.Looks (model prog w) h (typeLookup (.ref C) "__init__") (some (.ref fI))) (hfI:h.get? fI=some oI) (hfc:oI.cls=.type "function")
   (hq:∀h' e,h.objs.size<=e->Heap.MadeExcOf h h' e (.ref C) rest->
     wpAny (model prog w) (A.under (.builtin "type.__call__" ⟨.ref C::rest,[]⟩)) (call (.ref fI) (.ref e::rest)) (λr s'=>r=.none/\Q (.ref e) s') E ⟨h',g,d,t,os⟩)
   (hz:rest.length<=sizeLine):
   wpAny (model prog w) A (call (.ref C) rest) Q E ⟨h,g,d,t,os⟩:=by
 have a1:=tc_lookup
 have a2:=tc_bind (.ref C)
 have a3:(⟨h,g,d,t,os⟩:Shared).TypeIs (.ref C) "type":=⟨_,hC,rfl⟩
 refine wpAny_call (codeAny_of_tree ?_)
 show wpAny _ _ (callAny (.ref C) _) _ _ _
 repeat (any_goals (first
   | assumption
   | with_reducible refine wpAny_loadPart_at hC ?_
   | wp_step))
 refine⟨rfl,codeAny_call_builtin_at (Code.quiet_builtin _ (by decide+kernel)) entry_typeCall
   (wpAny_check_type_call_sub hC (Ya Fn hBn F T hC hi hfI hfc (λh' e he hm=>?_) hz))⟩
 exact hq h' e he hm
end
end L2
namespace L2
open PySem PySem.W PyProof.Rows Builtin Builtin.ObjectAttr
structure Jz (K:Frag) (C:Addr) (bm:List Value):Prop where
 ga:findIn K (.ref C) "__getattribute__"=some (some (.builtin "BaseException.__getattribute__"))
 gt:findIn K (.ref C) "__getattr__"=some none
 sa:findIn K (.ref C) "__setattr__"=some (some (.builtin "object.__setattr__"))
 hd:hasDictIn K C=true
 mr:∃cd,clsIn K C=some cd/\cd.mro=.ref C::bm
 mb:mroIn K C (.type "BaseException")=some true
 mo:mroIn K C (.type "object")=some true
 cl:findIn K (.ref C) "__class__"=some (some (.builtin "object.__class__"))
def Yk:List Value->Prop
 | .ref _::r=>Yk r
 | l=>l=[.type "ValueError",.type "Exception",.type "BaseException",.type "object"]
theorem YV (self:Value):∀{l:List Value},Yk l->refuseLoop self "__setattr__" l=pure ()
 | .ref c::r,e=>by rw[refuseLoop_ref];exact YV self (l:=r) e
 | [],e=>nomatch (show ([]:List Value)=[.type "ValueError",.type "Exception",.type "BaseException",.type "object"] from e)
 | .type n::r,e=>by
   have e':(Value.type n::r)=[.type "ValueError",.type "Exception",.type "BaseException",.type "object"]:=e
   rw[e'];kernel_rfl
 | .none::r,e=>by have e':(Value.none::r)=[.type "ValueError",.type "Exception",.type "BaseException",.type "object"]:=e;cases e'
 | .bool _::r,e=>by have e':_=[Value.type "ValueError",.type "Exception",.type "BaseException",.type "object"]:=e;cases e'
 | .int _ _::r,e=>by have e':_=[Value.type "ValueError",.type "Exception",.type "BaseException",.type "object"]:=e;cases e'
 | .float _ _::r,e=>by have e':_=[Value.type "ValueError",.type "Exception",.type "BaseException",.type "object"]:=e;cases e'
 | .str _ _::r,e=>by have e':_=[Value.type "ValueError",.type "Exception",.type "BaseException",.type "object"]:=e;cases e'
 | .bytes _ _::r,e=>by have e':_=[Value.type "ValueError",.type "Exception",.type "BaseException",.type "object"]:=e;cases e'
 | .builtin _::r,e=>by have e':_=[Value.type "ValueError",.type "Exception",.type "BaseException",.type "object"]:=e;cases e'
section
variable {prog:Program} {w:World} {A:Around} {E:Value->Shared->Prop} {s:Shared} {K:Frag} {x C:Addr} {ox:Obj} {od:Option Obj} {bm:List Value} {name:Str} {v:Value}
theorem VS {tk:Tok} {R:Result->Shared->Prop} (X:K.In s.heap) (I:InstAt s.heap x ox C od) (c:Jz K C bm) (hb:Yk bm) (ht:findIn K (.ref C) name=some none)
   (h:∀b,wpAny (model prog w) A.in1 (storeInOwnDict (.ref x) (.ref C) (.str name tk) name v b)
     (λfin s'=>match fin with | .done f=>R (.ok f) s' | .again c'=>c'.quiet=true/\codeAny (model prog w) A c' R s') (λe s'=>R (.error e) s') s):
   codeAny (model prog w) A (.call (.builtin "object.__setattr__") ⟨[.ref x,.str name tk,v],[]⟩) R s:=by
 have SF:=PySem.F.store_object
 obtain⟨cd,hc,hm⟩:=c.mr
 have sub:Looks (model prog w) s.heap (isInstance (.ref x) (.type "object")) true:=I.type.andThen (looks_mroIn X c.mo)
 refine codeAny_call_builtin SF.slot.plain SF.entry
   (@check_slot (model prog w) _ _ s "object.__setattr__" "object" "__setattr__" (.ref x) [.str name tk,v] [] _ SF.kind SF.split sub (SF.args (.ref x) (.str name tk) v) ?_)
 have lm:Looks (model prog w) s.heap (mroOf (.ref C)) cd.mro:=(looks_clsIn X hc).andThen .now
 rw[osa_eq,refuse_eq]
 refine wpAny_bind (wpAny_bind (I.type.here (wpAny_bind (lm.here ?_))))
 rw[hm,refuseLoop_ref,YV _ hb]
 refine wpAny_pure (wpAny_bind (I.type.here (wpAny_bind ((looks_findIn X ht).here ?_))))
 exact wpAny_bind (wpAny_pure (h _))
theorem Wn {Q:Unit->Shared->Prop} (X:K.In s.heap) (hx:s.heap.get? x=some ox) (hc:ox.cls=.ref C) (hdc:ox.dict=none) (hda:∃fl,ox.data=.fields fl) (c:Jz K C bm) (hb:Yk bm) (ht:findIn K (.ref C) name=some none)
   (h:∀h' tk,h'.get? x=some {ox with dict:=some s.heap.objs.size}->h'.Ns1 s.heap.objs.size (λy=>if y=name then some v else none)->
     (∀b o,b≠x->s.heap.get? b=some o->h'.get? b=some o)->Q () {s with heap:=h',toks:=tk}):
   wpAny (model prog w) A (setAttr (.ref x) name v) Q E s:=by
 obtain⟨fl,hfl⟩:=hda
 obtain⟨oc,odi,oda,osl⟩:=ox
 dsimp only at hc hdc hfl
 subst hc hdc hfl
 have I:InstAt s.heap x ⟨.ref C,none,.fields fl,osl⟩ C none:=⟨hx,rfl,rfl,trivial⟩
 refine set_plain X I c.sa (VS (s:={s with toks:=s.toks+1}) X I c hb ht λb=>?_)
 obtain⟨cd,hcd,hdd⟩:=any_some c.hd
 refine wpAny_bind (wpAny_pure (wpAny_bind (wpAny_bind (wpAny_loadPart hx (wpAny_bind (Looks.here (s:={s with toks:=s.toks+1}) (looks_clsIn X hcd) ?_))))))
 rw[hdd]
 have hne:x≠s.heap.objs.size:=Nat.ne_of_lt (Heap.lt_size hx)
 have h1:=Heap.get?_push_of_some PySem.W.emptyDict hx
 refine wpAny_bind (wpAny_alloc (wpAny_bind (wpAny_update h1 ?_)))
 generalize hh2:(s.heap.push emptyDict).update x (λo=>{o with dict:=some s.heap.objs.size})=h2
 have e2:h2.get? x=some ⟨.ref C,some s.heap.objs.size,.fields fl,osl⟩:=by rw[<-hh2];exact Heap.get?_update_self _ h1 rfl
 have k2:∀b o,b≠x->(s.heap.push emptyDict).get? b=some o->h2.get? b=some o:=λb o hb e=>by rw[<-hh2,Heap.get?_update_other _ _ (Ne.symm hb)];exact e
 have n0:(s.heap.push emptyDict).Ns s.heap.objs.size (λ_=>none):=⟨emptyDict,#[],_,Heap.get?_push_size s.heap rfl,rfl,(λe he=>absurd he (by simp)),λ_=>rfl⟩
 have n2:h2.Ns1 s.heap.objs.size (λ_=>none):=(Heap.Ns1.of_empty n0).at λo q=>k2 _ o (Ne.symm hne) q
 refine wpAny_pure (a:=some s.heap.objs.size) (wpAny_bind (wpAny_pure (wpAny_bind ?_)))
 refine wpAny_nsSet1 (s:={s with heap:=h2,toks:=s.toks+1}) n2 λh' hn2 hs2=>?_
 obtain⟨oD,esD,epD,hoD,hdD,hcD⟩:=hn2.count (PySem.Within.cons name v PySem.Within.nil)
 refine wpAny_bind (wpAny_lookBehind hoD (by rw[hdD];exact pastItsLine_dict (Nat.le_trans hcD (by show 1<=sizeLine+1;decide))) ?_)
 refine wpAny_pure (h h' (s.toks+1+1) ((hs2.2 x hne).trans e2) hn2 λb o hb e=>?_)
 exact(hs2.2 b (Nat.ne_of_lt (Heap.lt_size e))).trans (k2 b o hb (Heap.get?_push_of_some _ e))
theorem Xc {fill expr:Bool} {tk:Tok} {Q:Value->Shared->Prop} (X:K.In s.heap) (I:InstAt s.heap x ox C od) (c:Jz K C bm)
   (h:wpAny (model prog w) A.in1 (Builtin.«object.__getattribute__» ⟨[.ref x,.str name tk],[]⟩) (λfin s'=>match fin with | .done (.ret u)=>handedIn u=true/\Q u s' | _=>False) (λ_ _=>False) s):
   wpAny (model prog w) A (getAttrBy (.ref x) (.str name tk) fill expr) Q E s:=by
 have ga:=PySem.F.attr_ValueError.ga
 have L1:=looks_findIn (M:=model prog w) X c.ga
 have L2:=looks_findIn (M:=model prog w) X c.gt
 have hk:builtinKind "BaseException.__getattribute__"=some .slot:=by decide+kernel
 have hs:splitId "BaseException.__getattribute__"=some ("BaseException","__getattribute__"):=by decide+kernel
 have sub:Looks (model prog w) s.heap (isInstance (.ref x) (.type "BaseException")) true:=I.type.andThen (looks_mroIn X c.mb)
 unfold getAttrBy
 refine wpAny_holding (wpAny_bind (I.type.here (wpAny_bind (L1.here ?_))))
 dsimp only
 have eb:(Value.builtin "BaseException.__getattribute__"==Value.builtin "object.__getattribute__")=false:=by decide+kernel
 rw[if_neg (by rw[eb,Bool.and_false];decide)]
 unfold getAttrByItsOwn
 refine wpAny_bind (show wpAny _ _ (hookBefore (.ref C)) _ _ _ from L2.here ?_)
 refine wpAny_bind (wpAny_attempt (wpAny_holding ?_))
 unfold callGetattribute
 have e0:(expr&&onTheHeap (Value.builtin "BaseException.__getattribute__"))=false:=by cases expr<;>rfl
 rw[if_neg (by rw[e0];decide)]
 unfold boundAndCalled
 rw[ga.bind]
 refine wpAny_bind (wpAny_pure ?_)
 refine wpAny_call (codeAny_call_builtin ga.plain PySem.F.entry_bexc_ga
   (@check_slot (model prog w) _ _ s "BaseException.__getattribute__" "BaseException" "__getattribute__" (.ref x) [.str name tk] [] _ hk hs sub (PySem.F.args_bexc_ga _ _) ?_))
 refine wpAny_mono h (λfin s' z=>?_) λ_ _ z=>z.elim
 cases fin with
 | again c'=>exact z.elim
 | done f=>
   cases f with
   | next=>exact z.elim
   | brk=>exact z.elim
   | cont=>exact z.elim
   | ret u=>
     obtain⟨hh,q⟩:=z
     show wpAny _ _ (handedOut u) _ _ _
     rw[handedOut_of hh]
     exact wpAny_pure q
theorem Ua {expr:Bool} {Q:Value->Shared->Prop} {odd:Obj} (X:K.In s.heap) (I:InstAt s.heap x ox C (some odd)) (c:Jz K C bm) (ha:findIn K (.ref C) name=some none) (hl:lookIn name odd=some (some v)) (hv:handedIn v=true)
   (h:Q v {s with toks:=s.toks+1}):wpAny (model prog w) A (getAttr (.ref x) name expr) Q E s:=by
 have hf:findObj K C (some odd) name=some (.value v):=findObj_own c.hd ha rfl hl
 have LF:=looks_find (M:=model prog w) X I hf
 unfold getAttr
 refine wpAny_bind (wpAny_mkText (Xc (s:={s with toks:=s.toks+1}) X I c ?_))
 unfold Builtin.«object.__getattribute__»
 refine wpAny_bind (wpAny_pure (wpAny_bind (wpAny_pure (wpAny_bind (Looks.here (s:={s with toks:=s.toks+1}) I.type (wpAny_bind (Looks.here (s:={s with toks:=s.toks+1}) LF ?_)))))))
 exact wpAny_pure ⟨hv,h⟩
end
end L2
namespace L2
open PySem PySem.W PyProof.Rows Builtin Builtin.ObjectAttr
section
variable {K:Frag} {x C:Addr} {ox odd:Obj} {bm:List Value}
theorem WQ (c:Jz K C bm) (hn:specialIn K (.builtin "object.__class__") "__get__"=some (some (.builtin "getset_descriptor.__get__"))) (htk:takesIn K (.builtin "object.__class__")=some true):
   KitX K (.ref x) (.ref C) (λh=>InstAt h x ox C (some odd)) where
 ty:=λ_ _ _ I=>I.type
 it:=λ_ _ X _=>by
   obtain⟨cd,hcd,_⟩:=any_some c.hd
   unfold clsIn at hcd
   split at hcd
   . rename_i _ _ _ _ ho
     intro A' Q' E' s' k q
     unfold isType loadHead
     exact wpAny_bind (wpAny_loadPart (k _ _ (X _ _ ho)) (wpAny_pure q))
   . cases hcd
 ne:=λh tp dd its n sl X htp=>by
   obtain⟨cd,hcd,_⟩:=any_some c.hd
   refine Bool.eq_false_iff.mpr λq=>?_
   have e:C=tp:=Value.ref.inj (beq_iff_eq.mp q)
   subst e
   unfold clsIn at hcd
   split at hcd
   . rename_i _ _ _ _ ho
     have z:=(X _ _ ho).symm.trans htp
     cases z
   . cases hcd
 ca:=λ{prog w A E Q s} X I k=>by
   have hf:findObj K C (some odd) "__class__"=some (.bind (.builtin "getset_descriptor.__get__") (.builtin "object.__class__")):=
     findObj_data (by obtain⟨cd,hc,_⟩:=any_some c.hd;rw[hc];rfl) c.cl hn htk
   have LF:=looks_find (M:=model prog w) X I hf
   unfold getAttr? getAttrBy?
   refine wpAny_bind (wpAny_mkText (wpAny_bind (wpAny_attempt (Xc (s:={s with toks:=s.toks+1}) X I c ?_))))
   unfold Builtin.«object.__getattribute__»
   refine wpAny_bind (wpAny_pure (wpAny_bind (wpAny_pure (wpAny_bind (Looks.here (s:={s with toks:=s.toks+1}) I.type (wpAny_bind (Looks.here (s:={s with toks:=s.toks+1}) LF ?_)))))))
   dsimp only
   unfold bindTo
   dsimp only
   refine wpAny_bind (wpAny_holding (wpAny_call (class_get (s:={s with toks:=s.toks+1}) X I c.mo ?_)))
   exact wpAny_pure ⟨rfl,wpAny_pure k⟩
end
end L2
set_option Elab.async false
set_option linter.all false
set_option maxRecDepth 100000
set_option maxHeartbeats 4000000
namespace L2
open PySem PySem.Spec PyProof.Rows
def Jm (e C:Addr):HO:=.ext λh=>∃fl,h.get? e=some {cls:=.ref C,data:=.fields fl}/\fl[1]?=some Value.none
def jP (e C dx:Addr) (hd:Value):HO:=.ext λh=>∃fl,h.get? e=some {cls:=.ref C,dict:=some dx,data:=.fields fl}/\fl[1]?=some hd
abbrev QD (e C dx:Addr):HO:=jP e C dx .none
def jw:List Value:=[.type "ValueError",.type "Exception",.type "BaseException",.type "object"]
structure kZ (K:PySem.W.Frag) (C f:Addr) (bm:List Value):Prop where
 obj:∃nm q N bs hdct sn sub ab col dd k0 k1 k2 k3 k5,K.lookup C=some (excClassObj nm q C N bs bm hdct sn sub ab col dd k0 k1 k2 k3 k5 "ValueError.__new__")
 tail:∀h:Heap,K.In h->OwnTail h jw bm
 init:PySem.W.findIn K (.ref C) "__init__"=some (some (.ref f))
 fn:PySem.W.isFn K (.ref f)=true
 kp:PySem.W.keepIn K (.ref C)=true
section
variable {P:Program} {w:World} {H:Hp} {h h':Heap} {e C dx:Addr}
theorem Ub (he:∃fl,h.get? e=some {cls:=.ref C,data:=.fields fl}/\fl[1]?=some Value.none):qw P w H h e (Jm e C):=by
 obtain⟨fl,q,z⟩:=he
 exact⟨⟨fl,q,z⟩,⟨_,q⟩,λh1 h2 ⟨fl',q',z'⟩ k=>⟨fl',k _ q',z'⟩⟩
theorem Q9 {hd:Value} (he:∃fl,h.get? e=some {cls:=.ref C,dict:=some dx,data:=.fields fl}/\fl[1]?=some hd):qw P w H h e (jP e C dx hd):=by
 obtain⟨fl,q,z⟩:=he
 exact⟨⟨fl,q,z⟩,⟨_,q⟩,λh1 h2 ⟨fl',q',z'⟩ k=>⟨fl',k _ q',z'⟩⟩
end
section
variable {X:Cx} {pins:List (Addr×Obj)} {σ:St} {H:Hp} {s:Shared} {e C dx:Addr} {f:Str} {bm:List Value} {y v:V} {u:Value} {A:Around} {E:Value->Shared->Prop}
theorem qp.excSet {h':Heap} {t':Nat} {fs:List (Str×V)} (I:qp X pins σ H s) (hH:H e=some (Jm e C)) (hd:s.heap.objs.size<=dx)
   (h1:∃fl,h'.get? e=some {cls:=.ref C,dict:=some dx,data:=.fields fl}/\fl[1]?=some Value.none) (h2:∃mA,h'.Ns1 dx mA/\∀f,Qc (fs.lookup f) (mA f))
   (k:∀b o,b≠e->s.heap.get? b=some o->h'.get? b=some o):qp X pins σ (qr (qr H e (QD e C dx)) dx (.xd fs)) {s with heap:=h',toks:=t'}:=by
 have mu:vL (H e):=by rw[hH];exact trivial
 have heo:∃u,h'.get? e=some u:=let ⟨_,q,_⟩:=h1;⟨_,q⟩
 have hn:H dx=none:=I.hok.fresh hd
 have ne:dx≠e:=λz=>by rw[z,hH]at hn;cases hn
 have U:Un X.fs [] H (qr H e (QD e C dx)) s.heap h':=Un.write mu (.inl rfl) k heo
 have W:Qa X.prog X.w (qr H e (QD e C dx)) h':=I.hok.write mu (.inl rfl) k heo (Q9 h1)
 have hn2:(qr H e (QD e C dx)) dx=none:=by rw[qg ne];exact hn
 have nb:∀b o,s.heap.get? b=some o->b≠dx:=λb o q=>Nat.ne_of_lt (Nat.lt_of_lt_of_le (Heap.lt_size q) hd)
 refine I.un ⟨U.keep,U.slot,λb o q n hx=>?_,U.there,λb xs q=>?_,λb o z q=>?_,λb ps q=>?_⟩ λb o q=>?_
 . rw[qg (nb b o q)];exact U.free b o q n hx
 . have:=U.tups b xs q
   rw[qg (qk this hn2)];exact this
 . have:=U.frzs b o z q
   rw[qg (qk this hn2)];exact this
 . obtain⟨m,q'⟩:=U.tbls b ps q
   exact⟨m,by rw[qg (qk q' hn2)];exact q'⟩
 . by_cases hb:b=dx
   . subst hb
     rw[qe]at q
     cases q
     exact h2
   . rw[qg hb]at q
     exact(W b o q).stay (λ_ _ _ z=>z) (λc z=>by rw[qg (qk z hn2)];exact z) (λc xs z=>by rw[qg (qk z hn2)];exact z) (λc o z=>by rw[qg (qk z hn2)];exact z)
theorem Xn {Q:Unit->Shared->Prop} (I:qp X pins σ H s) (hH:H e=some (Jm e C)) (c:Jz X.K C bm) (hb:Yk bm) (n:q5 X.K C f) (ry:qA y u)
   (h:∀dx s',H dx=none->qp X pins σ (qr (qr H e (QD e C dx)) dx (.xd [(f,y)])) s'->Q () s'):wpAny (model X.prog X.w) A (setAttr (.ref e) f u) Q E s:=by
 obtain⟨⟨fl,he,hz⟩,_,_⟩:=(show qw X.prog X.w H s.heap e (Jm e C) from I.hok e _ hH)
 refine Wn I.kIn he rfl rfl ⟨fl,rfl⟩ c hb n λh' tk e1 e2 e3=>?_
 refine h s.heap.objs.size _ (I.hok.fresh (Nat.le_refl _)) (I.excSet hH (Nat.le_refl _) ⟨fl,e1,hz⟩ ⟨_,e2,λg=>?_⟩ e3)
 by_cases hg:g=f
 . subst hg
   rw[List.lookup_cons]
   simp only[beq_self_eq_true,if_true]
   exact ry
 . have hb':(g==f)=false:=beq_eq_false_iff_ne.mpr hg
   rw[List.lookup_cons]
   simp only[hb',hg,if_false]
   exact trivial
theorem XQ {b:Bool} {Q:Value->Shared->Prop} {fs:List (Str×V)} {hd:Value} (I:qp X pins σ H s) (hH:H e=some (jP e C dx hd)) (hx:H dx=some (.xd fs)) (c:Jz X.K C bm) (n:q5 X.K C f) (l:fs.lookup f=some v)
   (h:∀u s',qp X pins σ H s'->qA v u->Q u s'):wpAny (model X.prog X.w) A (getAttr (.ref e) f b) Q E s:=by
 obtain⟨⟨fl,he,_⟩,_,_⟩:=(show qw X.prog X.w H s.heap e (jP e C dx hd) from I.hok e _ hH)
 obtain⟨mA,hn,hr⟩:=(show qw X.prog X.w H s.heap dx (.xd fs) from I.hok dx _ hx)
 obtain⟨od,ho,hl⟩:=Jh hn
 have r:=hr f
 rw[l]at r
 obtain⟨u,eu,ru⟩:=Qc.some_of r
 exact Ua I.kIn ⟨he,rfl,rfl,ho⟩ c n (by rw[hl,eu]) (ZH ru) (h u _ (I.tok _) ru)
theorem WY {cV:Value} {b:Bool} {Q:Value->Shared->Prop} {fs:List (Str×V)} {hd:Value} (I:qp X pins σ H s) (hH:H e=some (jP e C dx hd)) (hx:H dx=some (.xd fs)) (c:Jz X.K C bm)
   (hn:PySem.W.specialIn X.K (.builtin "object.__class__") "__get__"=some (some (.builtin "getset_descriptor.__get__"))) (htk:PySem.W.takesIn X.K (.builtin "object.__class__")=some true)
   (ek:PySem.W.kitOne X.K (.ref C) cV=some b) (h:∀tk,Q (.bool b) {s with toks:=tk}):wpAny (model X.prog X.w) A (call (.builtin "isinstance") [.ref e,cV]) Q E s:=by
 obtain⟨⟨fl,he,_⟩,_,_⟩:=(show qw X.prog X.w H s.heap e (jP e C dx hd) from I.hok e _ hH)
 obtain⟨mA,hns,hr⟩:=(show qw X.prog X.w H s.heap dx (.xd fs) from I.hok dx _ hx)
 obtain⟨od,ho,hl⟩:=Jh hns
 exact PySem.W.kia_one (WQ (ox:={cls:=.ref C,dict:=some dx,data:=.fields fl}) (odd:=od) c hn htk) I.kIn ⟨he,rfl,rfl,ho⟩ ek (λz=>nomatch z) h
end
end L2
namespace L2
open PySem PySem.Spec PyProof.Rows
def yB (K:PySem.W.Frag) (bm:List Value) (ta tv:TE) (f:Str):TS:=λD σ H=>tv σ H λy H1=>ta σ H1 λx H2=>∃a C,x=.ref a/\H2 a=some (Jm a C)/\Jz K C bm/\Yk bm/\q5 K C f/\
 ∀dx,H2 dx=none->D.nx σ (qr (qr H2 a (QD a C dx)) dx (.xd [(f,y)]))
section
variable {X:Cx} {CX:Zm} {k:Nat} {C fI:Addr} {fd:FuncData} {ps:List Str} {sp:Sp} {E:XK} {x f:Str} {o e value:Expr} {es:List Expr} {p pos pos':Pos} {ta tv:TE} {t:TA} {bm:List Value}
theorem vo (ha:JE X o ta) (hv:JE X value tv) (hs:swapsWith value (some (.Attribute o f pos')) pos.line X.env=pure false):JS X (.Assign [.Attribute o f pos'] value pos) (yB X.K bm ta tv f):=.of (by
 have ha:=ha.to
 have hv:=hv.to
 intro pins s σ H D I h
 refine plainObj_wpAny_Assign_Attribute (qO (hv pins s σ H _ I h) λu s1 ⟨y,H1,I1,ry,q⟩=>
   qO (ha pins s1 σ H1 _ I1 q) λov s2 ⟨x,H2,I2,rx,a,C,ex,ea,c,hb,n,q2⟩=>?_) hs
 subst ex
 obtain rfl:ov=Value.ref a:=rx
 exact Xn I2 ea c hb n ry λdx s3 hdx I3=>⟨σ,_,I3,q2 dx hdx⟩)
theorem Xp {pins:List (Addr×Obj)} {σ:St} {H:Hp} {s:Shared} {Q:VK} {us:List Value} {vs:List V} (M:kZ X.K C fI bm) (F:qo X.prog X.w X.K X.mg X.base CX k fI fd ps sp) (hr:qI (k+1) X.A) (hb:qX X.K fd ps [])
   (hx:jo CX X E) (I:qp X pins σ H s) (r:qy vs us) (hz:us.length<=sizeLine)
   (h:∀x,H x=none->sp (.ref x::vs) (qr H x (Jm x C)) (λv H2=>v=.non/\Q (.ref x) H2) E):
   wpAny (model X.prog X.w) X.A (call (.ref C) us) (EP X pins σ Q) X.xe s:=by
 obtain⟨nm,q,N,bs,hdct,sn,sub,ab,col,dd,k0,k1,k2,k3,k5,hC⟩:=M.obj
 have hfn:PySem.W.typeIn X.K (.ref fI)=some (.type "function"):=beq_iff_eq.mp M.fn
 obtain⟨oI,ho,hoc⟩:=Option.map_eq_some_iff.mp hfn
 have KX:=I.kIn
 obtain⟨hp,g,d,tk,os⟩:=s
 refine XX PySem.F.excBase_ValueError (by decide+kernel) PySem.F.excBase_ValueError (M.tail _ KX) (KX _ _ hC) (PySem.W.looks_findIn KX M.init) (KX _ _ ho) hoc (λh' ex hle hm=>?_) hz
 obtain⟨t0,ht,_,_⟩:=hm.there
 have I2:qp X pins σ (qr H ex (Jm ex C)) ⟨h',g,d,tk,os⟩:=I.laid (t':=tk) hm.keeps hle (Ub ⟨_,ht,rfl⟩)
 have hq:=h ex (I.hok.fresh hle)
 have r2:qy (V.ref ex::vs) (Value.ref ex::us):=.cons rfl r
 have hl:(Value.ref ex::us++[]).length=ps.length:=by
   have e:=r2.length
   rw[F.len _ _ _ _ hq]at e
   rw[List.append_nil]
   exact e.symm
 have bb:=hb ⟨h',g,d,tk,os⟩ (Value.ref ex::us) I2.kIn hl
 rw[List.append_nil]at bb
 refine wpAny_call (codeAny_mono (F.run _ X.stack _ _ ⟨Value.ref ex::us,[]⟩ (Value.ref ex::us) _ _ E (hr.make C us []) (I2.env0.make C us []) bb r2 hq) λr s' hq'=>?_)
 cases r with
 | error z=>exact hx pins σ _ _ z s' I2 hq'
 | ok fl=>
   cases fl with
   | ret u=>
     obtain⟨v,H',I3,rv,ev,q3⟩:=I2.after hq'
     subst ev
     exact⟨rv,⟨V.ref ex,H',I3,rfl,q3⟩⟩
   | next=>exact False.elim hq'
   | brk=>exact False.elim hq'
   | cont=>exact False.elim hq'
theorem Qn (M:kZ X.K C fI bm) (F:qo X.prog X.w X.K X.mg X.base CX k fI fd ps sp) (hr:qI (k+1) X.A) (hg:Gl X x) (hm:X.mg x=some (.ref C)) (hb:qX X.K fd ps []) (hx:jo CX X E) (ha:JA X (e::es) t) (hz:(e::es).length<=1000:=by decide) (hv:∀vs us,qy vs us->vs.length<=sizeLine->us.length<=sizeLine:=by intro vs us r h;rw[<-r.length];exact h) (hdb:(x==("__debug__":Str))=false:=by decide) (he:starEach (e::es) X.env=(false,eval e X.env)::starEach es X.env:=by rfl) (hpl:(backTo pos (starEach es X.env)).any (·.1)=false:=by rfl):JE X (.Call (.Name x p) (e::es) [] pos) (λσ H Q=>t σ H λvs H1=>vs.length<=sizeLine/\∀x,H1 x=none->sp (.ref x::vs) (qr H1 x (Jm x C)) (λv H2=>v=.non/\Q (.ref x) H2) E):=.of (by
 have ha:=ha.to
 intro pins s σ H Q I h
 refine wpAny_Call_Name_kw (Q1 I hg hm ?_ hdb)
 refine PySem.W.callWith_K (h₀:=X.base) I.ok.mod.kin M.kp (qO (ha pos pins s σ H _ I h) λus s1 ⟨vs,H1,I1,r,q⟩=>⟨I1.kIn,?_⟩) he hpl
 exact Xp M F hr hb hx I1 r (hv vs us r q.1) q.2)
end
end L2
set_option Elab.async false
set_option linter.all false
set_option maxRecDepth 100000
set_option maxHeartbeats 4000000
namespace L2
open PySem PySem.Spec PyProof.Rows
def neL (xs ys:List V):Bool:=if xs.length=ys.length then !((List.range xs.length).all λj=>W9 (xs.getD j .non) (ys.getD j .non)) else true
def yD (K:PySem.W.Frag):R2:=λx y H Q=>∃a b xs ys,x=.ref a/\y=.ref b/\SqL K H a xs/\SqL K H b ys/\xs.all j9=true/\ys.all j9=true/\Q (.bl (neL xs ys)) H
theorem U1 {X:Cx} (hu:X.A.units < cLine):QF X (compareOp .NotEq) (yD X.K):=by
 intro pins s σ H x y v u Q I rx ry h
 obtain⟨a,b,xs,ys,rfl,rfl,ha,hb,fx,fy,q⟩:=h
 cases rx
 cases ry
 obtain⟨its,rv,pl,_⟩:=I.list ha
 obtain⟨its2,rv2,pl2,_⟩:=I.list hb
 have l1:=rv.length
 have l2:=rv2.length
 by_cases hz:xs.length=ys.length
 . have e:neL xs ys= !((List.range its.toArray.size).all λj=>W9 (xs.getD j .non) (ys.getD j .non)):=by
     unfold neL
     rw[if_pos hz,l1]
     simp
   rw[e]at q
   refine EqBoolInt.of_rcne (SeqAt.RcNeAt.lists (e:=λj=>W9 (xs.getD j .non) (ys.getD j .non)) pl.isList pl2.isList (by simp;omega) hu λj h1 h2=>?_) ⟨.bl _,H,I,rfl,q⟩
   have j1:j < xs.length:=by simp at h1;omega
   have j2:j < ys.length:=by omega
   obtain⟨w1,hw1,r1⟩:=rv.get (List.getElem?_eq_getElem j1)
   obtain⟨w2,hw2,r2⟩:=rv2.get (List.getElem?_eq_getElem j2)
   have e1:xs.getD j .non=xs[j]:=by rw[List.getD_eq_getElem?_getD,List.getElem?_eq_getElem j1];rfl
   have e2:ys.getD j .non=ys[j]:=by rw[List.getD_eq_getElem?_getD,List.getElem?_eq_getElem j2];rfl
   have g1:its.toArray[j]=w1:=by
     have:its.toArray[j]?=some w1:=by simpa using hw1
     rw[Array.getElem?_eq_getElem h1]at this
     exact Option.some.inj this
   have g2:its2.toArray[j]=w2:=by
     have:its2.toArray[j]?=some w2:=by simpa using hw2
     rw[Array.getElem?_eq_getElem h2]at this
     exact Option.some.inj this
   rw[e1,e2,g1,g2]
   exact Vb r1 r2 (List.all_eq_true.mp fx _ (List.getElem_mem j1)) (List.all_eq_true.mp fy _ (List.getElem_mem j2))
 . have e:neL xs ys=true:=by unfold neL;rw[if_neg hz]
   rw[e]at q
   exact EqBoolInt.of_rcne (SeqAt.RcNeAt.lists_lengths pl.isList pl2.isList (by simp;omega) hu) ⟨.bl true,H,I,rfl,q⟩
mutual
inductive DV (K:PySem.W.Frag) (H:Hp):V->PyData->Prop
 | non:DV K H .non .none
 | bl (b:Bool):DV K H (.bl b) (.bool b)
 | int (i:Int):DV K H (.int i) (.int i)
 | str (x:Str):DV K H (.str x) (.str x)
 | lst {a:Addr} {xs:List V} {ds:List PyData}:SqL K H a xs->DVs K H xs ds->DV K H (.ref a) (.list ds)
 | tup {a:Addr} {xs:List V} {ds:List PyData}:SqT K H a xs->DVs K H xs ds->DV K H (.ref a) (.tuple ds)
inductive DVs (K:PySem.W.Frag) (H:Hp):List V->List PyData->Prop
 | nil:DVs K H [] []
 | cons {x:V} {xs:List V} {d:PyData} {ds:List PyData}:DV K H x d->DVs K H xs ds->DVs K H (x::xs) (d::ds)
end
section
variable {X:Cx} {pins:List (Addr×Obj)} {σ:St} {H:Hp} {s:Shared}
mutual
theorem DV.reads (I:qp X pins σ H s):∀{x:V} {d:PyData},DV X.K H x d->∀{u:Value},qA x u->∃as,Reads s.heap u d as
 | _,_,.non,u,r=>by cases (show u=Value.none from r);exact⟨_,.none⟩
 | _,_,.bl b,u,r=>by cases (show u=Value.bool b from r);exact⟨_,.bool b⟩
 | _,_,.int i,u,r=>by obtain⟨t,q⟩:=(show ∃t,u=Value.int i t from r);subst q;exact⟨_,.int i t⟩
 | _,_,.str x,u,r=>by obtain⟨t,q⟩:=(show ∃t,u=Value.str x t from r);subst q;exact⟨_,.str x t⟩
 | _,_,.lst (a:=a) hq hs,u,r=>by
   cases (show u=Value.ref a from r)
   obtain⟨its,rv,⟨o,n,e,hc,hd,hda⟩,hz⟩:=I.list hq
   obtain⟨as,ra⟩:=DVs.reads I hs rv
   exact⟨_,.list e hc hda (by simpa using ra)⟩
 | _,_,.tup (a:=a) hq hs,u,r=>by
   cases (show u=Value.ref a from r)
   obtain⟨its,rv,⟨o,e,hc,n,hda⟩,hz⟩:=I.tuple hq
   obtain⟨as,ra⟩:=DVs.reads I hs rv
   exact⟨_,.tuple e hc hda (by simpa using ra)⟩
theorem DVs.reads (I:qp X pins σ H s):∀{xs:List V} {ds:List PyData},DVs X.K H xs ds->∀{us:List Value},qy xs us->∃as,ReadsAll s.heap us ds as
 | _,_,.nil,_,.nil=>⟨_,.nil⟩
 | _,_,.cons h hs,_,.cons r rs=>by
   obtain⟨as,a⟩:=DV.reads I h r
   obtain⟨bs,b⟩:=DVs.reads I hs rs
   exact⟨_,.cons a b⟩
end
end
end L2
namespace L2
open PySem PySem.Spec PyProof.Rows
end L2
set_option Elab.async false
set_option linter.all false
set_option maxRecDepth 100000
set_option maxHeartbeats 4000000
namespace L2
open PySem PySem.Spec PyProof.Rows
structure Yz (fs:List Addr) (ex:List Addr) (h h':Heap):Prop where
 keep:∀b o,b∉fs->b∉ex->h.get? b=some o->h'.get? b=some o
 slot:∀b o,b∈fs->b∉ex->h.get? b=some o->∃sl,h'.get? b=some {o with slots:=sl}
def UE (T:Addr) (fl:Value) (h:Heap):Prop:=∃ts,h.get? T=some {cls:=.type "traceback",data:=.fields ts}/\ts[3]?=some fl
section
variable {M:Model} {A:Around} {E:Value->Shared->Prop} {s:Shared} {base:Heap} {env:Env} {outer:List Env} {L e:Addr} {cl head:Value} {d:Option Addr} {vs:Array Value} {had:Bool} {Q:Unit->Shared->Prop}
theorem X9 (fr:A.frames=some (env::outer)) (ff:s.heap.FunFrames base (env::outer)) (fm:env.frame=some L)
   (he:s.heap.get? e=some {cls:=cl,dict:=d,data:=.fields vs}) (sz:1 < vs.size)
   (k:∀h' T,s.heap.objs.size<=T->Yz (Jk (env::outer)) [e] s.heap h'->h'.get? e=some {cls:=cl,dict:=d,data:=.fields (vs.setIfInBounds 1 (.ref T))}->UE T (rawInt L) h'->Q () {s with heap:=h'}):
   wpAny M A (frameOf env >>= λa=>entryPlaceOf L had >>= λpl=>EntryCells.newEntry head a .none (rawInt L) .none pl >>= λb=>setField (.ref e) 1 b) Q E s:=by
 have out:e∉Jk (env::outer):=λz=>by
   obtain⟨_,o,ho,nf⟩:=ff.mem z
   rw[he]at ho
   cases ho
   exact nf vs rfl
 refine wpAny_bind (wpAny_frameOf_fun fr ff fm λh1 so=>?_)
 refine wpAny_bind (wpAny_entryPlaceOf λpl ip=>?_)
 have e1:h1.get? e=some {cls:=cl,dict:=d,data:=.fields vs}:=(so.2.1 e out).trans he
 unfold EntryCells.newEntry newFields
 refine wpAny_bind (wpAny_newObj_type ?_ (ip.sizeOk5 _ _ _ _ _))
 have ne:e≠h1.objs.size:=Nat.ne_of_lt (Heap.lt_size e1)
 refine wpAny_setField (Heap.get?_push_of_some _ e1) rfl sz (k _ h1.objs.size (Nat.le_of_eq so.1.symm) ⟨λb o n1 n2 q=>?_,λb o n1 n2 q=>?_⟩ ?_ ⟨_,(Heap.get?_update_other _ _ ne).trans (Heap.get?_push_size _ rfl),?_⟩)
 . have n3:b≠e:=λz=>n2 (by simp [z])
   rw[Heap.get?_update_other _ _ (Ne.symm n3)]
   exact Heap.get?_push_of_some _ ((so.2.1 b n1).trans q)
 . have n3:b≠e:=λz=>n2 (by simp [z])
   obtain⟨sl,r⟩:=so.2.2 b o q
   exact⟨sl,by rw[Heap.get?_update_other _ _ (Ne.symm n3)];exact Heap.get?_push_of_some _ r⟩
 . exact Heap.get?_update_self _ (Heap.get?_push_of_some _ e1) rfl
 . rcases ip with rfl | ⟨_,_,_,_,_,_,_,rfl⟩<;>simp
theorem WL (fr:A.frames=some (env::outer)) (ff:s.heap.FunFrames base (env::outer)) (fm:env.frame=some L)
   (he:s.heap.get? e=some {cls:=cl,dict:=d,data:=.fields vs}) (h1:vs[1]?=some .none)
   (k:∀h' T,s.heap.objs.size<=T->Yz (Jk (env::outer)) [e] s.heap h'->h'.get? e=some {cls:=cl,dict:=d,data:=.fields (vs.setIfInBounds 1 (.ref T))}->UE T (rawInt L) h'->Q () {s with heap:=h'}):
   wpAny M A (noteFrame (.ref e) env) Q E s:=by
 unfold noteFrame
 simp only[fm]
 refine wpAny_bind (wpAny_field he rfl h1 ?_)
 rw[if_neg (show ¬((Value.none != Value.none)=true) by decide)]
 exact X9 fr ff fm he (Array.getElem?_eq_some_iff.mp h1).1 k
theorem za {T:Addr} (fr:A.frames=some (env::outer)) (ff:s.heap.FunFrames base (env::outer)) (fm:env.frame=some L)
   (he:s.heap.get? e=some {cls:=cl,dict:=d,data:=.fields vs}) (h1:vs[1]?=some (.ref T)) (st:UE T .none s.heap) (ne:T≠e)
   (k:∀h' T',s.heap.objs.size<=T'->Yz (Jk (env::outer)) [e,T] s.heap h'->(∃o,h'.get? T=some o)->h'.get? e=some {cls:=cl,dict:=d,data:=.fields (vs.setIfInBounds 1 (.ref T'))}->UE T' (rawInt L) h'->Q () {s with heap:=h'}):
   wpAny M A (noteFrame (.ref e) env) Q E s:=by
 obtain⟨ts,ht,h3⟩:=st
 unfold noteFrame
 simp only[fm]
 refine wpAny_bind (wpAny_field he rfl h1 ?_)
 rw[if_pos (show (Value.ref T != Value.none)=true by simp)]
 refine wpAny_bind (wpAny_field ht rfl h3 ?_)
 rw[if_neg (show ¬((Value.none==rawInt L)=true) by simp [rawInt])]
 refine wpAny_bind (wpAny_setField ht rfl (Array.getElem?_eq_some_iff.mp h3).1 ?_)
 have oth:∀b,b≠T->(s.heap.update T (Obj.mapFields (·.setIfInBounds 3 Value.none))).get? b=s.heap.get? b:=λb n=>Heap.get?_update_other _ _ (Ne.symm n)
 have tno:T∉Jk (env::outer):=λz=>by
   obtain⟨_,o,ho,nf⟩:=ff.mem z
   rw[ht]at ho
   cases ho
   exact nf ts rfl
 refine X9 fr (ff.of_keeps λb o hb nf=>⟨o,(oth b λz=>?_).trans hb,rfl⟩) fm ((oth e (Ne.symm ne)).trans he) (Array.getElem?_eq_some_iff.mp h1).1 λh' T' hT F q1 q2=>?_
 . rw[z,ht]at hb
   cases hb
   exact nf ts rfl
 . have upT:=Heap.get?_update_self (Obj.mapFields (·.setIfInBounds 3 Value.none)) ht rfl
   refine k h' T' (Nat.le_trans (Nat.le_of_eq (by simp)) hT) ⟨λb o n1 n2 q=>?_,λb o n1 n2 q=>?_⟩ ⟨_,F.keep T _ tno (by simp [ne]) upT⟩ q1 q2
   . simp only[List.mem_cons,List.not_mem_nil,or_false,not_or]at n2
     exact F.keep b o n1 (by simp [n2.1]) ((oth b n2.2).trans q)
   . simp only[List.mem_cons,List.not_mem_nil,or_false,not_or]at n2
     exact F.slot b o n1 (by simp [n2.1]) ((oth b n2.2).trans q)
theorem jN {T:Addr} {fl:Value} {fs:List Addr} (he:s.heap.get? e=some {cls:=cl,dict:=d,data:=.fields vs}) (h1:vs[1]?=some (.ref T)) (st:UE T fl s.heap)
   (k:∀h',Yz fs [T] s.heap h'->UE T .none h'->Q () {s with heap:=h'}):wpAny M A (setFlight (.ref e) none) Q E s:=by
 obtain⟨ts,ht,h3⟩:=st
 have lt:=(Array.getElem?_eq_some_iff.mp h3).1
 refine wpAny_setFlight_none he rfl h1 ht rfl lt (k _ ⟨λb o _ n q=>?_,λb o _ n q=>⟨o.slots,?_⟩⟩ ⟨_,Heap.get?_update_self _ ht rfl,by simp [lt]⟩)
 all_goals
   rw[Heap.get?_update_other _ _ λz=>n (by simp [z])]
   exact q
end
structure Zj (ex:List Addr) (n:Nat) (H H':Hp):Prop where
 ext:∀b∈ex,∃φ,H b=some (.ext φ)
 same:∀b o,b∉ex->H b=some o->H' b=some o
 no:∀b,b < n->H b=none->H' b=none
section
variable {P:Program} {w:World} {fs ex:List Addr} {H H':Hp} {h h':Heap}
theorem Zj.out {n:Nat} (t:Zj ex n H H') {b:Addr} {o:HO} (q:H b=some o) (hn:∀φ,o≠.ext φ):b∉ex:=λz=>by
 obtain⟨φ,e⟩:=t.ext b z
 rw[q]at e
 cases e
 exact hn φ rfl
theorem Zj.out0 {n:Nat} (t:Zj ex n H H') {b:Addr} (q:H b=none):b∉ex:=λz=>by
 obtain⟨φ,e⟩:=t.ext b z
 rw[q]at e
 cases e
theorem Un.fly (F:Yz fs ex h h') (t:Zj ex h.objs.size H H') (th:∀b∈ex,∃o,h'.get? b=some o):Un fs [] H H' h h' where
 keep b o q n hf _:=F.keep b o hf (t.out0 n) q
 slot b o q n hf _:=F.slot b o hf (t.out0 n) q
 free b o q n _:=t.no b (Heap.lt_size q) n
 there b o q _:=by
   by_cases hb:b∈ex
   . exact th b hb
   . by_cases hf:b∈fs
     . obtain⟨sl,r⟩:=F.slot b o hf hb q
       exact⟨_,r⟩
     . exact⟨o,F.keep b o hf hb q⟩
 tups b xs q:=t.same b _ (t.out q (by intro φ z;cases z)) q
 frzs b o u q:=t.same b _ (t.out q (by intro φ z;cases z)) q
 tbls b ps q:=⟨#[],by simpa using t.same b _ (t.out q (by intro φ z;cases z)) q⟩
theorem Qa.fly (ok:Qa P w H h) (F:Yz fs ex h h') (t:Zj ex h.objs.size H H') (fr:∀b∈fs,H b=none) (new:∀b o,H' b=some o->(H b=none\/b∈ex)->qw P w H' h' b o):Qa P w H' h':=λb o q=>by
 by_cases hb:b∈ex
 . exact new b o q (.inr hb)
 cases e:H b with
 | none=>exact new b o q (.inl e)
 | some u=>
   have r:=t.same b u hb e
   rw[q]at r
   cases r
   refine(ok b o e).stay (λc v hc g=>F.keep c v ?_ ?_ g) (λc z=>t.same c _ (t.out z (by intro φ z;cases z)) z) (λc xs z=>t.same c _ (t.out z (by intro φ z;cases z)) z) (λc o z=>t.same c _ (t.out z (by intro φ z;cases z)) z)
   . intro z
     have n:=fr c z
     rcases hc with rfl | hc
     . rw[e]at n;cases n
     . rw[hc]at n;cases n
   . rcases hc with rfl | hc
     . exact hb
     . exact t.out hc (by intro φ z;cases z)
end
end L2
namespace L2
open PySem PySem.Spec PyProof.Rows
def X2 (T:Addr) (fl:Value):HO:=.ext (UE T fl)
theorem JU {P:Program} {w:World} {H:Hp} {h:Heap} {T:Addr} {fl:Value} (x:UE T fl h):qw P w H h T (X2 T fl):=by
 obtain⟨ts,q,z⟩:=x
 exact⟨⟨ts,q,z⟩,⟨_,q⟩,λh1 h2 ⟨ts',q',z'⟩ k=>⟨ts',k _ q',z'⟩⟩
def Qz (P:Program) (w:World):Zm:=λouter H s E e s'=>∃a C dx T Hx H',e=.ref a/\s'.os=s.os/\AllBare s'.gens/\Un (Jk outer) [] H H' s.heap s'.heap/\Qa P w H' s'.heap/\
 H' a=some (jP a C dx (.ref T))/\H' T=some (X2 T .none)/\Hx T=none/\Hx a=some (QD a C dx)/\(∀b o,b≠a->Hx b=some o->H' b=some o)/\E (.ref C) (some dx) Hx
def Vn (X:Cx) (E:XK):Prop:=∀(pins:List (Addr×Obj)) (σ:St) (H:Hp) (s:Shared) (a C dx:Addr),qp X pins σ H s->H a=some (QD a C dx)->E (.ref C) (some dx) H->X.xe (.ref a) s
section
variable {X:Cx} {pins:List (Addr×Obj)} {σ:St} {H H':Hp} {s:Shared} {h':Heap} {ex:List Addr}
theorem qp.flown (I:qp X pins σ H s) (F:Yz (Jk X.stack) ex s.heap h') (t:Zj ex s.heap.objs.size H H') (th:∀b∈ex,∃o,h'.get? b=some o)
   (new:∀b o,H' b=some o->(H b=none\/b∈ex)->qw X.prog X.w H' h' b o):qp X pins σ H' {s with heap:=h'}:=
 I.call (g':=s.gens) (t':=s.toks) (d':=s.drawn) (ch:=[]) (Un.fly F t th) (Qa.fly I.hok F t I.stkFree new) I.bare λb z=>absurd z (by simp)
theorem Yz.then {fs ex:List Addr} {h h1 h2:Heap} {T:Addr} (F:Yz fs ex h h1) (G:Yz fs [T] h1 h2) (hT:h.objs.size<=T):Yz fs ex h h2 where
 keep b o n1 n2 q:=G.keep b o n1 (by simp;exact Nat.ne_of_lt (Nat.lt_of_lt_of_le (Heap.lt_size q) hT)) (F.keep b o n1 n2 q)
 slot b o n1 n2 q:=by
   obtain⟨sl,r⟩:=F.slot b o n1 n2 q
   obtain⟨sl',r'⟩:=G.slot b _ n1 (by simp;exact Nat.ne_of_lt (Nat.lt_of_lt_of_le (Heap.lt_size q) hT)) r
   exact⟨sl',r'⟩
end
section
variable {P:Program} {w:World} {K:PySem.W.Frag} {mg:Str->Option Value} {base:Heap} {N:List Str} {qual:Str} {scope:Scope} {f:Addr} {cd:Value} {A:Around} {outer:List Env} {s₀:Shared} {H₀:Hp} {E:XK}
theorem jX:Vn (QE (Qz P w) P w K mg base N qual scope f cd A outer s₀ H₀ E) E:=by
 intro pins σ H s a C dx I ha hE
 obtain⟨⟨fl,he,hz⟩,_,_⟩:=(show qw P w H s.heap a (jP a C dx .none) from I.hok a _ ha)
 have fr:=I.ok.frames
 have ff:=I.stack
 show wpAny _ _ (leaving _ _) _ _ s
 unfold leaving
 refine wpAny_bind (WL fr ff rfl he hz λh1 T hT F q1 q2=>?_)
 have lt:=(Array.getElem?_eq_some_iff.mp hz).1
 have g1:(fl.setIfInBounds 1 (Value.ref T))[1]?=some (.ref T):=by simp [lt]
 have nT:T≠a:=λz=>by
   obtain⟨ts,q,_⟩:=q2
   rw[z,q1]at q
   cases q
 refine jN (fs:=Jk (QE (Qz P w) P w K mg base N qual scope f cd A outer s₀ H₀ E).stack) q1 g1 q2 λh2 F2 st=>?_
 have anf:a∉Jk (QE (Qz P w) P w K mg base N qual scope f cd A outer s₀ H₀ E).stack:=λz=>by
   have:=I.stkFree a z
   rw[ha]at this
   cases this
 have hTn:H T=none:=I.hok.fresh hT
 have q3:=F2.keep a _ anf (by simp [Ne.symm nT]) q1
 have I2:=I.flown (H':=qr (qr H a (jP a C dx (.ref T))) T (X2 T .none)) (Yz.then F F2 hT) ⟨λb hb=>by cases List.mem_singleton.mp hb;exact⟨_,ha⟩,λb o hb q=>by
     rw[qg (qk q hTn),qg λz=>hb (by simp [z])];exact q,λb hb q=>by
     rw[qg (Nat.ne_of_lt (Nat.lt_of_lt_of_le hb hT)),qg λz=>by rw[z,ha]at q;cases q];exact q⟩ (λb hb=>by cases List.mem_singleton.mp hb;exact⟨_,q3⟩) λb o q hb=>by
   by_cases e1:b=T
   . subst e1
     rw[qe]at q
     cases q
     exact JU st
   . rw[qg e1]at q
     by_cases e2:b=a
     . subst e2
       rw[qe]at q
       cases q
       exact Q9 ⟨_,q3,g1⟩
     . rw[qg e2]at q
       rcases hb with hb | hb
       . rw[q]at hb;cases hb
       . exact absurd (List.mem_singleton.mp hb) e2
 exact⟨a,C,dx,T,H,_,rfl,I2.os,I2.bare,I2.base,I2.hok,by rw[qg (Ne.symm nT),qe],qe ..,hTn,ha,λb o nb q=>by rw[qg (qk q hTn),qg nb];exact q,hE⟩
theorem Xs:jo (Qz P w) (QE (Qz P w) P w K mg base N qual scope f cd A outer s₀ H₀ E) E:=by
 intro pins σ H s e s' I0 hc
 obtain⟨a,C,dx,T,Hx,H1,rfl,os,bare,un,hok,ha,ht,hxT,hxa,hx,hE⟩:=hc
 have I:qp (QE (Qz P w) P w K mg base N qual scope f cd A outer s₀ H₀ E) pins σ H1 s':=I0.call' os un hok bare λb z=>absurd z (by simp)
 obtain⟨⟨fl,he,hz⟩,_,_⟩:=(show qw P w H1 s'.heap a (jP a C dx (.ref T)) from I.hok a _ ha)
 obtain⟨st0,_,_⟩:=(show qw P w H1 s'.heap T (X2 T .none) from I.hok T _ ht)
 have fr:=I.ok.frames
 have ff:=I.stack
 have nT0:T≠a:=λz=>by
   obtain⟨ts,q,_⟩:=st0
   rw[z,he]at q
   cases q
 show wpAny _ _ (leaving _ _) _ _ s'
 unfold leaving
 refine wpAny_bind (za fr ff rfl he hz st0 nT0 λh1 T' hT F tT q1 q2=>?_)
 have lt:=(Array.getElem?_eq_some_iff.mp hz).1
 have g1:(fl.setIfInBounds 1 (Value.ref T'))[1]?=some (.ref T'):=by simp [lt]
 have nT:T'≠a:=λz=>by
   obtain⟨ts,q,_⟩:=q2
   rw[z,q1]at q
   cases q
 refine jN (fs:=Jk (QE (Qz P w) P w K mg base N qual scope f cd A outer s₀ H₀ E).stack) q1 g1 q2 λh2 F2 st=>?_
 have anf:∀b o,H1 b=some o->b∉Jk (QE (Qz P w) P w K mg base N qual scope f cd A outer s₀ H₀ E).stack:=λb o q z=>by
   have:=I.stkFree b z
   rw[q]at this
   cases this
 have hTn:H1 T'=none:=I.hok.fresh hT
 have nTT:T'≠T:=(qk ht hTn).symm
 have q3:=F2.keep a _ (anf a _ ha) (by simp [Ne.symm nT]) q1
 obtain⟨oT,hoT⟩:=tT
 have q4:=F2.keep T _ (anf T _ ht) (by simp [Ne.symm nTT]) hoT
 have I2:=I.flown (H':=qr (qr (qr H1 a (jP a C dx (.ref T'))) T (.ext λh=>∃o,h.get? T=some o)) T' (X2 T' .none)) (Yz.then F F2 hT) ⟨λb hb=>by
     simp only[List.mem_cons,List.not_mem_nil,or_false]at hb
     rcases hb with rfl | rfl
     . exact⟨_,ha⟩
     . exact⟨_,ht⟩,λb o hb q=>by
     simp only[List.mem_cons,List.not_mem_nil,or_false,not_or]at hb
     rw[qg (qk q hTn),qg hb.2,qg hb.1];exact q,λb hb q=>by
     rw[qg (Nat.ne_of_lt (Nat.lt_of_lt_of_le hb hT)),qg (λz=>by rw[z,ht]at q;cases q),qg (λz=>by rw[z,ha]at q;cases q)];exact q⟩ (λb hb=>by
     simp only[List.mem_cons,List.not_mem_nil,or_false]at hb
     rcases hb with rfl | rfl
     . exact⟨_,q3⟩
     . exact⟨_,q4⟩) λb o q hb=>by
   by_cases e1:b=T'
   . subst e1
     rw[qe]at q
     cases q
     exact JU st
   . rw[qg e1]at q
     by_cases e2:b=T
     . subst e2
       rw[qe]at q
       cases q
       exact⟨⟨_,q4⟩,⟨_,q4⟩,λh1 h2 ⟨u,z⟩ k=>⟨u,k u z⟩⟩
     . rw[qg e2]at q
       by_cases e3:b=a
       . subst e3
         rw[qe]at q
         cases q
         exact Q9 ⟨_,q3,g1⟩
       . rw[qg e3]at q
         rcases hb with hb | hb
         . rw[q]at hb;cases hb
         . simp only[List.mem_cons,List.not_mem_nil,or_false]at hb
           exact(hb.elim e3 e2).elim
 refine⟨a,C,dx,T',Hx,_,rfl,I2.os,I2.bare,I2.base,I2.hok,by rw[qg (Ne.symm nT),qg (Ne.symm nT0),qe],qe ..,?_,hxa,λb o nb q=>?_,hE⟩
 . cases e:Hx T' with
   | none=>rfl
   | some o=>
     have:=hx T' o nT e
     rw[hTn]at this
     cases this
 . have n1:b≠T:=λz=>by rw[z,hxT]at q;cases q
   have q':=hx b o nb q
   rw[qg (qk q' hTn),qg n1,qg nb]
   exact q'
end
end L2
set_option Elab.async false
set_option linter.all false
set_option maxRecDepth 100000
set_option maxHeartbeats 4000000
namespace L2
open PySem PySem.Spec PyProof.Rows
section
variable {M:Model} {A:Around} {E:Value->Shared->Prop} {s:Shared} {env:Env} {C:Addr}
theorem Xq {oC:Obj} {x:Sem Value} {Q:Flow->Shared->Prop} (hh:A.handled=none) (hcl:oC.cls=.type "type")
   (hs:∀(h:Heap) (g d t os) (Q:Bool->Shared->Prop),h.get? C=some oC->Q true ⟨h,g,d,t,os⟩->wpAny M A (isSubtype (.ref C) (.type "BaseException")) Q E ⟨h,g,d,t,os⟩)
   (h:wpAny M A x (λv s₁=>∃e dx fl,v=.ref e/\s₁.heap.get? C=some oC/\s₁.heap.get? e=some {cls:=.ref C,dict:=some dx,data:=.fields fl}/\fl[1]?=some Value.none/\E (.ref e) s₁) E s):
   wpAny M A (raiseStmt env (some x) none) Q E s:=by
 unfold raiseStmt
 refine wpAny_bind (qO h λv s₁ h₁=>?_)
 obtain⟨e,dx,fl,rfl,hC,he,hz,hE⟩:=h₁
 obtain⟨hp,g,d,tk,os⟩:=s₁
 repeat (first | with_reducible refine wpAny_loadPart_at he ?_ | with_reducible refine wpAny_loadPart_at hC ?_ | with_reducible refine hs _ _ _ _ _ _ hC ?_ | wp_step)
 rw[hz]
 refine wpAny_pure ?_
 rw[if_neg (show ¬((Value.none != Value.none)=true) by decide)]
 exact wpAny_pure (wpAny_raiseNew_none hh hE)
end
def vB (K:PySem.W.Frag) (C:Addr):Prop:=∃f bm,kZ K C f bm/\bm.contains (.type "BaseException")=true
def UV (K:PySem.W.Frag) (E:XK) (te:TE):TS:=λD σ H=>te σ H λv H1=>∃a C dx,v=.ref a/\H1 a=some (QD a C dx)/\vB K C/\E (.ref C) (some dx) H1
section
variable {X:Cx} {E:XK} {e:Expr} {te:TE} {pos:Pos}
theorem Qk (hc:X.calm=true) (hx:Vn X E) (he:JE X e te):JS X (.Raise (some e) none pos) (UV X.K E te):=.of (by
 have he:=he.to
 intro pins s σ H D I h
 have key:∀x:Sem Value,wpAny (model X.prog X.w) X.A x (λu s1=>∃v H1,qp X pins σ H1 s1/\qA v u/\∃a C dx,v=.ref a/\H1 a=some (QD a C dx)/\vB X.K C/\E (.ref C) (some dx) H1) X.xe s->
     wpAny (model X.prog X.w) X.A (raiseStmt X.env (some x) none) (SP X pins D) X.xe s:=λx hw=>by
   unfold raiseStmt
   refine wpAny_bind (qO hw λu s1 ⟨v,H1,I1,rv,a,C,dx,ev,ha,⟨f,bm,em,hb⟩,hE⟩=>?_)
   subst ev
   obtain rfl:u=Value.ref a:=rv
   obtain⟨nm,q,N,bs,hdct,sn,sub,ab,col,dd,k0,k1,k2,k3,k5,hC⟩:=em.obj
   obtain⟨⟨fl,ho,hz⟩,_,_⟩:=(show qw X.prog X.w H1 s1.heap a (jP a C dx .none) from I1.hok a _ ha)
   have hC':=I1.kIn _ _ hC
   have r:=Xq (M:=model X.prog X.w) (A:=X.A) (E:=X.xe) (s:=s1) (env:=X.env) (C:=C) (x:=pure (.ref a)) (Q:=SP X pins D) (I1.ok.hd hc) rfl (λh g d t os Q z k=>wpAny_isSubtype_exc z (by
     rw[show (Value.ref C::bm).contains (.type "BaseException")=true by rw[List.contains_cons,hb,Bool.or_true]];exact k)) (wpAny_pure ⟨a,dx,fl,rfl,hC',ho,hz,hx pins σ H1 s1 a C dx I1 ha hE⟩)
   exact r
 rw[arm_exec_Raise]
 exact wpAny_bind (wpAny_standAt (key _ (wpAny_bind (qO (he pins s σ H _ I h) λu s1 q=>wpAny_bind (wpAny_standAt (wpAny_pure q)))))))
end
end L2
set_option Elab.async false
set_option linter.all false
set_option maxRecDepth 100000
set_option maxHeartbeats 4000000
namespace L2
open PySem PySem.Spec PyProof.Rows
section
variable {M:Model} {A:Around} {E:Value->Shared->Prop}
theorem XS {h:Heap} {g:Array GenState} {d:Drawn} {t:Nat} {os:OsState} {e C D:Addr} {oe oC:Obj} {ddc:Option Addr} {sld:Array (Option Value)} {cdd} {bC bD:List Value} {Q:Bool->Shared->Prop}
   (he:h.get? e=some oe) (hcls:oe.cls=.ref C) (hC:h.get? C=some oC) (hD:h.get? D=some ⟨.type "type",ddc,.cls cdd,sld⟩)
   (sC:∀(T:Value) (Q:Bool->Shared->Prop),Q (bC.contains T) ⟨h,g,d,t,os⟩->wpAny M A (isSubtype (.ref C) T) Q E ⟨h,g,d,t,os⟩)
   (sD:∀(T:Value) (Q:Bool->Shared->Prop),Q (bD.contains T) ⟨h,g,d,t,os⟩->wpAny M A (isSubtype (.ref D) T) Q E ⟨h,g,d,t,os⟩)
   (hB:bD.contains (.type "BaseException")=true)
   (hq:Q (bC.contains (.ref D)) ⟨h,g,d,t,os⟩):wpAny M A (excMatches (.ref e) (.ref D)) Q E ⟨h,g,d,t,os⟩:=by
 have f:=tc_notTuple
 unfold excMatches
 repeat (first | (with_reducible refine wpAny_loadPart_at he ?_;rw[hcls]) | with_reducible refine wpAny_loadPart_at hD ?_ | (with_reducible refine sC _ _ ?_) | (with_reducible refine sD _ _ ?_;rw[hB]) | wp_step)
 cases hb:bC.contains (.ref D)<;>(rw[hb]at hq;wp_walk;exact hq)
end
end L2
set_option Elab.async false
set_option linter.all false
set_option maxRecDepth 100000
set_option maxHeartbeats 4000000
namespace L2
open PySem PySem.Spec PyProof.Rows
def JP (CX:Zm) (X:Cx) (E:St->XK):Prop:=∀(pins:List (Addr×Obj)) (σ:St) (H:Hp) (s:Shared) (e:Value) (s':Shared),qp X pins σ H s->CX X.stack H s (E σ) e s'->X.xe e s'
section
variable {X:Cx} {CX:Zm} {k:Nat} {f C:Addr} {fd:FuncData} {ps:List Str} {sp:Sp} {dvs:List V} {ds:List Value} {E:St->XK} {x m:Str} {p pos apos:Pos} {e o:Expr} {es:List Expr} {ta:TE} {t:TA}
theorem VP {pins:List (Addr×Obj)} {σ:St} {H:Hp} {s:Shared} {Q:VK} {us:List Value} {vs:List V} (F:qo X.prog X.w X.K X.mg X.base CX k f fd ps sp) (hr:qI k X.A) (hb:qX X.K fd ps ds) (hd:qy dvs ds) (hx:JP CX X E)
   (I:qp X pins σ H s) (r:qy vs us) (h:sp (vs++dvs) H Q (E σ)):wpAny (model X.prog X.w) X.A (call (.ref f) us) (EP X pins σ Q) X.xe s:=by
 have rr:qy (vs++dvs) (us++ds):=r.append hd
 have ll:(us++ds).length=ps.length:=rr.length.symm.trans (F.len _ _ _ _ h)
 have run:=F.run X.A X.stack s H ⟨us,[]⟩ (us++ds) (vs++dvs) Q (E σ) hr I.env0 (hb s us I.kIn ll) rr h
 refine wpAny_call (codeAny_mono run λz s' q=>?_)
 match z,q with
 | .error y,q=>exact hx pins σ H s y s' I q
 | .ok (.ret u),q=>exact I.after q
end
end L2
set_option Elab.async false
set_option linter.all false
set_option maxRecDepth 100000
set_option maxHeartbeats 4000000
namespace L2
open PySem PySem.Spec PyProof.Rows
section
variable {X:Cx}
def kl (K:PySem.W.Frag) (k:Bool):R2:=λx y H Q=>∃d,DV K H x d/\DV K H y d/\PySem.SeqAt.shaped d=true/\Q (.bl k) H
theorem Zd {d:PyData} (h:PySem.SeqAt.shaped d=true):PyData.eqv d d=true:=PySem.SeqAt.eqv_refl d (PySem.SeqAt.canLay_of_shaped h)
theorem U4 (hu:X.A.units+64 < cLine):QF X (compareOp .Eq) (kl X.K true):=by
 intro pins s σ H x y v u Q I rx ry h
 obtain⟨d,h1,h2,hs,q⟩:=h
 obtain⟨as,ra⟩:=h1.reads I rx
 obtain⟨bs,rb⟩:=h2.reads I ry
 refine eq_dataH ra rb hs hs hu ?_
 rw[Zd hs]
 exact⟨.bl true,H,I,rfl,q⟩
theorem U2 (hu:X.A.units+64 < cLine):QF X (compareOp .NotEq) (kl X.K false):=by
 intro pins s σ H x y v u Q I rx ry h
 obtain⟨d,h1,h2,hs,q⟩:=h
 obtain⟨as,ra⟩:=h1.reads I rx
 obtain⟨bs,rb⟩:=h2.reads I ry
 refine ne_dataH ra rb hs hs hu ?_
 rw[Zd hs]
 exact⟨.bl false,H,I,rfl,q⟩
theorem XC:vC X "int.bit_length" (λx xs H Q=>∃i,x=.int i/\xs=[]/\Q (.int (Builtin.Int.intBits i)) H):=by
 intro pins s σ H x xs v us Q I rx rv h
 obtain⟨i,rfl,rfl,q⟩:=h
 obtain⟨t,rfl⟩:=rx
 cases rv
 exact call_int_bit_length ⟨.int _,H,I.tok _,⟨_,rfl⟩,q⟩
end
def kY (hi:Int) (n:Nat):It:=⟨λi _=>i < n,λi H x H'=>H'=H/\x=.int (hi - i),λi _=>n<=i⟩
theorem zv {P:Program} {w:World} {K:PySem.W.Frag} {tg:Expr} (it:Addr) (hi:Int) (n:Nat):Vm P w K tg (kY hi n) [it] it (λi h=>IsRangeIter h it (hi+(i:Nat)*(-1)) ((n:Int) - (i:Nat)) (-1)) where
 mem:=by simp
 obj:=λi h st b hb=>by
   have e:b=it:=by simpa using hb
   subst e
   exact⟨_,st,λv z=>by
     have z':Data.fields _=Data.cell v:=z
     cases z'⟩
 keep:=λi h h' st k=>k it (by simp) _ st
 item:=by
   intro X hP hw hK hc i pins s σ H E I hf st hg
   subst hP hw hK
   obtain⟨f0,f1,f2,f3,f4,f5⟩:=hf it (by simp)
   have W:=Walks.range (prog:=X.prog) (w:=X.w) (I.ok.hd hc) it hi (-1) n
   refine W.item i s _ _ hg st λv h' tk hv st' kk=>?_
   obtain⟨t,rfl⟩:=hv
   have I1:qp X pins σ H {s with heap:=h',toks:=tk}:=I.turned (λb o hb e=>kk b o (by simpa using hb) e) f0 f1 f3 f4 f5
   refine⟨_,rfl,W5 (s:={s with heap:=h',toks:=tk}) (n:="range_iterator") st' rfl rfl (by decide) ⟨.int (hi - i),H,I1,⟨t,?_⟩,⟨rfl,rfl⟩,st',λb hb=>(hf b hb).1⟩⟩
   congr 1
   omega
 done:=by
   intro X hP hw hK hc i pins s σ H E I hf st hg
   subst hP hw hK
   obtain⟨f0,f1,f2,f3,f4,f5⟩:=hf it (by simp)
   exact wpAny_pyNext_range_end (I.ok.hd hc) st (by have:n<=i:=hg;omega) λh' eb=>⟨rfl,I.turned (t':=s.toks) (λb o hb e=>eb b o hb e) f0 f1 f3 f4 f5⟩
 self:=λ_ _ _ _ _ st h=>wpAny_pyIter_rangeiter st h
theorem Qh (a b:Int):Builtin.Range.rangeSize a b (-1)=(((a - b).toNat:Nat):Int):=by
 unfold Builtin.Range.rangeSize
 rw[if_neg (by decide),show (-(-1):Int)=1 by decide,Int.ediv_one]
 split<;>omega
theorem Yg {a b:Int} (h1:-(2^60)<=a) (h2:a < 2^60) (h3:-(2^60)<=b) (h4:b < 2^60):Builtin.Range.small a b (-1)=true:=by
 have f:∀x:Int,-(2^62)<=x->x<=2^62->Builtin.Range.rangeFitsLong x=true:=λx p q=>by
   unfold Builtin.Range.rangeFitsLong
   simp
   omega
 unfold Builtin.Range.small
 rw[f a (by omega) (by omega),f b (by omega) (by omega),f (-1) (by omega) (by omega),Qh,f _ (by omega) (by omega),if_neg (by decide),f (b+(-1+1)) (by omega) (by omega)]
 simp
section
variable {X:Cx} {tg:Expr}
def kP (ta:TA):TI:=λσ H R=>ta σ H λvs H1=>∃i j:Int,vs=[.int i,.int j,.int (-1)]/\(-(2^60)<=i/\i < 2^60/\-(2^60)<=j/\j < 2^60)/\R (kY i (i - j).toNat) H1
theorem XJ {a b c:Expr} {ta:TA} {p pos:Pos} (hg:Gl X "range") (hm:X.mg "range"=none) (ha:JA X [a,b,c] ta) (hs:starEach [a,b,c] X.env=[(false,eval a X.env),(false,eval b X.env),(false,eval c X.env)]:=by rfl) (hs2:starEach [b,c] X.env=[(false,eval b X.env),(false,eval c X.env)]:=by rfl):JI X tg (.Call (.Name "range" p) [a,b,c] [] pos) (kP ta):=.of (by
 have ha:=ha.to
 intro pins s σ H R I h
 refine Call_ (QM I hg hm boot_range (PyProof.Rows.callWith_type1 (qO (ha pos pins s σ H _ I h) λus s1 ⟨vs,H1,I1,r1,q1⟩=>?_) (by rw[hs,hs2]) (by rw[hs2];rfl)))
 obtain⟨i,j,e,⟨q1,q2,q3,q4⟩,q⟩:=q1
 subst e
 cases r1 with
 | cons r rr=>
   cases rr with
   | cons r' rr=>
     cases rr with
     | cons r'' rr=>
       cases rr
       obtain⟨t,rfl⟩:=r
       obtain⟨t',rfl⟩:=r'
       obtain⟨t'',rfl⟩:=r''
       refine call_range_3 (by decide) ?_ (Or.inl (PyProof.noPylong_small (by decide)))
       refine wpAny_pyIter_range (IsRange.new ..) (Yg q1 q2 q3 q4) ?_
       have I2:qp X pins σ H1 {s1 with heap:=s1.heap.push {cls:=.type "range",data:=.fields #[.int i t,.int j t',.int (-1) t'']},toks:=s1.toks}:=I1.kept λb o e=>Heap.get?_push_of_some _ e
       refine⟨(s1.heap.push {cls:=.type "range",data:=.fields #[.int i t,.int j t',.int (-1) t'']}).objs.size,[(s1.heap.push {cls:=.type "range",data:=.fields #[.int i t,.int j t',.int (-1) t'']}).objs.size],_,_,H1,rfl,
         I2.kept (t':=s1.toks) λb o e=>Heap.get?_push_of_some _ e,zv _ i (i - j).toNat,?_,λb hb=>?_,q⟩
       . have e1:i+((0:Nat):Int)*(-1)=i:=by simp
         have e2:(((i - j).toNat:Nat):Int) - ((0:Nat):Int)=Builtin.Range.rangeSize i j (-1):=by rw[Qh];simp
         show IsRangeIter _ _ (i+((0:Nat):Int)*(-1)) ((((i - j).toNat:Nat):Int) - ((0:Nat):Int)) (-1)
         rw[e1,e2]
         exact Heap.get?_push_size _ rfl
       . have e:b=(s1.heap.push {cls:=.type "range",data:=.fields #[.int i t,.int j t',.int (-1) t'']}).objs.size:=by simpa using hb
         subst e
         exact I2.fpOk (Nat.le_refl _) (I2.hok.fresh (Nat.le_refl _)))
end
theorem Yv {hi:Int} {n:Nat} {g:TG} {tb:TS} {D:Jy} {σ:St} {H:Hp} (Pv:Nat->St->Hp->Prop) (h0:Pv 0 σ H)
   (hs:∀i σ H,i < n->Pv i σ H->g (.int (hi - i)) σ H λσ2 H2=>tb {D with nx:=Pv (i+1),ct:=Pv (i+1),bk:=D.nx} σ2 H2) (hd:∀σ H,Pv n σ H->D.nx σ H):
   ∃W:Nat->Nat->St->Hp->Prop,(∃m,W 0 m σ H)/\∀i m σ H,W i m σ H->
    ((kY hi n).stop i H/\D.nx σ H)\/((kY hi n).go i H/\∃N:St->Hp->Prop,(∀σ' H',N σ' H'->∃m',m' < m/\W (i+1) m' σ' H')/\∀x H',(kY hi n).yld i H x H'->g x σ H' λσ2 H2=>tb {D with nx:=N,ct:=N,bk:=D.nx} σ2 H2):=by
 refine⟨λi m σ H=>m=n - i/\i<=n/\Pv i σ H,⟨n,by simp,Nat.zero_le _,h0⟩,?_⟩
 rintro i m σ H ⟨rfl,hi,p⟩
 by_cases hlt:i < n
 . refine .inr ⟨hlt,Pv (i+1),λσ' H' p'=>⟨n - (i+1),by omega,rfl,hlt,p'⟩,λx H' y=>?_⟩
   obtain⟨e,y⟩:=y
   subst e y
   exact hs i σ _ hlt p
 . have e:i=n:=by omega
   subst e
   exact .inl ⟨Nat.le_refl _,hd σ H p⟩
section
variable {X:Cx} {st:Stmt} {rest:List Stmt} {t u:TS}
end
end L2
set_option Elab.async false
set_option linter.all false
set_option maxRecDepth 100000
set_option maxHeartbeats 4000000
namespace PySem
section
variable {prog:Program} {w:World} {A:Around} {E:Value->Shared->Prop} {s:Shared}
end
end PySem
namespace PySem
section
variable {prog:Program} {w:World} {A:Around} {E:Value->Shared->Prop} {s:Shared}
structure Yx (P:Program) (w:World) (T:String) (I:Addr) (fp:List Addr) (n:Nat) (V:Nat->Value->Prop) (St:Nat->Heap->Prop):Prop where
 ty:∀z:Shared,St 0 z.heap->z.TypeIs (.ref I) T
 nl:(Value.type T==Value.type "list")=false
 nt:(Value.type T==Value.type "tuple")=false
 walk:∀B:Around,B.handled=none->Walks P w B I fp [I] n V St
 hint:∀(B:Around) (F:Value->Shared->Prop) (z:Shared) (R:Bool->Shared->Prop),St 0 z.heap->(∀k,R false {z with toks:=k})->wpAny (model P w) B (Builtin.List.listLengthHint (.ref I)) R F z
theorem Yx.list {P:Program} {T:String} {I:Addr} {fp:List Addr} {n:Nat} {V:Nat->Value->Prop} {St:Nat->Heap->Prop} (J:Yx P w T I fp n V St) {B:Around} {F':Value->Shared->Prop} {z:Shared} {R:Value->Shared->Prop}
   (hB:B.handled=none) (st:St 0 z.heap) (mem:I∈fp) (old:∀b∈fp,b < z.heap.objs.size) (hn:n<=1048576)
   (k:∀g tk xs c,(∀b o,b≠I->z.heap.get? b=some o->g.get? b=some o)->g.get? z.heap.objs.size=some (⟨.type "list",none,.seq xs c,#[]⟩:Obj)->ItemsOf V xs n->R (.ref z.heap.objs.size) {z with heap:=g,toks:=tk}):
   wpAny (model P w) B (call (.type "list") [.ref I]) R F' z:=by
 have nI:∀b∈fp,z.heap.objs.size≠b:=λb hb=>Nat.ne_of_gt (old b hb)
 have sI:Builtin.List.listSameRef (.ref z.heap.objs.size) (.ref I)=false:=by unfold Builtin.List.listSameRef;simp [nI I mem]
 refine callType_codes (Q₁:=λob z1=>z1={z with heap:=z.heap.push {cls:=.type "list",data:=.seq #[]}}/\ob=.ref z.heap.objs.size) F.called_list (F.typeCall_list_1 _) F.entry_list_init (code_list_new _ ⟨rfl,rfl⟩) ?_
 rintro ob z1 ⟨rfl,rfl⟩
 have a0:=Heap.get?_push_size z.heap (o:=({cls:=.type "list",data:=.seq #[]}:Obj)) rfl
 refine⟨⟨_,a0,rfl⟩,F.args_list_init_2 _ _,?_⟩
 show wpAny _ _ (Builtin.List.listItems (.ref _) >>= λys=>Builtin.List.listUpdate (.ref _) (λ_=>#[]) >>= λ_=>letGo ys.toList.reverse >>= λ_=>Builtin.List.listExtendWith (.ref _) (.ref I) .none) _ _ _
 refine wpAny_bind (show wpAny _ _ (Builtin.List.listItems (.ref _)) _ _ _ from ?_)
 unfold Builtin.List.listItems
 refine wpAny_bind (wpAny_seqItems a0 rfl (wpAny_pure (wpAny_bind ?_)))
 refine wpAny_updateSeq a0 rfl (wpAny_bind (wpAny_letGo ?_))
 have a1:=Heap.get?_update_self (Obj.mapSeq (λ_=>(#[]:Array Value))) a0 rfl
 have keep1:∀b o,z.heap.get? b=some o->((z.heap.push {cls:=.type "list",data:=.seq #[]}).update z.heap.objs.size (Obj.mapSeq (λ_=>(#[]:Array Value)))).get? b=some o:=λb o e=>
   (Heap.get?_update_other _ _ (Nat.ne_of_gt (Heap.lt_size e))).trans (Heap.get?_push_of_some _ e)
 generalize hg1:(z.heap.push {cls:=.type "list",data:=.seq #[]}).update z.heap.objs.size (Obj.mapSeq (λ_=>(#[]:Array Value)))=g1 at a1 keep1
 have st1:St 0 g1:=(J.walk B hB).frame 0 _ _ st λb _ o e=>keep1 b o e
 unfold Builtin.List.listExtendWith
 refine wpAny_bind (wpAny_typeOf (J.ty {z with heap:=g1} st1) ?_)
 simp only[sI,J.nl,J.nt,Bool.or_false,Bool.false_eq_true,if_false]
 refine wpAny_bind ((J.walk B.in1.in1 hB).self 0 {z with heap:=g1} _ _ st1 ?_)
 refine wpAny_bind (wpAny_holding (J.hint B.in1.in1 _ {z with heap:=g1} _ st1 λtk=>?_))
 have run:∀(g:Heap) (c tk:Nat),St 0 g->(∀b o,z.heap.get? b=some o->g.get? b=some o)->g.get? z.heap.objs.size=some {cls:=.type "list",data:=.seq #[] c}->
     codeAny (model P w) B.in1 (.builtin "list.extend.loop" ⟨[.ref z.heap.objs.size,.ref I,.none],[]⟩) (wants (λr z2=>r=.none/\R (.ref z.heap.objs.size) z2) F') {z with heap:=g,toks:=tk}:=λg c tk sg kg ag=>
   codeAny_extend_loopS (J.walk B.in1.in1 hB).toS (by rw[sizeLine_eq];omega) _ (λq=>nI _ q rfl) .none n 0 _ #[] c rfl (Nat.zero_le _) sg ag (ItemsOf.nil _) λz3 xs c3 mv a3 it=>by
     rw[Moved.eq_with mv]
     refine⟨rfl,k z3.heap z3.toks xs c3 (λb o hb e=>mv.heap b o (λq=>?_) (kg b o e)) a3 it⟩
     rcases List.mem_cons.mp q with q | q
     . exact absurd q (Nat.ne_of_lt (Heap.lt_size e))
     . exact hb (List.mem_singleton.mp q)
 refine wpAny_ite_split (λ_=>?_) (λ_=>wpAny_pure ⟨plainId_quiet F.plain_extend_loop _,run g1 _ tk st1 keep1 a1⟩)
 refine wpAny_bind (wpAny_rule (wpAny_bind (show wpAny _ _ (updateSeq z.heap.objs.size (·.push .none) >>= λ_=>updateSeq z.heap.objs.size (·.pop)) _ _ _ from wpAny_bind (wpAny_updateSeq a1 rfl ?_))))
 have a2:=Heap.get?_update_self (Obj.mapSeq (·.push Value.none)) a1 rfl
 refine wpAny_updateSeq (hz:=by seq_fits) a2 rfl ?_
 have keep3:∀b o,b≠z.heap.objs.size->g1.get? b=some o->((g1.update z.heap.objs.size (Obj.mapSeq (·.push Value.none))).update z.heap.objs.size (Obj.mapSeq (·.pop))).get? b=some o:=λb o hb e=>
   (Heap.get?_update_other _ _ (Ne.symm hb)).trans ((Heap.get?_update_other _ _ (Ne.symm hb)).trans e)
 exact wpAny_pure ⟨plainId_quiet F.plain_extend_loop _,run _ _ tk ((J.walk B hB).frame 0 _ _ st1 λb hb o e=>keep3 b o (λq=>nI b hb q.symm) e) (λb o e=>keep3 b o (Nat.ne_of_lt (Heap.lt_size e)) (keep1 b o e)) (Heap.get?_update_self (Obj.mapSeq (·.pop)) a2 rfl)⟩
end
end PySem
namespace L2
open PySem PySem.Spec PyProof.Rows
section
variable {X:Cx} {e:Expr} {te:TE} {p1 p2 p3 pos1 pos2 pos3:Pos}
theorem vZ {M:Model} {A:Around} {E:Value->Shared->Prop} {s:Shared} {env:Env} {e:Expr} {pos:Pos} {R:List Value->Shared->Prop} (hs:starEach [e] env=[(false,eval e env)]) (h:wpAny M A (eval e env) (λv s1=>R [v] s1) E s):
   wpAny M A (spliced (backTo pos (starEach [e] env))) R E s:=by
 rw[hs]
 show wpAny _ _ (spliced ((false,eval e env)::backTo pos [])) _ _ s
 exact Calls.spliced_cons (qO h λu s1 h1=>Calls.spliced_nil h1)
end
end L2
set_option Elab.async false
set_option linter.all false
set_option maxRecDepth 100000
set_option maxHeartbeats 4000000
namespace PySem
namespace F
theorem nolen_lri:typeLookup (.type "list_reverseiterator") "__len__"=pure none:=by rw[typeLookup_type,builtinLookup_eq_fast];kernel_rfl
theorem hint_lri:typeLookup (.type "list_reverseiterator") "__length_hint__"=pure (some (.builtin "list_reverseiterator.__length_hint__")):=by rw[typeLookup_type,builtinLookup_eq_fast];kernel_rfl
end F
theorem VG {P:Program} {w:World} {I l:Addr} {items:Array Value} (hne:l≠I):Yx P w "list_reverseiterator" I [I,l] items.size (λi v=>items[items.size - 1 - i]?=some v)
   (λi h=>i<=items.size/\h.IsRevIter I l ((items.size:Int) - 1 - (i:Int))/\h.IsList l items) where
 ty:=λ_ st=>st.2.1.typeIs
 nl:=by decide
 nt:=by decide
 walk:=λ_ hB=>Walks.listRev hB I l hne items
 hint:=λB G z R st k=>by
   have ty:z.TypeIs (.ref I) "list_reverseiterator":=st.2.1.typeIs
   unfold Builtin.List.listLengthHint
   refine wpAny_bind (wpAny_specialOf ty F.nolen_lri ?_)
   refine(show wpAny _ B (specialOf (.ref I) (Str.ofString "__length_hint__") >>= _) _ _ _ from wpAny_bind (wpAny_specialOf ty F.hint_lri ?_))
   (generalize hq:("list_reverseiterator.__length_hint__":String)=q0;(fail_if_success (clear hq q0));wp_delta;rw[show splitId q0=some ("list_reverseiterator","__length_hint__") from by subst hq;decide+kernel];subst hq)
   refine wpAny_bind (wpAny_isInstance (b:=true) ty (by rw[isSubtype_type];kernel_rfl) ?_)
   exact wpAny_pure (k _)
end PySem
namespace L2
open PySem PySem.Spec PyProof.Rows
theorem Xt:∀(xs:List V) (us:List Value),xs.length=us.length->(∀(i:Nat) (x:V) (u:Value),xs[i]?=some x->us[i]?=some u->qA x u)->qy xs us:=by
 intro xs
 induction xs with
 | nil=>intro us hl _;cases us with | nil=>exact .nil | cons _ _=>cases hl
 | cons x xs ih=>
   intro us hl hp
   cases us with
   | nil=>cases hl
   | cons u us=>exact .cons (hp 0 x u rfl rfl) (ih us (by simpa using hl) λi y w h1 h2=>hp (i+1) y w (by simpa using h1) (by simpa using h2))
theorem X7 {xs:List V} {its:List Value} {acc:Array Value} (r:qy xs its) (h:ItemsOf (λi v=>its.toArray[its.toArray.size - 1 - i]?=some v) acc its.toArray.size):qy xs.reverse acc.toList:=by
 obtain⟨hz,hv⟩:=h
 have hl:=r.length
 rw[List.size_toArray]at hz
 refine Xt _ _ (by simp [hz,hl]) λi x u h1 h2=>?_
 have h2':acc[i]?=some u:=by simpa using h2
 have e:=hv i u h2'
 have hz2:acc.size=its.length:=hz
 have hi:i < its.length:=by
   have h3:=(Array.getElem?_eq_some_iff.mp h2').1
   rw[hz2]at h3
   exact h3
 rw[List.getElem?_reverse (by omega)]at h1
 obtain⟨u',hu',ru⟩:=r.get h1
 have e':its[its.length - 1 - i]?=some u:=by simpa using e
 rw[hl,e']at hu'
 cases hu'
 exact ru
section
variable {X:Cx} {e:Expr} {te:TE} {p1 p2 pos1 pos2:Pos}
def yl (K:PySem.W.Frag) (te:TE):TE:=λσ H Q=>te σ H λx H1=>∃a xs,x=.ref a/\SqL K H1 a xs/\xs.length<=1000/\∀l,H1 l=none->Q (.ref l) (qr H1 l (.lst xs.reverse))
theorem vp (hc:X.calm=true) (g1:Gl X "list") (m1:X.mg "list"=none) (g2:Gl X "reversed") (m2:X.mg "reversed"=none) (ha:JE X e te) (hs:starEach [e] X.env=[(false,eval e X.env)]:=by rfl) (hs3:starEach [.Call (.Name "reversed" p2) [e] [] pos2] X.env=[(false,eval (.Call (.Name "reversed" p2) [e] [] pos2) X.env)]:=by rfl):JE X (.Call (.Name "list" p1) [.Call (.Name "reversed" p2) [e] [] pos2] [] pos1) (yl X.K te):=.of (by
 have ha:=ha.to
 intro pins s σ H Q I h
 refine Call_ (QM I g1 m1 boot_list (PyProof.Rows.callWith_type1 (vZ hs3 ?_) (by rw[hs3];rfl) rfl))
 refine Call_ (QM I g2 m2 boot_reversed (PyProof.Rows.callWith_type1 (vZ hs (qO (ha pins s σ H _ I h) λu s1 ⟨x,H1,I1,r1,q1⟩=>?_)) (by rw[hs];rfl) rfl))
 obtain⟨a,xs,rfl,hq,hz,q⟩:=q1
 cases r1
 obtain⟨its,rv,pl,_⟩:=I1.list hq
 have hl:=rv.length
 refine call_reversed_list pl.isList ?_
 have hlt:a < s1.heap.objs.size:=by
   obtain⟨o,n,e,_⟩:=pl
   exact Heap.lt_size e
 refine(VG (l:=a) (items:=its.toArray) (Nat.ne_of_lt hlt)).list (I1.ok.hd hc) ⟨Nat.zero_le _,by
   have e0:((its.toArray.size:Nat):Int) - 1 - ((0:Nat):Int)=(its.toArray.size:Int) - 1:=by omega
   rw[e0]
   exact⟨_,Heap.get?_push_size _ rfl,rfl,rfl⟩,pl.isList.at λo e=>Heap.get?_push_of_some _ e⟩ (by simp) (λb hb=>by
   rw[Heap.size_push (_:Heap) (revObj a _)]
   simp only[List.mem_cons,List.mem_nil_iff,or_false]at hb
   rcases hb with e | e
   . rw[e];exact Nat.lt_succ_self _
   . rw[e];exact Nat.lt_succ_of_lt hlt) (by rw[List.size_toArray];omega) λh' tk acc' c' kp e hi=>?_
 have kk:∀b o,s1.heap.get? b=some o->h'.get? b=some o:=λb o eb=>kp b o (Nat.ne_of_lt (Heap.lt_size eb)) (Heap.get?_push_of_some _ eb)
 have s1z:s1.heap.objs.size<=(s1.heap.push (revObj a ((its.toArray.size:Int) - 1))).objs.size:=by
   rw[Heap.size_push]
   omega
 exact⟨.ref _,_,I1.laid (t':=tk) (o:=.lst xs.reverse) kk s1z ⟨by rw[List.length_reverse];exact Nat.le_of_lt (qE hz),acc'.toList,c',X7 rv hi,by simpa using e⟩,rfl,q _ (I1.hok.fresh s1z)⟩)
end
end L2
set_option Elab.async false
set_option linter.all false
set_option maxRecDepth 100000
set_option maxHeartbeats 4000000
namespace L2
open PySem PySem.Spec PyProof.Rows
section
variable {X:Cx} {pins:List (Addr×Obj)} {σ:St} {H:Hp} {s:Shared} {h':Heap}
end
section
variable {X:Cx} {elts:List Expr} {x1:Nat} {tpos:Pos}
end
end L2
set_option Elab.async false
set_option linter.all false
set_option maxRecDepth 100000
set_option maxHeartbeats 4000000
namespace L2
open PySem PySem.Spec PyProof.Rows
section
variable {X:Cx}
end
section
variable {X:Cx} {o e:Expr} {es:List Expr} {ta:TE} {t:TA} {m:Str} {C C' f f':Addr} {fd fd':FuncData} {ps ps':List Str} {k k':Nat} {sp sp':Sp} {apos pos:Pos}
def UK (C C':Addr) (m:Str) (sp sp':Sp) (ta:TE) (t:TA):TE:=λσ H Q=>ta σ H λx H1=>∃a dx fs,x=.ref a/\fs.lookup m=none/\
 ((H1 a=some (.ins C dx fs)/\t σ H1 λvs H2=>sp (x::vs) H2 Q E0)\/(H1 a=some (.ins C' dx fs)/\t σ H1 λvs H2=>sp' (x::vs) H2 Q E0))
theorem Qv {pl:Sem Bool} (he:JE X o ta) (c:zr X.K C) (hm:XZ X.K C m f) (F:qo X.prog X.w X.K X.mg X.base qN k f fd ps sp) (hr:qI k X.A) (hb:qX X.K fd ps []) (c':zr X.K C') (hm':XZ X.K C' m f') (F':qo X.prog X.w X.K X.mg X.base qN k' f' fd' ps' sp') (hr':qI k' X.A) (hb':qX X.K fd' ps' []) (ht:eval (.Call (.Attribute o m apos) [] [] pos) X.env=(eval o X.env >>= λov=>standAt apos.atName >>= λ_=>holding [ov] (getMethod ov m pl) >>= λr=>callWith pos r.1 r.2 (backTo pos (starEach [] X.env)) (backToKw pos (keywordEach [] X.env))):=by rfl):JE X (.Call (.Attribute o m apos) [] [] pos) (UK C C' m sp sp' ta zw):=.of (by
 have he:=he.to
 intro pins s σ H Q I h
 refine PySem.W.methodCall_KW (pl:=pl) (qO (he pins s σ H _ I h) λu s1 ⟨x,H1,I1,rx,a,dx,fs,ex,l,q⟩=>?_) ht
 subst ex
 obtain rfl:u=Value.ref a:=rx
 rcases q with ⟨ea,q⟩ | ⟨ea,q⟩
 . exact QO I1 ea c hm l (PySem.W.callWith_K0 (first:=[.ref a]) I1.kIn hm.kp (J4 (us:=[.ref a]) (vs:=[.ref a]) F hr hb .nil jJ I1 (.cons rfl .nil) q))
 . exact QO I1 ea c' hm' l (PySem.W.callWith_K0 (first:=[.ref a]) I1.kIn hm'.kp (J4 (us:=[.ref a]) (vs:=[.ref a]) F' hr' hb' .nil jJ I1 (.cons rfl .nil) q)))
end
section
variable {X:Cx} {e:Expr} {es:List Expr} {te:TE} {t:TA}
theorem JK {t':TE} (h:JE X e te) (k:∀σ H Q,t' σ H Q->te σ H Q):JE X e t':=.of (by
 have h:=h.to
 exact λpins s σ H Q I q=>h pins s σ H Q I (k σ H Q q))
def tWk (te:TE):TE:=λσ H Q=>∃G:VK,te σ H G/\∀x H1,G x H1->Q x H1
theorem Y8 (h:JE X e te):JE X e (tWk te):=.of (by
 have h:=h.to
 intro pins s σ H Q I ⟨G,g,k⟩
 exact qO (h pins s σ H G I g) λv s1 ⟨x,H1,I1,r1,q1⟩=>⟨x,H1,I1,r1,k x H1 q1⟩)
end
end L2
set_option Elab.async false
set_option linter.all false
set_option maxRecDepth 100000
set_option maxHeartbeats 4000000
namespace L2
open PySem PySem.Spec PySem.W PyProof.Rows
section
variable {P:Program} {w:World} {B:Around} {F:Value->Shared->Prop} {κ:SortKind} {it:Array Keyed} {z:Shared}
end
section
variable {P:Program} {w:World} {B:Around} {F:Value->Shared->Prop} {z:Shared}
end
end L2
set_option Elab.async false
set_option linter.all false
set_option maxRecDepth 100000
set_option maxHeartbeats 4000000
namespace PySem
section
variable {P:Program} {w:World} {B:Around} {F':Value->Shared->Prop} {z:Shared} {d I:Addr} {es:Array DictEntry} {ep i:Nat}
end
end PySem
namespace PySem
open PySem.W
section
variable {P:Program} {w:World} {d:Addr} {es:Array DictEntry} {ep:Nat}
end
end PySem
namespace L2
open PySem PySem.Spec PySem.W PyProof.Rows
section
variable {X:Cx}
end
end L2
set_option Elab.async false
set_option linter.all false
set_option maxRecDepth 100000
set_option maxHeartbeats 4000000
namespace L2
open PySem PySem.Spec PySem.W PyProof.Rows
section
variable {X:Cx}
variable {e:Expr} {te:TE} {p1 p3 pos1 pos3:Pos}
end
end L2
set_option Elab.async false
set_option linter.all false
set_option maxRecDepth 100000
set_option maxHeartbeats 4000000
namespace L2
open PySem PySem.Spec PyProof.Rows
section
variable {X:Cx} {elts:List Expr} {x1:Nat} {tpos:Pos}
end
section
variable {X:Cx}
end
end L2
set_option Elab.async false
set_option linter.all false
set_option maxRecDepth 100000
set_option maxHeartbeats 4000000
namespace L2
open PySem PySem.Spec PyProof.Rows
section
variable {X:Cx} {pins:List (Addr×Obj)} {σ:St} {H:Hp} {s:Shared} {a b:Addr} {kvs more:List (qU×V)} {A:Around} {E:Value->Shared->Prop}
end
section
variable {X:Cx} {o e:Expr} {apos cpos:Pos} {td ty:TE}
end
theorem kD {us:List Value} (h:us.length=0):us=[]:=List.eq_nil_of_length_eq_zero h
theorem kC {us:List Value} {n:Nat} (h:us.length=n+1):∃a r,us=a::r/\r.length=n:=by
 cases us with
 | nil=>cases h
 | cons a r=>exact⟨a,r,rfl,Nat.succ.inj h⟩
theorem jz {us:List Value} (h:us.length=1):∃a,us=[a]:=by
 obtain⟨a,r,rfl,h'⟩:=kC h
 exact⟨a,by rw[kD h']⟩
theorem zM {us:List Value} (h:us.length=2):∃a b,us=[a,b]:=by
 obtain⟨a,r,rfl,h'⟩:=kC h
 obtain⟨b,rfl⟩:=jz h'
 exact⟨a,b,rfl⟩
end L2
set_option Elab.async false
set_option linter.all false
set_option maxRecDepth 100000
set_option maxHeartbeats 4000000
namespace L2
open PySem PySem.Spec PyProof.Rows
abbrev Cx.suite (X:Cx) (a:Value) (E:Value->Shared->Prop):Cx:={X with A:=X.A.mark (some a),calm:=false,xe:=E}
abbrev Cx.tried (X:Cx) (pn:List (Addr×Obj)) (E:Value->Shared->Prop):Cx:={X with xe:=E,pn:=pn}
section
variable {X:Cx} {pins:List (Addr×Obj)} {σ:St} {H:Hp} {s:Shared} {E:Value->Shared->Prop} {a:Value}
theorem Cx.Ok.suite (o:X.Ok) (a:Value) (E:Value->Shared->Prop):(X.suite a E).Ok:=⟨o.mod,o.kind,o.glob,o.blt,o.above,o.inj,o.has,o.cab,λz=>Bool.noConfusion z,o.frames,o.stk,o.exf,o.bs,o.bsz,o.noex,o.exfs,o.funs,o.frf⟩
theorem Cx.Ok.tried (o:X.Ok) (pn:List (Addr×Obj)) (E:Value->Shared->Prop):(X.tried pn E).Ok:=⟨o.mod,o.kind,o.glob,o.blt,o.above,o.inj,o.has,o.cab,o.hd,o.frames,o.stk,o.exf,o.bs,o.bsz,o.noex,o.exfs,o.funs,o.frf⟩
theorem qp.suite (I:qp X pins σ H s) (a:Value) (E:Value->Shared->Prop):qp (X.suite a E) pins σ H s:=⟨I.ok.suite a E,I.os,I.bare,I.base,I.loc,I.cell,I.free,I.freeC,I.pin,I.hok,I.len⟩
theorem qp.unsuite {σ0:St} {H0:Hp} {s0:Shared} (I0:qp X pins σ0 H0 s0) (I:qp (X.suite a E) pins σ H s):qp X pins σ H s:=⟨I0.ok,I.os,I.bare,I.base,I.loc,I.cell,I.free,I.freeC,I.pin,I.hok,I.len⟩
theorem qp.tried (I:qp X pins σ H s) (E:Value->Shared->Prop):qp (X.tried (X.pn++pins) E) [] σ H s:=⟨I.ok.tried _ E,I.os,I.bare,I.base,I.loc,I.cell,I.free,I.freeC,λp hp=>I.pin p (by simpa using hp),I.hok,I.len⟩
theorem qp.untried {pins':List (Addr×Obj)} {σ0:St} {H0:Hp} {s0:Shared} (I0:qp X pins σ0 H0 s0) (I:qp (X.tried (X.pn++pins) E) pins' σ H s):qp X pins σ H s:=⟨I0.ok,I.os,I.bare,I.base,I.loc,I.cell,I.free,I.freeC,λp hp=>I.pin p (List.mem_append_left _ hp),I.hok,I.len⟩
theorem JM {M:Model} {A:Around} {F:Value->Shared->Prop} {i:Nat} {x:Str} {pos:Pos} {Q:Unit->Shared->Prop} (I:qp X pins σ H s) (hN:X.N.Nodup) (hi:X.N[i]?=some x) (hk:X.env.scope.names.lookup x=some .local)
   (h:∀s',qp X pins (σ.set i none) H s'->Q () s'):wpAny M A (do bindName X.env x .none;unbindBehindTheSuite X.env x pos) Q F s:=by
 obtain⟨m,hn,hl⟩:=id I.loc
 have hcls:(X.env.scope.kind==.class || (X.env.scope.kind==.module&&X.env.locals != X.env.globals))=false:=by rw[I.ok.kind];rfl
 have hiσ:i < σ.length:=by rw[I.len];exact(List.getElem?_eq_some_iff.mp hi).1
 have cne:=I.cne
 have tracked:∀{a:Addr} {h':Heap},(∃o,s.heap.get? a=some o/\H a=none)->Heap.SameBut a s.heap h'->Qa X.prog X.w H h':=λ{a h'} ha hs b ob e=>by
   obtain⟨_,_,hfree⟩:=ha
   refine(I.hok b ob e).stay (λc w' hc q=>(hs.2 c ?_).trans q) (λ_ q=>q) λ_ _ q=>q
   rintro rfl
   rcases hc with rfl | hc
   . rw[hfree]at e;cases e
   . rw[hfree]at hc;cases hc
 refine wpAny_nameGoes_keeps hk hn hcls λh' v0 hn' hs=>?_
 obtain⟨oL,_,_,hoL,_⟩:=id hn
 refine h _ ⟨I.ok,I.os,I.bare,⟨λb o e n hb hx=>?_,λb o e n hb hx=>?_,I.base.free,λb o e hx=>?_,I.base.tups,I.base.frzs,I.base.tbls⟩,⟨_,hn',λj y v' e1 e2 e3=>?_⟩,λy c e=>?_,I.free,I.freeC,λp hp=>?_,tracked ⟨oL,hoL,I.free⟩ hs,by simpa using I.len⟩
 . exact(hs.2 b (Nat.ne_of_lt (Nat.lt_of_lt_of_le (Heap.lt_size e) I.ok.above))).trans (I.base.keep b o e n hb hx)
 . obtain⟨sl,e1⟩:=I.base.slot b o e n hb hx
   exact⟨sl,(hs.2 b (Nat.ne_of_lt (Nat.lt_of_lt_of_le (Heap.lt_size e) I.ok.above))).trans e1⟩
 . obtain⟨o',e1⟩:=I.base.there b o e hx
   exact⟨o',(hs.2 b (Nat.ne_of_lt (Nat.lt_of_lt_of_le (Heap.lt_size e) I.ok.above))).trans e1⟩
 . by_cases hj:j=i
   . subst hj
     rw[List.getElem?_set_self hiσ]at e2
     cases e2
   . rw[List.getElem?_set_ne (Ne.symm hj)]at e2
     obtain⟨u',r',q⟩:=hl j y v' e1 e2 e3
     refine⟨u',r',?_⟩
     rcases q with ⟨k,e⟩ | ⟨k,c,e,z⟩
     . refine .inl ⟨k,?_⟩
       have:y≠x:=λe=>hj (J6 hN e1 (e▸hi))
       simp [this,e]
     . exact .inr ⟨k,c,e,z.sameBut hs (cne y c e)⟩
 . obtain⟨w',z⟩:=I.cell y c e
   exact⟨w',z.sameBut hs (cne y c e)⟩
 . obtain⟨e,n,ne,nf,d⟩:=I.pin p hp
   exact⟨(hs.2 p.1 ne).trans e,n,ne,nf,d⟩
end
abbrev TH:=Addr->Addr->Addr->TS
def PH (X:Cx) (hs:List ExceptHandler) (t:TH):Prop:=
 ∀(pins:List (Addr×Obj)) (s:Shared) (σ:St) (H:Hp) (D:Jy) (a C dx T:Addr),qp X pins σ H s->H a=some (jP a C dx (.ref T))->H T=some (X2 T .none)->t C a dx D σ H->
   wpAny (model X.prog X.w) X.A (handleBy (.ref a) X.env hs) (SP X pins D) X.xe s
def W4:TH:=λ_ _ _ _ _ _=>False
theorem XB {X:Cx} {hs:List ExceptHandler}:PH X hs W4:=λ_ _ _ _ _ _ _ _ _ _ _ _ h=>h.elim
def Jy.gone (D:Jy) (j:Nat):Jy:={nx:=λσ H=>D.nx (σ.set j none) H,rt:=D.rt,bk:=λσ H=>D.bk (σ.set j none) H,ct:=λσ H=>D.ct (σ.set j none) H}
def YD (K:PySem.W.Frag) (Cl:Addr) (j:Nat) (ts:TS) (tr:TH):TH:=λC a dx D σ H=>∃f bm,kZ K C f bm/\
 if (Value.ref C::bm).contains (.ref Cl)=true then ts (D.gone j) (σ.set j (some (.ref a))) H else tr C a dx D σ H
def Um (K:PySem.W.Frag) (C:Addr):Prop:=∃bm,(∃nm q N bs hdct sn sub ab col dd k0 k1 k2 k3 k5,K.lookup C=some (excClassObj nm q C N bs bm hdct sn sub ab col dd k0 k1 k2 k3 k5 "ValueError.__new__"))/\bm.contains (.type "BaseException")=true
theorem Yw {X:Cx} {x n:Str} {p pos:Pos} {j:Nat} {b₀:Stmt} {suite:List Stmt} {rest:List ExceptHandler} {ts:TS} {tr:TH} {Cl:Addr} (hg:Gl X x) (hm:X.mg x=some (.ref Cl)) (hD:Um X.K Cl) (hN:X.N.Nodup) (hj:X.N[j]?=some n)
   (hl:X.env.scope.names.lookup n=some .local) (hs:∀v E,Vs (X.suite v E) (b₀::suite) ts) (hr:PH X rest tr) (hdb:(x==("__debug__":Str))=false:=by decide):PH X (.ExceptHandler (some (.Name x p)) (some n) (b₀::suite) pos::rest) (YD X.K Cl j ts tr):=by
 intro pins s σ H D a C dx T I ha hT h
 obtain⟨f,bm,em,h⟩:=h
 obtain⟨bm',em',hB⟩:=hD
 refine wpAny_handleBy_cons (codeAny_handlers_test ?_) (by intro q;cases q)
 refine wpAny_mono (YW (X:=X.suite (.ref a) _) (v:=.ref Cl) hg hm rfl hdb pins s σ H (λv H'=>v=.ref Cl/\H'=H) (I.suite _ _) ⟨rfl,rfl⟩) (λc s₁ q=>?_) (λ_ _ z=>z)
 obtain⟨v,H',I1,rv,rfl,rfl⟩:=q
 obtain rfl:c=Value.ref Cl:=rv
 have I2:qp X pins σ H' s₁:=I.unsuite I1
 obtain⟨nm,q,N,bs,hdct,sn,sub,ab,col,dd,k0,k1,k2,k3,k5,hC⟩:=em.obj
 obtain⟨nm',q',N',bs',hdct',sn',sub',ab',col',dd',k0',k1',k2',k3',k5',hC'⟩:=em'
 obtain⟨⟨fl,he,hz⟩,_,_⟩:=(show qw X.prog X.w H' s₁.heap a (jP a C dx (.ref T)) from I2.hok a _ ha)
 obtain⟨st,_,_⟩:=(show qw X.prog X.w H' s₁.heap T (X2 T .none) from I2.hok T _ hT)
 have gC:=I2.kIn _ _ hC
 have gD:=I2.kIn _ _ hC'
 obtain⟨hp,g,d,tk,os⟩:=s₁
 refine XS (bC:=Value.ref C::bm) (bD:=Value.ref Cl::bm') he rfl gC gD (λT Q k=>wpAny_isSubtype_exc gC k) (λT Q k=>wpAny_isSubtype_exc gD k) (by rw[List.contains_cons,hB,Bool.or_true]) ?_
 cases hb:(Value.ref C::bm).contains (.ref Cl) with
 | false=>
   rw[hb,if_neg Bool.false_ne_true]at h
   exact hr pins _ σ H' D a C dx T I2 ha hT h
 | true=>
   rw[hb,if_pos rfl]at h
   refine(show codeAny _ _ _ _ _ from codeAny_handlers_suite_as ?_)
   refine jN (fs:=Jk X.stack) he hz st λh' F st'=>?_
   have I3:qp X pins σ H' {heap:=h',gens:=g,drawn:=d,toks:=tk,os:=os}:=I2.flown (H':=H') F ⟨λb hb'=>by cases List.mem_singleton.mp hb';exact⟨_,hT⟩,λb o _ z=>z,λb _ z=>z⟩ (λb hb'=>by cases List.mem_singleton.mp hb';obtain⟨ts',z,_⟩:=st';exact⟨_,z⟩) λb o z hb'=>by
     rcases hb' with hb' | hb'
     . rw[z]at hb';cases hb'
     . cases List.mem_singleton.mp hb'
       rw[hT]at z
       cases z
       exact JU st'
   refine JR I3 hN hj (.inl hl) (v:=.ref a) rfl (λs' I4=>?_) (.inr hl)
   refine wpAny_mono (hs (.ref a) _ pins s' _ H' (D.gone j) (I4.suite _ _) h) (λfl s3 q=>?_) (λ_ _ z=>z)
   cases fl with
   | next=>
     obtain⟨σ3,H3,I5,q⟩:=q
     exact JM (I.unsuite I5) hN hj hl λs4 I6=>⟨_,_,I6,q⟩
   | brk=>
     obtain⟨σ3,H3,I5,q⟩:=q
     exact JM (I.unsuite I5) hN hj hl λs4 I6=>⟨_,_,I6,q⟩
   | cont=>
     obtain⟨σ3,H3,I5,q⟩:=q
     exact JM (I.unsuite I5) hN hj hl λs4 I6=>⟨_,_,I6,q⟩
   | ret u=>
     obtain⟨v,σ3,H3,I5,r,q⟩:=q
     exact JM (I.unsuite I5) hN hj hl λs4 I6=>⟨v,_,_,I6,r,q⟩
def kc (tb:(St->XK)->TS) (th:TH):TS:=λD σ H=>∃R:Addr->Addr->Hp->Prop,tb (λσ' c d Hx=>σ'=σ/\∃C dx,c=.ref C/\d=some dx/\R C dx Hx) D σ H/\
 ∀(a C dx T:Addr) (Hx H':Hp),R C dx Hx->Hx a=some (QD a C dx)->(∀b o,b≠a->Hx b=some o->H' b=some o)->H' a=some (jP a C dx (.ref T))->th C a dx D σ H'
theorem Vx {X:Cx} {body:List Stmt} {h0:ExceptHandler} {hs:List ExceptHandler} {tb:(St->XK)->TS} {th:TH} {pos:Pos} (hst:X.stack=X.env::X.outer) (hfm:X.env.frame=some X.env.locals)
   (hb:∀(pn:List (Addr×Obj)) (W:Value->Shared->Prop) (E:St->XK),JP (Qz X.prog X.w) (X.tried pn W) E->Vs (X.tried pn W) body (tb E)) (hh:PH X (h0::hs) th):PS X (.Try body (h0::hs) [] [] pos) (kc tb th):=by
 intro pins s σ H D I h
 obtain⟨R,hbd,hx⟩:=h
 refine wpAny_Try_except ?_
 refine wpAny_mono (hb (X.pn++pins) (λe s₁=>wpAny (model X.prog X.w) X.A (noteFrame e X.env) (λ_ s₂=>wpAny (model X.prog X.w) X.A (setFlight e none) (λ_ s₃=>wpAny (model X.prog X.w) X.A (handleBy e X.env (h0::hs)) (SP X pins D) X.xe s₃) X.xe s₂) X.xe s₁) _ ?_ [] s σ H D (I.tried _) hbd) (λf s1 q=>?_) (λ_ _ z=>z)
 . intro pins' σ' H1 s1 e s' I1 hc
   obtain⟨a,C,dx,T,Hx,H2,rfl,os,bare,un,hok,ha,ht,hxT,hxa,hxs,rfl,C',dx',eC,eD,hR⟩:=hc
   cases eC
   cases eD
   have I2:qp X pins σ' H2 s':=I.untried (I1.call' os un hok bare λb z=>absurd z (by simp))
   obtain⟨⟨fl,he,hz⟩,_,_⟩:=(show qw X.prog X.w H2 s'.heap a (jP a C dx (.ref T)) from I2.hok a _ ha)
   obtain⟨st0,_,_⟩:=(show qw X.prog X.w H2 s'.heap T (X2 T .none) from I2.hok T _ ht)
   have nT0:T≠a:=λz=>by
     obtain⟨ts,q,_⟩:=st0
     rw[z,he]at q
     cases q
   have fr:=I2.ok.frames
   have ff:=I2.stack
   rw[hst]at fr ff
   refine za fr ff hfm he hz st0 nT0 λh1 T' hT F tT q1 q2=>?_
   have lt:=(Array.getElem?_eq_some_iff.mp hz).1
   have g1:(fl.setIfInBounds 1 (Value.ref T'))[1]?=some (.ref T'):=by simp [lt]
   have nT:T'≠a:=λz=>by
     obtain⟨ts,q,_⟩:=q2
     rw[z,q1]at q
     cases q
   refine jN (fs:=Jk X.stack) q1 g1 q2 λh2 F2 stt=>?_
   have anf:∀b o,H2 b=some o->b∉Jk X.stack:=λb o q z=>by
     have:=I2.stkFree b z
     rw[q]at this
     cases this
   have hTn:H2 T'=none:=I2.hok.fresh hT
   have nTT:T'≠T:=(qk ht hTn).symm
   have q3:=F2.keep a _ (anf a _ ha) (by simp [Ne.symm nT]) q1
   obtain⟨oT,hoT⟩:=tT
   have q4:=F2.keep T _ (anf T _ ht) (by simp [Ne.symm nTT]) hoT
   rw[<-hst]at F
   have I3:=I2.flown (H':=qr (qr (qr H2 a (jP a C dx (.ref T'))) T (.ext λh=>∃o,h.get? T=some o)) T' (X2 T' .none)) (Yz.then F F2 hT) ⟨λb hb=>by
       simp only[List.mem_cons,List.not_mem_nil,or_false]at hb
       rcases hb with rfl | rfl
       . exact⟨_,ha⟩
       . exact⟨_,ht⟩,λb o hb q=>by
       simp only[List.mem_cons,List.not_mem_nil,or_false,not_or]at hb
       rw[qg (qk q hTn),qg hb.2,qg hb.1];exact q,λb hb q=>by
       rw[qg (Nat.ne_of_lt (Nat.lt_of_lt_of_le hb hT)),qg (λz=>by rw[z,ht]at q;cases q),qg (λz=>by rw[z,ha]at q;cases q)];exact q⟩ (λb hb=>by
       simp only[List.mem_cons,List.not_mem_nil,or_false]at hb
       rcases hb with rfl | rfl
       . exact⟨_,q3⟩
       . exact⟨_,q4⟩) λb o q hb=>by
     by_cases e1:b=T'
     . subst e1
       rw[qe]at q
       cases q
       exact JU stt
     . rw[qg e1]at q
       by_cases e2:b=T
       . subst e2
         rw[qe]at q
         cases q
         exact⟨⟨_,q4⟩,⟨_,q4⟩,λh1 h2 ⟨u,z⟩ k=>⟨u,k u z⟩⟩
       . rw[qg e2]at q
         by_cases e3:b=a
         . subst e3
           rw[qe]at q
           cases q
           exact Q9 ⟨_,q3,g1⟩
         . rw[qg e3]at q
           rcases hb with hb | hb
           . rw[q]at hb;cases hb
           . simp only[List.mem_cons,List.not_mem_nil,or_false]at hb
             exact(hb.elim e3 e2).elim
   have ea:qr (qr (qr H2 a (jP a C dx (.ref T'))) T (.ext λh=>∃o,h.get? T=some o)) T' (X2 T' .none) a=some (jP a C dx (.ref T')):=by rw[qg (Ne.symm nT),qg (Ne.symm nT0),qe]
   refine hh pins _ σ' _ D a C dx T' I3 ea qe (hx a C dx T' Hx _ hR hxa (λb o nb q=>?_) ea)
   have n1:b≠T:=λz=>by rw[z,hxT]at q;cases q
   have q':=hxs b o nb q
   rw[qg (qk q' hTn),qg n1,qg nb]
   exact q'
 . cases f with
   | next=>
     obtain⟨σ',H',I',q⟩:=q
     exact wpAny_execs_nil ⟨σ',H',I.untried I',q⟩
   | brk=>
     obtain⟨σ',H',I',q⟩:=q
     exact⟨σ',H',I.untried I',q⟩
   | cont=>
     obtain⟨σ',H',I',q⟩:=q
     exact⟨σ',H',I.untried I',q⟩
   | ret u=>
     obtain⟨v,σ',H',I',r,q⟩:=q
     exact⟨v,σ',H',I.untried I',r,q⟩
@[irreducible] def JH (X:Cx) (hs:List ExceptHandler) (t:TH):Prop:=PH X hs t
theorem JH.of {X:Cx} {hs:List ExceptHandler} {t:TH} (h:PH X hs t):JH X hs t:=by unfold JH;exact h
theorem JH.to {X:Cx} {hs:List ExceptHandler} {t:TH} (h:JH X hs t):PH X hs t:=by unfold JH at h;exact h
theorem WU {X:Cx} {hs:List ExceptHandler}:JH X hs W4:=.of XB
theorem WV {X:Cx} {x n:Str} {p pos:Pos} {j:Nat} {b₀:Stmt} {suite:List Stmt} {rest:List ExceptHandler} {ts:TS} {tr:TH} {Cl:Addr} (hg:Gl X x) (hm:X.mg x=some (.ref Cl)) (hD:Um X.K Cl) (hN:X.N.Nodup) (hj:X.N[j]?=some n)
   (hl:X.env.scope.names.lookup n=some .local) (hs:∀v E,zp (X.suite v E) (b₀::suite) ts) (hr:JH X rest tr) (hdb:(x==("__debug__":Str))=false:=by decide):JH X (.ExceptHandler (some (.Name x p)) (some n) (b₀::suite) pos::rest) (YD X.K Cl j ts tr):=
 .of (Yw hg hm hD hN hj hl (λv E=>(hs v E).to) hr.to hdb)
theorem vn {X:Cx} {body:List Stmt} {h0:ExceptHandler} {hs:List ExceptHandler} {tb:(St->XK)->TS} {th:TH} {pos:Pos} (hst:X.stack=X.env::X.outer) (hfm:X.env.frame=some X.env.locals)
   (hb:∀(pn:List (Addr×Obj)) (W:Value->Shared->Prop) (E:St->XK),JP (Qz X.prog X.w) (X.tried pn W) E->zp (X.tried pn W) body (tb E)) (hh:JH X (h0::hs) th):JS X (.Try body (h0::hs) [] [] pos) (kc tb th):=
 .of (Vx hst hfm (λpn W E h=>(hb pn W E h).to) hh.to)
def vS (K:PySem.W.Frag) (bm:List Value) (ta:TE) (f:Str):TE:=λσ H Q=>ta σ H λx H1=>∃a C dx hd fs v,x=.ref a/\H1 a=some (jP a C dx hd)/\H1 dx=some (.xd fs)/\Jz K C bm/\q5 K C f/\fs.lookup f=some v/\Q v H1
def UX (K:PySem.W.Frag) (bm:List Value):List V->Hp->VK->Prop:=λxs H Q=>∃a C dx hd fs c b,xs=[.ref a,c]/\UA c=true/\H a=some (jP a C dx hd)/\H dx=some (.xd fs)/\Jz K C bm/\PySem.W.kitOne K (.ref C) (Ue c)=some b/\Q (.bl b) H
section
variable {X:Cx} {f:Str} {e:Expr} {pos:Pos} {ta:TE} {bm:List Value}
theorem Xb (he:JE X e ta) (hb:attributeBase e f X.env (eval e X.env)=eval e X.env):JE X (.Attribute e f pos) (vS X.K bm ta f):=.of (by
 have he:=he.to
 intro pins s σ H Q I h
 refine Xj hb (qO (he pins s σ H _ I h) λu s1 z=>?_)
 obtain⟨x,H1,I1,rx,a,C,dx,hd,fs,v,ex,ea,ed,c,n,l,q⟩:=z
 subst ex
 obtain rfl:u=Value.ref a:=rx
 exact XQ I1 ea ed c n l λu' s2 I2 ru=>⟨v,H1,I2,ru,q⟩)
theorem zY (hn:PySem.W.specialIn X.K (.builtin "object.__class__") "__get__"=some (some (.builtin "getset_descriptor.__get__"))) (htk:PySem.W.takesIn X.K (.builtin "object.__class__")=some true):Qr X (.builtin "isinstance") (UX X.K bm):=by
 intro pins s σ H xs us Q I r h
 obtain⟨a,C,dx,hd,fs,c,b,rfl,hc,ha,hdx,ec,ek,q⟩:=h
 obtain⟨u,w',rfl,ru,rw'⟩:=YB r
 have ew:w'=Ue c:=by
   cases c with
   | ty n=>exact rw'
   | ref z=>exact rw'
   | _=>cases hc
 subst ew
 cases ru
 exact WY I ha hdx ec hn htk ek λtk=>⟨.bl b,H,I.tok tk,rfl,q⟩
end
end L2
set_option Elab.async false
set_option linter.all false
set_option maxRecDepth 100000
set_option maxHeartbeats 4000000
namespace PySem
open PySem.Spec
namespace F
end F
section
variable {prog:Program} {w:World} {A:Around} {R:Result->Shared->Prop} {I:Addr} {fp wr:List Addr} {n:Nat} {P:Nat->Value->Prop} {St:Nat->Heap->Prop} {κ:Type} [DecidableEq κ] {knd:KeyKind prog w κ}
end
section
variable {prog:Program} {w:World} {A:Around} {E:Value->Shared->Prop} {s:Shared} {κ:Type} [DecidableEq κ] {knd:KeyKind prog w κ}
end
end PySem
namespace L2
open PySem PySem.Spec PyProof.Rows
section
variable {X:Cx} {pins:List (Addr×Obj)} {σ:St} {H:Hp} {s:Shared}
end
end L2
set_option Elab.async false
set_option linter.all false
set_option maxRecDepth 100000
set_option maxHeartbeats 4000000
namespace L2
open PySem PySem.Spec PySem.W PyProof.Rows
section
variable {α β:Type} {lt:Nat->Nat->Bool} {n:Nat}
end
section
variable {P:Program} {w:World} {B:Around} {F:Value->Shared->Prop} {z:Shared}
end
section
variable {X:Cx} {o:Expr} {td:TE} {p1 p2 pos1 pos2 ap cp:Pos}
end
section
variable {X:Cx}
def km (K:PySem.W.Frag):R2:=λx y H Q=>∃a b xs ys,x=.ref a/\y=.ref b/\SqL K H a xs/\SqL K H b ys/\xs.length+ys.length<=sizeLine/\∀l,H l=none->Q (.ref l) (qr H l (.lst (xs++ys)))
theorem Paired.app {α β:Type} {G:α->β->Prop}:∀{l m:List α} {l' m':List β},Paired G l l'->Paired G m m'->Paired G (l++m) (l'++m')
 | _,_,_,_,.nil,h=>h
 | _,_,_,_,.cons a r,h=>.cons a (Paired.app r h)
theorem Z8:QF X (binaryOp .Add) (km X.K):=by
 intro pins s σ H x y v u Q I rx ry h
 obtain⟨a,b,xs,ys,rfl,rfl,ha,hb,hz,q⟩:=h
 cases rx
 cases ry
 obtain⟨its,rv,pl,_⟩:=I.list ha
 obtain⟨its2,rv2,pl2,_⟩:=I.list hb
 have l1:=rv.length
 have l2:=rv2.length
 obtain⟨⟨cls,dd,data,sl⟩,ho,hc,n,hd⟩:=id pl.isList
 obtain⟨⟨cls2,dd2,data2,sl2⟩,ho2,hc2,n2,hd2⟩:=id pl2.isList
 simp only at hc hd hc2 hd2
 subst hc hd hc2 hd2
 have e:its.toArray++its2.toArray=(its++its2).toArray:=by simp
 refine concat_meets ⟨_,ho,rfl⟩ ⟨_,ho2,rfl⟩ noFill_list_add seq_list_add PySem.F.slot_list_add PySem.F.entry_list_add (PySem.F.args_list_add_2 _ _) (list_addW a b its.toArray its2.toArray n n2 dd dd2 sl sl2 (by simp only[List.size_toArray];omega)) ⟨ho,ho2,?_⟩
 rw[e]
 exact⟨.ref s.heap.objs.size,_,I.laid (t':=s.toks) (o:=.lst (xs++ys)) (λb u h=>Heap.get?_push_of_some _ h) (Nat.le_refl _) ⟨by rw[List.length_append];exact hz,its++its2,_,Paired.app rv rv2,Heap.get?_push_size _ rfl⟩,rfl,q _ (I.hok.fresh (Nat.le_refl _))⟩
end
end L2
set_option Elab.async false
set_option linter.all false
set_option maxRecDepth 100000
set_option maxHeartbeats 4000000
namespace L2
open PySem PySem.Spec PySem.W PyProof.Rows
section
variable {X:Cx}
def Wu (K:PySem.W.Frag):V->List V->Hp->VK->Prop:=λx xs H Q=>∃(a:Addr) (zs:List Str) (z:Str) (j:Nat),x=.ref a/\xs=[.str z]/\SqL K H a (zs.map V.str)/\zs[j]?=some z/\(∀i,i < j->zs[i]?≠some z)/\Q (.int (j:Nat)) H
theorem zJ:vC X "list.index" (Wu X.K):=by
 intro pins s σ H x xs v us Q I rx rs h
 obtain⟨a,zs,z,j,rfl,rfl,hq,ej,hno,q⟩:=h
 cases rx
 obtain⟨u,rfl,ru⟩:=QQ rs
 obtain⟨t,rfl⟩:=ru
 obtain⟨its,rv,pl,hz⟩:=I.list hq
 have ln:its.length=zs.length:=by
   have:=rv.length
   rw[List.length_map]at this
   exact this.symm
 have hj:j < zs.length:=(List.getElem?_eq_some_iff.mp ej).1
 have str:∀i (hi:i < its.toArray.size),∃t',its.toArray[i]=.str (zs[i]'(by simp at hi;omega)) t':=λi hi=>by
   have hi':i < zs.length:=by simp at hi;omega
   have h1:(zs.map V.str)[i]?=some (V.str zs[i]):=by rw[List.getElem?_map,List.getElem?_eq_getElem hi'];rfl
   obtain⟨w',hw,t',e⟩:=rv.get h1
   refine⟨t',?_⟩
   have:its.toArray[i]?=some w':=by simpa using hw
   rw[Array.getElem?_eq_getElem hi]at this
   exact(Option.some.inj this).trans e
 obtain⟨⟨cls,dd,data,sl⟩,ho,hc,n,hd⟩:=id pl.isList
 simp only at hc hd
 subst hc hd
 have hz':zs.length<=sizeLine:=by rwa [List.length_map]at hz
 refine call_meets PySem.F.slot_list_index ⟨_,ho,rfl⟩ PySem.F.entry_list_index (PySem.F.args_list_index_2 _ _) (SeqAt.list_indexAt a its.toArray n dd sl (.str z t) (λy=>match y with | .str x _=>x==z | _=>false) j (by simp;omega) (by rw[sizeLine_eq]at hz';omega) ?_ ?_) ⟨ho,λy hy=>?_,⟨.int _,H,I.tok _,⟨_,rfl⟩,q⟩⟩
 . obtain⟨t',e⟩:=str j (by simp;omega)
   rw[e,(List.getElem?_eq_some_iff.mp ej).2]
   exact beq_self_eq_true z
 . intro m hm lt
   obtain⟨t',e⟩:=str m hm
   rw[e]
   refine beq_eq_false_iff_ne.mpr λc=>hno m lt ?_
   rw[List.getElem?_eq_getElem (by simp at hm;omega),c]
 . obtain⟨i,hi,rfl⟩:=Array.mem_iff_getElem.mp hy
   obtain⟨t',e⟩:=str i hi
   rw[e]
   exact SeqAt.EqAt.str_str _ t' z t
end
end L2
set_option Elab.async false
set_option linter.all false
set_option maxRecDepth 100000
set_option maxHeartbeats 4000000
namespace L2
open PySem PySem.Spec PySem.W PyProof.Rows
section
variable {P:Program} {w:World} {B:Around} {F:Value->Shared->Prop} {z:Shared}
end
section
variable {X:Cx}
end
end L2
set_option Elab.async false
set_option linter.all false
set_option maxRecDepth 100000
set_option maxHeartbeats 4000000
namespace L2
open PySem PySem.Spec PySem.W PyProof.Rows
section
variable {prog:Program} {w:World} {A:Around} {R:Result->Shared->Prop} {I:Addr} {fp wr:List Addr} {G:Array GenState->Array GenState->Prop} {n:Nat} {P:Nat->Value->Prop} {St:Nat->Shared->Prop}
end
section
variable {prog:Program} {w:World} {A:Around} {E:Value->Shared->Prop} {s:Shared}
end
section
variable {X:Cx} {e:Expr} {te:TE} {p1 p2 pos1 pos2:Pos}
end
end L2
set_option Elab.async false
set_option linter.all false
set_option maxRecDepth 100000
set_option maxHeartbeats 4000000
namespace L2
open PySem PyProof.Rows
theorem zl {α:Type} {K:PySem.W.Frag} {a D:Addr} {xs:List α} {enc:α->V} {out:α->Option V} {rest:St} {H:Hp} {tt:TT} {te:TE} {Q:Hp->Prop} (hD:H D=none) (ha:H a=some (.lst (xs.map enc))) (len:xs.length < sizeLine)
   (ht:∀x∈xs,∀G,Same H G->∀R:Bool->Hp->Prop,(∀G',Same G G'->R (out x).isSome G')->tt (some (enc x)::rest) G R)
   (he:∀x∈xs,∀v,out x=some v->∀G,Same H G->∀R:V->Hp->Prop,(∀G',Same G G'->R v G')->te (some (enc x)::rest) G R)
   (k:∀G,Same H G->G D=some (.lst (xs.filterMap out))->Q G):Yc (vD K a) (Jv 0) tt te D (none::rest) H Q:=by
 have sD:Same H (qr H D (.lst [])):=λb o h=>by
   rw[qg (λe=>by rw[e,hD]at h;cases h)]
   exact h
 refine Vj (K:=K) (a:=a) (xs:=xs.map enc) (λi σ' G=>(∃v0,σ'=v0::rest)/\Same H G/\G D=some (.lst ((xs.take i).filterMap out))) ⟨⟨none,rfl⟩,sD,qe⟩ (λi σ' G _ ⟨_,s,_⟩=>.of (s _ _ ha)) ?_ ?_
 . rintro i y σ' G hy ⟨⟨v0,rfl⟩,s,hG⟩
   rw[List.getElem?_map]at hy
   cases ex:xs[i]? with
   | none=>rw[ex]at hy;cases hy
   | some x=>
     rw[ex]at hy
     obtain rfl:=(Option.some.inj hy).symm
     have hx:x∈xs:=List.mem_of_getElem? ex
     have et:(xs.take (i+1)).filterMap out=(xs.take i).filterMap out++(out x).toList:=by
       rw[List.take_add_one,ex,List.filterMap_append]
       cases c:out x<;>simp [c]
     show tt (some (enc x)::rest) G _
     refine ht x hx G s _ λG1 s1=>?_
     cases c:out x with
     | none=>
       show if false=true then _ else _
       rw[if_neg Bool.false_ne_true]
       refine⟨⟨_,rfl⟩,λb o h=>s1 _ _ (s _ _ h),?_⟩
       rw[et,c]
       simpa using s1 _ _ hG
     | some v=>
       show if true=true then _ else _
       rw[if_pos rfl]
       refine he x hx v c G1 (λb o h=>s1 _ _ (s _ _ h)) _ λG2 s2=>?_
       refine⟨_,s2 _ _ (s1 _ _ hG),?_,⟨_,rfl⟩,?_,?_⟩
       . refine Nat.lt_of_le_of_lt (List.length_filterMap_le _ _) ?_
         rw[List.length_take]
         omega
       . intro b o h
         rw[qg (λe=>by rw[e,hD]at h;cases h)]
         exact s2 _ _ (s1 _ _ (s _ _ h))
       . rw[et,c]
         exact qe
 . rintro σ' G ⟨_,s,hG⟩
   rw[List.length_map,List.take_of_length_le (Nat.le_refl _)]at hG
   exact k G s hG
theorem Xi {n:Nat} {D:Addr} {out:Nat->Option V} {rest:St} {H:Hp} {tt:TT} {te:TE} {Q:Hp->Prop} (hD:H D=none) (len:n < sizeLine)
   (ht:∀x,x < n->∀G,Same H G->∀R:Bool->Hp->Prop,(∀G',Same G G'->R (out x).isSome G')->tt (some (.int (x:Int))::rest) G R)
   (he:∀x,x < n->∀v,out x=some v->∀G,Same H G->∀R:V->Hp->Prop,(∀G',Same G G'->R v G')->te (some (.int (x:Int))::rest) G R)
   (k:∀G,Same H G->G D=some (.lst ((List.range n).filterMap out))->Q G):Yc (UF 0 n) (Jv 0) tt te D (none::rest) H Q:=by
 have sD:Same H (qr H D (.lst [])):=λb o h=>by
   rw[qg (λe=>by rw[e,hD]at h;cases h)]
   exact h
 refine ZK (λi σ' G=>(∃v0,σ'=v0::rest)/\Same H G/\G D=some (.lst ((List.range i).filterMap out))) ⟨⟨none,rfl⟩,sD,qe⟩ ?_ ?_
 . rintro i σ' G hi ⟨⟨v0,rfl⟩,s,hG⟩
   rw[Int.zero_add]
   have et:(List.range (i+1)).filterMap out=(List.range i).filterMap out++(out i).toList:=by
     rw[List.range_succ,List.filterMap_append]
     cases c:out i<;>simp [c]
   show tt (some (.int (i:Int))::rest) G _
   refine ht i hi G s _ λG1 s1=>?_
   cases c:out i with
   | none=>
     show if false=true then _ else _
     rw[if_neg Bool.false_ne_true]
     refine⟨⟨_,rfl⟩,λb o h=>s1 _ _ (s _ _ h),?_⟩
     rw[et,c]
     simpa using s1 _ _ hG
   | some v=>
     show if true=true then _ else _
     rw[if_pos rfl]
     refine he i hi v c G1 (λb o h=>s1 _ _ (s _ _ h)) _ λG2 s2=>?_
     refine⟨_,s2 _ _ (s1 _ _ hG),?_,⟨_,rfl⟩,?_,?_⟩
     . refine Nat.lt_of_le_of_lt (List.length_filterMap_le _ _) ?_
       rw[List.length_range]
       omega
     . intro b o h
       rw[qg (λe=>by rw[e,hD]at h;cases h)]
       exact s2 _ _ (s1 _ _ (s _ _ h))
     . rw[et,c]
       exact qe
 . rintro σ' G ⟨_,s,hG⟩
   exact k G s hG
end L2
set_option Elab.async false
set_option linter.all false
set_option maxRecDepth 100000
set_option maxHeartbeats 4000000
namespace L2
open PySem PyProof.Rows
section
variable {prog:Program} {w:World} {KK:Type} [DecidableEq KK] {kd:HeapKind prog w KK} {A:Around} {E:Value->Shared->Prop} {s:Shared}
end
section
variable {X:Cx} {pins:List (Addr×Obj)} {σ:St} {H:Hp} {s:Shared} {a b:Addr} {v:V} {r:Value} {A:Around} {E:Value->Shared->Prop}
end
section
variable {X:Cx} {o e f:Expr} {apos cpos:Pos} {td ty tx:TE}
end
end L2
set_option Elab.async false
set_option linter.all false
set_option maxRecDepth 100000
set_option maxHeartbeats 4000000
namespace L2
open PySem PyProof.Rows
section
variable {X:Cx}
end
end L2
set_option Elab.async false
set_option linter.all false
set_option maxRecDepth 100000
set_option maxHeartbeats 4000000
namespace L2
open PySem PySem.Spec PyProof.Rows
section
variable {X:Cx} {pins:List (Addr×Obj)} {σ:St} {H:Hp} {s:Shared} {tg:Expr}
end
section
variable {a:Addr} {o:Obj} {kvs:List (qU×V)} {zs:List Str} {g:TG} {σ:St} {H:Hp}
end
end L2
set_option Elab.async false
set_option linter.all false
set_option maxRecDepth 100000
set_option maxHeartbeats 4000000
namespace L2
open PySem PySem.Spec PyProof.Rows
section
variable {P:Program} {w:World} {K:PySem.W.Frag} {mg:Str->Option Value} {base:Heap}
theorem jQ.okX {CX:Zm} {x qual:Str} {st:Stmt} {f:Addr} {fd:FuncData} {N ps:List Str} {k:Nat} {sp:Sp} (F:jQ K x qual st f fd) (S:qu N ps (ql st)) (len:∀vs H Q E,sp vs H Q E->vs.length=ps.length)
   (hbody:∀(cdv:Value) (A:Around) (outer:List Env) (s:Shared) (H:Hp) (vs:List V) (Q:VK) (E:XK),qI k (A.deeper (envOfC qual (ql st) s.heap.objs.size f cdv))->sp vs H Q E->
     ∃t,zp (QE CX P w K mg base N qual (ql st) f cdv A outer s H E) (qK st) t/\t {nx:=λ_ H'=>Q .non H',rt:=Q} (jp N vs) H):qo P w K mg base CX (k+1) f fd ps sp:=by
 obtain⟨oc,od,kV,doc,pm,an,cdv,ct,osl,rfl,lk,hcd⟩:=F.ex
 refine W8 lk hcd S len λA outer s H vs Q E hr hsp=>?_
 obtain⟨t,h,q⟩:=hbody cdv A outer s H vs Q E hr hsp
 exact⟨t,h.to,q⟩
end
section
variable {X:Cx} {es:List Expr} {t:TA} {pos:Pos}
end
end L2
set_option Elab.async false
set_option linter.all false
set_option maxRecDepth 100000
set_option maxHeartbeats 4000000
namespace L2
open PySem PySem.Spec PyProof.Rows
section
variable {X:Cx}
end
end L2
namespace L2
open PySem PySem.Spec PyProof.Rows
end L2
set_option Elab.async false
set_option linter.all false
set_option maxRecDepth 100000
set_option maxHeartbeats 4000000
namespace L2
open PySem PySem.Spec PyProof.Rows
section
variable {X:Cx} {pins pins0:List (Addr×Obj)} {σ σ0:St} {H H0:Hp} {s s0:Shared}
end
section
variable {X:Cx}
end
end L2
namespace L2
open PySem PyProof.Rows
end L2
set_option Elab.async false
set_option linter.all false
set_option maxRecDepth 100000
set_option maxHeartbeats 4000000
namespace HT
open PySem PySem.Spec PyProof.Rows
section
variable {prog:Program} {w:World} {A:Around} {E:Value->Shared->Prop} {s:Shared}
end
end HT
namespace L2
open PySem PySem.Spec PyProof.Rows
section
variable {X:Cx}
end
end L2
namespace L2
open PySem PyProof.Rows
end L2
set_option Elab.async false
set_option linter.all false
set_option maxRecDepth 100000
set_option maxHeartbeats 4000000
namespace L2
open PySem PySem.Spec PyProof.Rows
section
variable {X:Cx} {CX:Zm} {C:Addr->Sp->Prop} {E:St->XK} {x:Str} {p pos:Pos} {e:Expr} {es:List Expr} {t:TA} {i:Nat}
end
end L2
set_option Elab.async false
set_option linter.all false
set_option maxRecDepth 100000
set_option maxHeartbeats 4000000
namespace L2
open PySem PySem.Spec PyProof.Rows
section
variable {M:Model} {A:Around} {F:Value->Shared->Prop} {s:Shared} {e:Addr} {cl:Value} {d:Option Addr} {vs:Array Value} {Q:Unit->Shared->Prop}
end
section
variable {X:Cx} {pins:List (Addr×Obj)} {σ:St} {H:Hp} {s:Shared} {M:Model} {F:Value->Shared->Prop} {Q:Unit->Shared->Prop} {a C dx:Addr}
end
section
variable {P:Program} {w:World} {K:PySem.W.Frag} {mg:Str->Option Value} {base:Heap} {N:List Str} {qual:Str} {scope:Scope} {f:Addr} {cd:Value} {A:Around} {outer:List Env} {s₀:Shared} {H₀:Hp} {E:XK}
end
end L2
set_option Elab.async false
set_option linter.all false
set_option maxRecDepth 100000
set_option maxHeartbeats 4000000
namespace L2
open PySem PySem.Spec PyProof.Rows
section
variable {X:Cx}
end
end L2
set_option Elab.async false
set_option linter.all false
set_option maxRecDepth 100000
set_option maxHeartbeats 4000000
namespace L2
open PySem PySem.Spec PyProof.Rows
def kU:Obj:={cls:=.type "cell",data:=.cell none}
structure OwnC (n:Nat) (l:List (Str×NameKind)) (cs cs':List (Str×Addr)) (h h':Heap):Prop where
 kp:∀b o,h.get? b=some o->h'.get? b=some o
 same:∀x,(x,NameKind.cell)∉l->cs'.lookup x=cs.lookup x
 own:∀x,(x,NameKind.cell)∈l->∃c,cs'.lookup x=some c/\n<=c/\h'.get? c=some kU
 inj:∀x y c,(x,NameKind.cell)∈l->(y,NameKind.cell)∈l->cs'.lookup x=some c->cs'.lookup y=some c->x=y
structure yT (X:Cx) (N':List Str) (ix:List (Option Nat)) (scope:Scope):Prop where
 kind:scope.kind=.function
 nd:(scope.names.map (·.1)).Nodup
 frees:(scope.names.all λx=>x.2 != .free || (X.env.scope.names.lookup x.1==some .cell || X.env.scope.names.lookup x.1==some .free))=true
 ixs:V6 N' X.N scope X.env.scope ix=true
section
variable {X:Cx} {N':List Str} {ix:List (Option Nat)} {scope:Scope} {pins:List (Addr×Obj)} {σ:St} {H:Hp} {s:Shared}
end
section
variable {X:Cx} {N':List Str} {ix:List (Option Nat)} {scope:Scope}
end
end L2
set_option Elab.async false
set_option linter.all false
set_option maxRecDepth 100000
set_option maxHeartbeats 4000000
namespace L2
open PySem PySem.Spec PyProof.Rows
section
variable {X:Cx} {CX:Zm} {k:Nat} {f C:Addr} {fd:FuncData} {ps:List Str} {sp:Sp} {dvs:List V} {ds:List Value} {E:St->XK} {m:Str} {pos apos:Pos} {e o:Expr} {es:List Expr} {ta:TE} {t:TA}
end
end L2
set_option Elab.async false
set_option linter.all false
set_option maxRecDepth 100000
set_option maxHeartbeats 4000000
namespace L2
open PySem PySem.Spec PyProof.Rows
section
variable {X:Cx}
end
end L2
set_option Elab.async false
set_option linter.all false
set_option maxRecDepth 100000
set_option maxHeartbeats 4000000
namespace L2
open PySem PySem.Spec PyProof.Rows PySem.W
section
variable {X:Cx}
end
end L2
set_option Elab.async false
set_option linter.all false
set_option maxRecDepth 100000
set_option maxHeartbeats 4000000
namespace L2
open PySem PySem.Spec PyProof.Rows
section
variable {P:Program} {w:World} {K:PySem.W.Frag} {mg:Str->Option Value} {base:Heap} {CX:Zm} {k:Nat} {f:Addr} {fd:FuncData} {ps:List Str} {sp sp':Sp}
end
end L2
set_option Elab.async false
set_option linter.all false
set_option maxRecDepth 100000
set_option maxHeartbeats 4000000
namespace L2
open PySem PySem.Spec PyProof.Rows PySem.W
section
variable {X:Cx}
end
end L2
set_option Elab.async false
set_option linter.all false
set_option maxRecDepth 100000
set_option maxHeartbeats 4000000
namespace L2
open PySem PySem.Spec PyProof.Rows
section
variable {prog:Program} {w:World} {A:Around} {E:Value->Shared->Prop} {s:Shared} {it d:Addr} {es:Array DictEntry} {i ep:Nat}
end
end L2
set_option Elab.async false
set_option linter.all false
set_option maxRecDepth 100000
set_option maxHeartbeats 4000000
namespace L2
open PySem PySem.Spec PyProof.Rows
section
variable {X:Cx} {pins:List (Addr×Obj)} {σ:St} {H:Hp} {s:Shared} {tg:Expr}
end
section
variable {a:Addr} {o:Obj} {u:HO} {g:TG} {σ:St} {H:Hp}
end
end L2
set_option Elab.async false
set_option linter.all false
set_option maxRecDepth 100000
set_option maxHeartbeats 4000000
namespace L2
open PySem PySem.Spec PyProof.Rows PySem.W
section
variable {X:Cx}
end
end L2
set_option Elab.async false
set_option linter.all false
set_option maxRecDepth 100000
set_option maxHeartbeats 4000000
namespace L2
open PySem PySem.Spec PyProof.Rows
section
variable {prog:Program} {w:World} {KK:Type} [DecidableEq KK] {kd:HeapKind prog w KK} {A:Around} {E:Value->Shared->Prop} {s:Shared}
end
section
variable {X:Cx}
end
end L2
set_option Elab.async false
set_option linter.all false
set_option maxRecDepth 100000
set_option maxHeartbeats 4000000
namespace L2
open PySem PySem.Spec PyProof.Rows
structure FnLd (P:Program) (w:World) (K:PySem.W.Frag) (mg:Str->Option Value) (base:Heap) (k:Nat) (f:Addr) (fd:FuncData) (ps:List Str) (sp:Sp):Prop where
 len:∀vs H Q E,sp vs H Q E->vs.length=ps.length
 run:∀(A:Around) (a:Value) (outer:List Env) (s:Shared) (H:Hp) (args:Args) (us:List Value) (vs:List V) (Q:VK) (E:XK),qI k A->z5 P w K mg base (A.mark (some a)) outer s H->BindsTo s fd args (ps.zip us)->qy vs us->sp vs H Q E->
   codeAny (model P w) (A.mark (some a)) (.call (.ref f) args) (CR qN outer P w H s Q E) s
section
variable {P:Program} {w:World} {K:PySem.W.Frag} {mg:Str->Option Value} {base:Heap}
end
section
variable {X:Cx} {k:Nat} {f:Addr} {fd:FuncData} {ps:List Str} {sp:Sp} {x:Str} {p pos:Pos} {e:Expr} {es:List Expr} {t:TA} {a:Value} {E:Value->Shared->Prop}
end
end L2
set_option Elab.async false
set_option linter.all false
set_option maxRecDepth 100000
set_option maxHeartbeats 4000000
namespace L2
open PySem PySem.Spec PyProof.Rows
section
variable {X:Cx}
theorem kr {P:Program} {w:World}:jo (Qz P w) X E0:=λ_ _ _ _ _ _ _ h=>by
 obtain⟨a,C,dx,T,Hx,H',_,_,_,_,_,_,_,_,_,_,z⟩:=h
 exact z.elim
end
end L2
set_option Elab.async false
set_option linter.all false
set_option maxRecDepth 100000
set_option maxHeartbeats 4000000
namespace L2
open PySem PySem.Spec PyProof.Rows
section
variable {X:Cx} {CX:Zm} {k:Nat} {f C:Addr} {fd:FuncData} {ps:List Str} {sp:Sp} {dvs:List V} {ds:List Value} {E:St->XK} {x m:Str} {p pos apos:Pos} {e o:Expr} {es:List Expr} {ta:TE} {t:TA}
end
section
variable {X:Cx}
end
section
variable {X:Cx} {pins:List (Addr×Obj)} {σ:St} {H:Hp} {s:Shared}
end
end L2
set_option Elab.async false
set_option linter.all false
set_option maxRecDepth 100000
set_option maxHeartbeats 4000000
namespace L2
open PySem PySem.Spec PyProof.Rows
section
variable {prog:Program} {w:World} {A:Around} {E:Value->Shared->Prop} {s:Shared}
end
section
variable {X:Cx} {pos:Pos}
end
end L2
set_option Elab.async false
set_option linter.all false
set_option maxRecDepth 100000
set_option maxHeartbeats 4000000
namespace L2
open PySem PySem.Spec PyProof.Rows
section
variable {X:Cx}
end
end L2
set_option Elab.async false
set_option linter.all false
set_option maxRecDepth 100000
set_option maxHeartbeats 4000000
namespace L2
open PySem PySem.Spec PyProof.Rows
section
variable {X:Cx} {N':List Str} {ix:List (Option Nat)} {scope:Scope}
end
end L2
set_option Elab.async false
set_option linter.all false
set_option maxRecDepth 100000
set_option maxHeartbeats 4000000
namespace L2
open PySem PySem.Spec PyProof.Rows
abbrev zq (o:Obj):HO:=.frz o (.frz o (.own 0))
def Vo (q:Str) (oc:Obj):Prop:=∃(vs:Array Value) (t:Tok),oc.data=.fields vs/\vs[1]?=some (.str q t)
structure zo (mg:Str->Option Value) (base:Heap) (c P:Addr):Prop where
 code:PySem.W.CodeHd base c P
 blt:base.BuiltinsAt mg P
theorem zj {pos:Pos} {a b:Int} {c cv:Value} (l:List Value) (h:TriplesOk l) (e:codeAmong pos (l++[rawInt a,rawInt b,c])=some cv):codeAmong pos l=some cv\/cv=c:=by
 fun_induction TriplesOk l with
 | case1=>
   simp only[List.nil_append,codeAmong,rawInt]at e
   split at e
   . exact .inr (Option.some.inj e).symm
   . cases e
 | case2 a t b u x rest ih=>
   simp only[List.cons_append,codeAmong]at e ⊢
   split at e
   . rename_i hc;rw[if_pos hc];exact .inl e
   . rename_i hc;rw[if_neg hc];exact ih h e
 | case3 l h1 h2=>exact h.elim
section
variable {X:Cx} {pins:List (Addr×Obj)} {σ:St} {H:Hp} {s:Shared}
structure Made (X:Cx) (σ:St) (H H':Hp) (P:Addr) (name qual:Str) (params:Arguments) (body:List Stmt) (scope:Scope) (f c':Addr) (doc pm ctv:Value) (oc:Obj):Prop where
 same:Same H H'
 new:H f=none
 fn:H' f=some (zq (PySem.W.fnMade name qual params body scope (qH X.env scope.names []) doc pm c' ctv))
 cd:H' c'=some (.frz oc (.own P))
 cq:Vo qual oc
 cells:∀x,(x,NameKind.free)∈scope.names->∃ca co v,(qH X.env scope.names []).lookup x=some ca/\H' ca=some (zq co)/\co.data=.cell v/\∀(i:Nat) (y:V),X.N[i]?=some x->σ[i]?=some (some y)->∃u,v=some u/\qA y u
 inj:∀x y c,(qH X.env scope.names []).lookup x=some c->(qH X.env scope.names []).lookup y=some c->x=y
theorem qp.made_def {h':Heap} {P c':Addr} {ts:Array Value} {tk tq:Nat} {qual:Str} {pos:Pos} {oc fo:Obj} (I:qp X pins σ H s) (hP:H P=some (.tbl #[.str qual tq])) (eP:s.heap.get? P=some (PySem.W.tabObj ts)) (tr:TriplesOk ts.toList)
   (cs:∀pos cv,codeAmong pos ts.toList=some cv->∃c oc,cv=.ref c/\H c=some (.frz oc (.own P))/\k6 #[.str qual tq] oc) (hx:Heap.ExtBut P s.heap h') (hge:s.heap.objs.size<=c') (hlt:c' < h'.objs.size) (hoc:h'.get? c'=some oc) (hq:Vo qual oc)
   (htb:h'.get? P=some (PySem.W.tabObj (ts++#[rawInt pos.line,rawInt pos.col,.ref c']))) (hfo:fo.isFreed=false):qp X pins σ (qr (qr H c' (.frz oc (.own P))) h'.objs.size (zq fo)) {s with heap:=h'.push fo,toks:=tk}:=by
 have hc0:H c'=none:=I.hok.fresh hge
 have hf0:H h'.objs.size=none:=I.hok.fresh (Nat.le_of_lt (Nat.lt_of_le_of_lt hge hlt))
 have up:∀{b:Addr} {u:HO},H b=some u->qr (qr H c' (.frz oc (.own P))) h'.objs.size (zq fo) b=some u:=λ{b u} e=>by
   rw[qg (qk e hf0),qg (qk e hc0)]
   exact e
 have nP:∀{b:Addr},H b=none->b≠P:=λn z=>by rw[z,hP]at n;cases n
 have old:∀b o,b≠P->s.heap.get? b=some o->(h'.push fo).get? b=some o:=λb o n e=>Heap.get?_push_of_some _ (hx b o n e)
 have lt:∀{b:Addr} {o:Obj},s.heap.get? b=some o->b≠h'.objs.size/\b≠c':=λe=>⟨Nat.ne_of_lt (Nat.lt_trans (Nat.lt_of_lt_of_le (Heap.lt_size e) hge) hlt),Nat.ne_of_lt (Nat.lt_of_lt_of_le (Heap.lt_size e) hge)⟩
 refine I.step (g':=s.gens) (d':=s.drawn) (ch:=[]) (λ_ z=>nomatch z) (λb o _ _ _ e n=>old b o (nP n) e) (λb o _ _ _ e n=>⟨o.slots,old b o (nP n) e⟩) (λb o _ e n=>?_) (λb o _ e=>?_) (λb xs e=>up e) (λb o u e=>up e) (λb ps e=>⟨#[],by rw[up e];simp⟩) (λm hm=>(hm.extBut hx (nP I.free)).push _) (λb u e=>?_) I.bare
 . rw[qg (lt e).1,qg (lt e).2]
   exact n
 . rcases Decidable.em (b=P) with z | z
   . rw[z];exact⟨_,Heap.get?_push_of_some _ htb⟩
   . exact⟨o,old b o z e⟩
 . rcases Decidable.em (b=h'.objs.size) with z | z
   . subst z
     rw[qe]at e
     cases e
     have:=Heap.get?_push_size h' hfo
     exact⟨this,this,_,this⟩
   rw[qg z]at e
   rcases Decidable.em (b=c') with z2 | z2
   . subst z2
     rw[qe]at e
     cases e
     have:=Heap.get?_push_of_some fo hoc
     exact⟨this,_,this⟩
   rw[qg z2]at e
   rcases Decidable.em (b=P) with z3 | z3
   . subst z3
     rw[hP]at e
     cases e
     refine⟨_,Heap.get?_push_of_some _ htb,?_,λpos' cv q=>?_⟩
     . rw[Array.toList_append]
       exact TriplesOk_snoc _ _ _ _ tr
     . rw[Array.toList_append]at q
       rcases zj _ tr q with q | q
       . obtain⟨c,oc',e1,e2,e3⟩:=cs pos' cv q
         exact⟨c,oc',e1,up e2,e3⟩
       . obtain⟨vs,t,h1,h2⟩:=hq
         exact⟨c',oc,q,by rw[qg (Nat.ne_of_lt hlt),qe],qual,tq,vs,t,rfl,h1,h2⟩
   . refine(I.hok b u e).stay (λc v hc g=>old c v ?_ g) (λ_ z=>up z) (λ_ _ z=>up z) (λ_ _ z=>up z)
     rcases hc with z | z
     . rw[z];exact z3
     . intro z'
       rw[z',hP]at z
       cases z
open Classical in
end
end L2
set_option Elab.async false
set_option linter.all false
set_option maxRecDepth 100000
set_option maxHeartbeats 4000000
namespace L2
open PySem PySem.Spec PyProof.Rows
section
variable {P:Program} {w:World} {K:PySem.W.Frag} {mg:Str->Option Value} {base:Heap} {N:List Str} {qual:Str} {scope:Scope} {f:Addr} {cd:Value} {A:Around} {outer:List Env} {s₀:Shared} {H₀:Hp} {E:XK}
end
section
variable {P:Program} {w:World} {K:PySem.W.Frag} {mg:Str->Option Value} {base:Heap}
end
structure Qq (N ps fr:List Str) (sc:Scope):Prop where
 kind:sc.kind=.function
 co:sc.isCoroutine=false
 gen:sc.isGenerator=false
 nd:N.Nodup
 pre:N.take (ps++fr).length=ps++fr
 par:∀x∈ps,sc.names.lookup x=some .local
 free:∀x∈fr,sc.names.lookup x=some .free
 frees:∀y∈sc.names,y.2=.free->y.1∈fr
 nocell:∀y∈sc.names,y.2≠.cell
structure Clo (H:Hp) (P f:Addr) (name qual:Str) (st:Stmt) (fd:FuncData) (ws:List (Str×V)):Prop where
 ex:∃(doc pm ctv:Value) (c':Addr) (cl:List (Str×Addr)) (oc:Obj),fd=PySem.W.fnX name qual (jt st) (qK st) (ql st) cl .none .none doc pm none (.ref c') ctv/\H f=some (zq {cls:=.type "function",data:=.func fd})/\H c'=some (.frz oc (.own P))/\Vo qual oc/\
   (∀x y c,cl.lookup x=some c->cl.lookup y=some c->x=y)/\(∀x c,cl.lookup x=some c->x∈ws.map (·.1))/\
   ∀x v,(x,v)∈ws->∃c o u,cl.lookup x=some c/\H c=some (zq o)/\o.data=.cell (some u)/\qA v u
def Zf (CX:Zm) (P:Program) (w:World) (K:PySem.W.Frag) (mg:Str->Option Value) (base:Heap) (N:List Str) (qual:Str) (scope:Scope) (f:Addr) (cd:Value) (cl:List (Str×Addr)) (A:Around) (outer:List Env) (s:Shared) (H:Hp) (E:XK):Cx where
 prog:=P
 w:=w
 K:=K
 mg:=mg
 base:=base
 A:=A.deeper (PySem.W.envX qual scope s.heap.objs.size f cd cl)
 N:=N
 s₀:=s
 H₀:=H
 env:=PySem.W.envX qual scope s.heap.objs.size f cd cl
 outer:=outer
 stack:=PySem.W.envX qual scope s.heap.objs.size f cd cl::outer
 ex:=[]
 calm:=true
 fn:=λ_=>false
 pn:=[]
 xe:=λe s'=>wpAny (model P w) (A.deeper (PySem.W.envX qual scope s.heap.objs.size f cd cl)) (leaving (PySem.W.envX qual scope s.heap.objs.size f cd cl) e) (λ_ s''=>CX outer H s E e s'') (λe' s''=>CX outer H s E e' s'') s'
theorem Yp {x:Str} {u:Value}:∀{ps:List Str} {us:List Value} {i:Nat},ps.Nodup->ps[i]?=some x->us[i]?=some u->(ps.zip us).reverse.lookup x=some u:=by
 intro ps
 induction ps with
 | nil=>intro us i _ h;cases h
 | cons p ps ih=>
   intro us i nd h1 h2
   cases us with
   | nil=>cases h2
   | cons v us=>
     rw[List.zip_cons_cons,List.reverse_cons]
     obtain⟨np,nd⟩:=List.nodup_cons.mp nd
     cases i with
     | zero=>
       obtain rfl:p=x:=by simpa using h1
       obtain rfl:v=u:=by simpa using h2
       have:(ps.zip us).reverse.lookup p=none:=by
         rw[List.lookup_eq_none_iff]
         intro q hq
         have:=(List.of_mem_zip (List.mem_reverse.mp hq)).1
         simp only[beq_eq_false_iff_ne,ne_eq,Bool.not_eq_true,bne_iff_ne]
         intro z
         rw[z]at np
         exact np this
       rw[List.lookup_append,this]
       simp
     | succ i=>
       have:=ih nd (by simpa using h1) (by simpa using h2)
       rw[List.lookup_append,this]
       rfl
section
variable {P:Program} {w:World} {K:PySem.W.Frag} {mg:Str->Option Value} {base:Heap}
end
def UL (i:Nat) (C:Addr->FuncData->Sp->Prop) (E:St->XK) (t:TA):TE:=λσ H Q=>∃f fd sp,σ[i]?=some (some (.ref f))/\C f fd sp/\H f=some (zq {cls:=.type "function",data:=.func fd})/\t σ H λvs H1=>H1 f=some (zq {cls:=.type "function",data:=.func fd})/\sp vs H1 Q (E σ)
section
variable {X:Cx} {CX:Zm} {C:Addr->FuncData->Sp->Prop} {E:St->XK} {x:Str} {p pos:Pos} {e:Expr} {es:List Expr} {t:TA} {i:Nat}
theorem WX (hN:X.N[i]?=some x) (hv:vJ X.env.scope x) (hC:∀f fd sp,C f fd sp->∃(k:Nat) (ps:List Str),qo X.prog X.w X.K X.mg X.base CX k f fd ps sp/\qI k X.A/\qX X.K fd ps []) (hx:JP CX X E) (ha:JA X (e::es) t) (hdb:(x==("__debug__":Str))=false:=by decide) (hcd:(x==("__classdict__":Str))=false:=by decide) (he:starEach (e::es) X.env=(false,eval e X.env)::starEach es X.env:=by rfl) (hpl:(backTo pos (starEach es X.env)).any (·.1)=false:=by rfl):JE X (.Call (.Name x p) (e::es) [] pos) (UL i C E t):=.of (by
 have ha:=ha.to
 intro pins s σ H Q I h
 obtain⟨f,fd,sp,eσ,c,hf,h⟩:=h
 obtain⟨k,ps,F,hr,hb⟩:=hC f fd sp c
 refine wpAny_Call_Name_kw (qO (Wy hN hv hdb hcd pins s σ H (λv H'=>v=.ref f/\H'=H) I ⟨_,eσ,rfl,rfl⟩) λu s1 ⟨v,H1,I1,r1,e1,e2⟩=>?_)
 subst e1 e2
 cases r1
 have at_:∀{H2:Hp} {s2:Shared},qp X pins σ H2 s2->H2 f=some (zq {cls:=.type "function",data:=.func fd})->PySem.W.FnAt f s2.heap:=λI2 q=>⟨_,_,fd,_,(show qw X.prog X.w _ _ f (zq _) from I2.hok f _ q).1⟩
 exact PySem.W.callWith_F (at_ I1 hf) (qO (ha pos pins s1 σ _ _ I1 h) λus s2 ⟨vs,H2,I2,r,q0,q⟩=>⟨at_ I2 q0,VP F hr hb .nil hx I2 r (by simpa using q)⟩) he hpl)
end
end L2
set_option Elab.async false
set_option linter.all false
set_option maxRecDepth 100000
set_option maxHeartbeats 4000000
namespace L2
open PySem PySem.Spec PyProof.Rows
structure z0 where
 x:Str
 c:Addr
 P:Addr
 q:Str
def jH (tabs:List z0) (H:Hp):Hp:=λb=>match tabs.find? λq=>q.P==b with
 | some q=>some (.tbl #[.str q.q 0])
 | none=>H b
theorem QS {tabs:List z0} {H:Hp} {b:Addr} (h:∀q∈tabs,q.P≠b):jH tabs H b=H b:=by
 unfold jH
 cases e:tabs.find? λq=>q.P==b with
 | none=>rfl
 | some q=>exact absurd (beq_iff_eq.mp (List.find?_some (p:=λq:z0=>q.P==b) e)) (h q (List.mem_of_find?_eq_some e))
theorem Je {tabs:List z0} {H:Hp} {b:Addr} {q:z0} (h:q∈tabs) (e:q.P=b):∃q'∈tabs,q'.P=b/\jH tabs H b=some (.tbl #[.str q'.q 0]):=by
 unfold jH
 cases e2:tabs.find? λq=>q.P==b with
 | none=>exact absurd (beq_iff_eq.mpr e) (by simpa using List.find?_eq_none.mp e2 q h)
 | some q'=>exact⟨q',List.mem_of_find?_eq_some e2,beq_iff_eq.mp (List.find?_some (p:=λq:z0=>q.P==b) e2),rfl⟩
theorem VA {tabs:List z0} {H:Hp} (nd:(tabs.map (·.P)).Nodup) {q:z0} (h:q∈tabs):jH tabs H q.P=some (.tbl #[.str q.q 0]):=by
 obtain⟨q',h',e,r⟩:=Je (H:=H) h rfl
 have:q'=q:=by
   have inj:∀{l:List z0},(l.map (·.P)).Nodup->∀{a b:z0},a∈l->b∈l->a.P=b.P->a=b:=by
     intro l
     induction l with
     | nil=>intro _ a b h;cases h
     | cons z l ih=>
       intro n a b ha hb e
       rw[List.map_cons,List.nodup_cons]at n
       rcases List.mem_cons.mp ha with ea | ha
       . rcases List.mem_cons.mp hb with eb | hb
         . rw[ea,eb]
         . exact absurd (List.mem_map.mpr ⟨b,hb,by rw[<-e,ea]⟩) n.1
       . rcases List.mem_cons.mp hb with eb | hb
         . exact absurd (List.mem_map.mpr ⟨a,ha,by rw[e,eb]⟩) n.1
         . exact ih n.2 ha hb e
   exact inj nd h' h e
 rw[r,this]
theorem XF {P:Program} {w:World} {K:PySem.W.Frag} {mg mb:Str->Option Value} {CX:Zm} {k:Nat} {fa a:Addr} {fd:FuncData} {x:Str} {sp:Sp} {s₁:Shared} {vs:List Value} {ns:List Int} {tabs:List z0}
   (KX:K.In s₁.heap) (hns:s₁.heap.Ns mainGlobals mg) (hb:s₁.heap.Ns builtinsNs mb) (hbb:∀x:Str,x≠"__name__"->mb x=bootBuiltins x) (hlim:s₁.heap.NoLimit) (hg:s₁.gens=#[])
   (ha:s₁.heap.get? a=some {cls:=.type "list",data:=.seq vs.toArray}) (hi:IntsAre vs ns) (hl:ns.length<=sizeLine) (hr:qI k callerA)
   (hT:∀q∈tabs,PySem.W.CodeHd s₁.heap q.c q.P/\s₁.heap.get? q.P=some (PySem.W.tabObj #[])) (nd:(tabs.map (·.P)).Nodup) (hbl:∃bm o,mg "__builtins__"=some (.ref bm)/\bm≠builtinsNs/\bm≠mainGlobals/\s₁.heap.get? bm=some o/\o.cls=.type "module"/\o.dict=some builtinsNs/\o.data=.plain) (hnt:PySem.W.noTabs K=true)
   (F:∀base:Heap,K.In base->base.Ns mainGlobals mg->(∀q∈tabs,zo mg base q.c q.P)->qo P w K mg base CX k fa fd [x] sp) (hbind:∀(s:Shared) (u:Value),BindsTo s fd ⟨[u],[]⟩ [(x,u)])
   (hsp:∀H:Hp,SqL K H a (ns.map V.int)->(∀q∈tabs,H q.P=some (.tbl #[.str q.q 0]))->sp [.ref a] H (λv _=>v=.bl true) λ_ _ _=>False)
   (hCX:∀H e s',CX [] H s₁ (λ_ _ _=>False) e s'->False):
   codeAny (model P w) callerA (.call (.ref fa) ⟨[.ref a],[]⟩) (λr s'=>r=.ok (.ret (.bool true))/\OldK s₁.heap s'.heap/\s'.os=s₁.os/\AllBare s'.gens) s₁:=by
 have rv:=Zt hi
 have lenV:=hi.length
 have naP:∀q∈tabs,q.P≠a:=λq hq z=>by
   have:=(hT q hq).2
   rw[z,ha]at this
   cases this
 have core:∀H0:Hp,yQ H0->SqL K H0 a (ns.map V.int)->Qa P w H0 s₁.heap->(∀b,H0 b≠none->b=a)->(H0 a≠none->K.lookup a=none)->
     codeAny (model P w) callerA (.call (.ref fa) ⟨[.ref a],[]⟩) (λr s'=>r=.ok (.ret (.bool true))/\OldK s₁.heap s'.heap/\s'.os=s₁.os/\AllBare s'.gens) s₁:=by
   intro H0 hO hS0 hok0 hA hK
   have hS:SqL K (jH tabs H0) a (ns.map V.int):=by
     have e:jH tabs H0 a=H0 a:=QS naP
     rcases hS0 with (h | ⟨o,h⟩) | h
     . exact .inl (.inl (e.trans h))
     . exact .inl (.inr ⟨o,e.trans h⟩)
     . exact .inr h
   have cases_:∀b,jH tabs H0 b≠none->b=a\/∃q∈tabs,q.P=b:=λb z=>by
     rcases Classical.em (∃q∈tabs,q.P=b) with h | h
     . exact .inr h
     . rw[QS λq hq e=>h ⟨q,hq,e⟩]at z
       exact .inl (hA b z)
   have hok:Qa P w (jH tabs H0) s₁.heap:=λb u e=>by
     rcases Classical.em (∃q∈tabs,q.P=b) with ⟨q,hq,eq⟩ | h
     . obtain⟨q',hq',e',r⟩:=Je (H:=H0) hq eq
       rw[r]at e
       cases e
       exact⟨#[],by rw[<-e'];exact(hT q' hq').2,True.intro,λpos cv z=>nomatch z⟩
     . rw[QS λq hq e=>h ⟨q,hq,e⟩]at e
       have hb':b=a:=hA b (by rw[e];exact λz=>nomatch z)
       rcases hO b with z | ⟨o,xs,z⟩
       . rw[z]at e;cases e
       . rw[z]at e
         cases e
         obtain⟨h1,h2,its,n,h3,h4⟩:=(show qw P w H0 s₁.heap b (.frz o (.lst xs)) from hok0 b _ z)
         exact⟨h1,h2,its,n,h3,h4⟩
   have noT:∀{b:Addr} {o:Obj},s₁.heap.get? b=some o->o≠PySem.W.tabObj #[]->o≠{cls:=.type "list",data:=.seq vs.toArray}->jH tabs H0 b=none:=λ{b o} e n1 n2=>by
     cases q:jH tabs H0 b with
     | none=>rfl
     | some u=>
       rcases cases_ b (by rw[q];exact λz=>nomatch z) with z | ⟨t,ht,z⟩
       . rw[z,ha]at e
         exact absurd (Option.some.inj e).symm n2
       . have:=(hT t ht).2
         rw[z,e]at this
         exact absurd (Option.some.inj this) n1
   have base_of:∀{b:Addr} {o:Obj},s₁.heap.get? b=some o->jH tabs H0 b=none->(Zq s₁.heap (jH tabs H0)).get? b=some o:=λe n=>W3 e n
   have nsK:∀{b:Addr} {m:Str->Option Value},s₁.heap.Ns b m->(Zq s₁.heap (jH tabs H0)).Ns b m:=λ{b m} ⟨o,es,ep,e,d,r⟩=>⟨o,es,ep,base_of e (noT e (λz=>by rw[z]at d;cases d) (λz=>by rw[z]at d;cases d)),d,r⟩
   have hKb:K.In (Zq s₁.heap (jH tabs H0)):=λb o e=>base_of (KX b o e) (by
     cases q:jH tabs H0 b with
     | none=>rfl
     | some u=>
       rcases cases_ b (by rw[q];exact λz=>nomatch z) with z | ⟨t,ht,z⟩
       . have e1:jH tabs H0 a=H0 a:=QS naP
         rw[z,e1]at q
         rw[z,hK (by rw[q];exact λz=>nomatch z)]at e
         cases e
       . have:=(hT t ht).2
         rw[z,KX b o e]at this
         have h2:=List.all_eq_true.mp hnt (b,o) (PySem.W.mem_of_lookupK e)
         rw[Option.some.inj this]at h2
         exact absurd (show false=true from h2) Bool.false_ne_true)
   have hM:Mod K mg (Zq s₁.heap (jH tabs H0)):=⟨hKb,nsK hns,⟨mb,nsK hb,hbb⟩,let ⟨mc,h1,h2⟩:=hlim;⟨mc,nsK h1,h2⟩⟩
   have hTM:∀q∈tabs,zo mg (Zq s₁.heap (jH tabs H0)) q.c q.P:=λq hq=>by
     refine⟨?_,?_⟩
     . obtain⟨o,vs',file,tf,flags,tg,inF,text,tt,e1,e2,r⟩:=(hT q hq).1
       exact⟨o,vs',file,tf,flags,tg,inF,text,tt,base_of e1 (noT e1 (λz=>by rw[z]at e2;cases e2) (λz=>by rw[z]at e2;exact absurd (show Value.type "list"=Value.type "code" from e2) (by decide))),e2,r⟩
     . obtain⟨bm,o,b1,b2,b3,b4,b5,b6,b7⟩:=hbl
       refine⟨bm,o,b1,b2,b3,λz=>?_,base_of b4 (noT b4 (λz=>by rw[z]at b5;cases b5) (λz=>by rw[z]at b5;exact absurd (show Value.type "list"=Value.type "module" from b5) (by decide))),b5,b6,b7⟩
       have:=(hT q hq).2
       rw[<-z,b4]at this
       cases this
       cases b5
   have e0:z5 P w K mg (Zq s₁.heap (jH tabs H0)) callerA [] s₁ (jH tabs H0):=⟨rfl,hM,λb o e=>V0 e,Nat.le_of_eq (XO _ _),trivial,λb hb=>absurd (show b∈([]:List Addr) from hb) (by simp),hok,.of_eq hg⟩
   refine codeAny_mono ((F _ hKb (nsK hns) hTM).run callerA [] s₁ (jH tabs H0) ⟨[.ref a],[]⟩ [.ref a] [.ref a] _ _ hr e0 (hbind s₁ (.ref a)) (.cons rfl .nil) (hsp _ hS λq hq=>VA nd hq)) λr s' h=>?_
   cases r with
   | error e=>exact(hCX _ e s' h).elim
   | ok fl=>
     cases fl with
     | next=>exact False.elim h
     | brk=>exact False.elim h
     | cont=>exact False.elim h
     | ret u=>
       obtain⟨v,H',os,bare,un,hok',r',q⟩:=h
       have q':v=.bl true:=q
       subst q'
       obtain rfl:u=Value.bool true:=r'
       have all:∀b o,s₁.heap.get? b=some o->s'.heap.get? b=some o\/∃t∈tabs,t.P=b/\∃ts,s'.heap.get? b=some (PySem.W.tabObj ts):=λb o e=>by
         rcases Classical.em (∃q∈tabs,q.P=b) with ⟨t,ht,et⟩ | h
         . obtain⟨t',ht',e',r⟩:=Je (H:=H0) ht et
           obtain⟨m,z⟩:=un.tbls b _ r
           obtain⟨ts,z2,_⟩:=(show qw P w H' s'.heap b (.tbl _) from hok' b _ z)
           exact .inr ⟨t,ht,et,ts,z2⟩
         . have e1:jH tabs H0 b=H0 b:=QS λq hq e=>h ⟨q,hq,e⟩
           cases q:H0 b with
           | none=>exact .inl (un.keep b o e (e1.trans q) (by intro z;exact absurd (show b∈([]:List Addr) from z) (by simp)) (by simp))
           | some u=>
             rcases hO b with z | ⟨ob,xs,z⟩
             . rw[q]at z;cases z
             . have z2:=un.frzs b ob _ (e1.trans z)
               obtain⟨h1,_⟩:=hok0 b _ z
               obtain⟨h2,_⟩:=hok' b _ z2
               rw[e]at h1;cases h1
               exact .inl h2
       refine⟨rfl,⟨λb o e=>?_,λb o e=>?_⟩,os,bare⟩
       . rcases all b o e with z | ⟨t,ht,et,ts,z⟩
         . exact .inl z
         . have e2:=(hT t ht).2
           rw[et,e]at e2
           cases e2
           subst et
           exact .inr (.inl ⟨((hT t ht).1.tab (hT t ht).2).isCodeTable,rfl,#[],ts,rfl,by rw[Array.empty_append];exact z⟩)
       . rcases all b o e with z | ⟨t,ht,et,ts,z⟩
         . exact⟨_,z⟩
         . exact⟨_,z⟩
 cases hk:K.lookup a with
 | some o=>
   have e:=KX a o hk
   rw[ha]at e
   cases e
   refine core (λ_=>none) (λ_=>.inl rfl) (.inr ⟨_,vs.toArray,_,hk,rfl,rfl,rfl,by rw[List.size_toArray,lenV];exact hl,by simpa using rv⟩) (λb u z=>by have z':(none:Option HO)=some u:=z;cases z') (λb z=>absurd rfl z) λz=>absurd rfl z
 | none=>
   refine core (λb=>if b=a then some (.frz {cls:=.type "list",data:=.seq vs.toArray} (.lst (ns.map V.int))) else none) (λb=>?_) (.inl (.inr ⟨{cls:=.type "list",data:=.seq vs.toArray},if_pos rfl⟩)) (λb u z=>?_) (λb z=>?_) λ_=>hk
   . by_cases hb:b=a
     . exact .inr ⟨_,_,if_pos hb⟩
     . exact .inl (if_neg hb)
   . by_cases hb:b=a
     . have z':=(if_pos hb).symm.trans z
       cases z'
       subst hb
       exact⟨ha,by rw[List.length_map];exact hl,vs,_,rv,ha⟩
     . have z':=(if_neg hb).symm.trans z
       cases z'
   . by_cases hb:b=a
     . exact hb
     . exact absurd (if_neg hb) z
theorem walk_ofT {l:PySem.W.OpenLaw} {n k:Nat} {q:Program} {loose:List Str} {XP:(Str->Option Value)->Heap->Prop} {YP:World->Heap->Prop} {d:DefRec} {K:Params->PySem.W.Frag} {sp:PySem.W.Frag->List z0->Sp} {x:Str} {ts:List Addr}
   (hn:l.most=some n) (hn2:n<=sizeLine) (hdf:d.params.defaults=[]) (hr:qI k callerA)
   (hY:∀(w:World) (h:Heap),YP w h->(K w.params).In h) (hTs:∀(w:World) (h:Heap),YP w h->∀P∈ts,h.get? P=some (PySem.W.tabObj #[])) (hnt:∀w:World,PySem.W.noTabs (K w.params)=true)
   (F:∀(w:World) (mg:Str->Option Value) (fa:Addr) (h:Heap),(K w.params).In h->h.Ns mainGlobals mg->mg d.name=some (.ref fa)->
     ∃(tabs:List z0) (fd:FuncData),(tabs.map (·.P)).Nodup/\(∀t∈tabs,t.P∈ts/\PySem.W.codeHdIn (K w.params) t.c t.P=true)/\(∀(s:Shared) (u:Value),BindsTo s fd ⟨[u],[]⟩ [(x,u)])/\
      ∀base:Heap,(K w.params).In base->base.Ns mainGlobals mg->(∀t∈tabs,zo mg base t.c t.P)->qo l.prog w (K w.params) mg base qN k fa fd [x] (sp (K w.params) tabs))
   (hsp:∀(K:PySem.W.Frag) (tabs:List z0) (H:Hp) (a:Addr) (ns:List Int),ns.length<=n->SqL K H a (ns.map V.int)->(∀q∈tabs,H q.P=some (.tbl #[.str q.q 0]))->sp K tabs [.ref a] H (λv _=>v=.bl true) λ_ _ _=>False):
   PySem.W.WalkO q loose XP YP l.row.toRowW d [] (λf vs=>PySem.call f vs):=by
 refine Att.attach_call hn hdf λw s₀ s₁ mg mb fa o pm cd doc a vs ns G Y ho hd hcd hmg hobj hints hlen hg=>?_
 have KX:=hY w _ Y
 obtain⟨tabs,fd,nd,ht,hb,hF⟩:=F w mg fa _ KX G.T.g hmg
 refine XF KX G.T.g G.T.b G.T.builtins G.T.nolimit hg hobj hints (Nat.le_trans hlen hn2) hr (tabs:=tabs) (λt hm=>⟨PySem.W.codeHd_of_K KX (ht t hm).2,hTs w _ Y _ (ht t hm).1⟩) nd ?_ (hnt w) hF hb (λH hS hP=>hsp _ _ H a ns hlen hS hP) λH e s' z=>z
 obtain⟨bm,ob,a1,a2,a3,a4,a5,a6⟩:=G.T.bmain
 refine⟨bm,ob,a1,a2,λz=>?_,a3,a4,a5,a6⟩
 obtain⟨o',es,ep,e,hd',_⟩:=G.T.g
 rw[z,e]at a3
 cases a3
 rw[hd']at a6
 cases a6
end L2
set_option Elab.async false
set_option linter.all false
set_option maxRecDepth 100000
set_option maxHeartbeats 4000000
namespace L2
open PySem PySem.Spec PyProof.Rows
mutual
inductive DG (H:Hp):V->PyData->Prop
 | non:DG H .non .none
 | bl (b:Bool):DG H (.bl b) (.bool b)
 | int (i:Int):DG H (.int i) (.int i)
 | str (x:Str):DG H (.str x) (.str x)
 | lst {a:Addr} {xs:List V} {ds:List PyData}:H a=some (.lst xs)->a≠sysModules->DGs H xs ds->DG H (.ref a) (.list ds)
 | tup {a:Addr} {xs:List V} {ds:List PyData}:H a=some (.tup xs)->DGs H xs ds->DG H (.ref a) (.tuple ds)
 | dct0 {a:Addr}:H a=some (.dK [])->DG H (.ref a) (.dict [])
 | dct1 {a:Addr} {z:Str} {i:Int}:H a=some (.dK [(Sum.inr z,.int i)])->DG H (.ref a) (.dict [(.str z,.int i)])
inductive DGs (H:Hp):List V->List PyData->Prop
 | nil:DGs H [] []
 | cons {x:V} {xs:List V} {d:PyData} {ds:List PyData}:DG H x d->DGs H xs ds->DGs H (x::xs) (d::ds)
end
section
variable {X:Cx} {pins:List (Addr×Obj)} {σ:St} {H:Hp} {s:Shared}
end
section
variable {X:Cx}
end
end L2
set_option Elab.async false
set_option linter.all false
set_option maxRecDepth 100000
set_option maxHeartbeats 4000000
namespace L2
open PySem PySem.Spec PyProof.Rows
structure Vp (H:Hp) (P f:Addr) (qual:Str) (ag:Arguments) (be:Expr) (sc:Scope) (fd:FuncData) (ws:List (Str×V)):Prop where
 ex:∃(pm ctv:Value) (c':Addr) (cl:List (Str×Addr)) (oc:Obj),fd=PySem.W.kla_fn "<lambda>" qual ag be sc cl pm (.ref c') ctv/\H f=some (zq {cls:=.type "function",data:=.func fd})/\H c'=some (.frz oc (.own P))/\Vo qual oc/\
   (∀x y c,cl.lookup x=some c->cl.lookup y=some c->x=y)/\(∀x c,cl.lookup x=some c->x∈ws.map (·.1))/\
   ∀x v,(x,v)∈ws->∃c o u,cl.lookup x=some c/\H c=some (zq o)/\o.data=.cell (some u)/\qA v u
section
variable {P:Program} {w:World} {K:PySem.W.Frag} {mg:Str->Option Value} {base:Heap}
theorem JN {CX:Zm} {PT f:Addr} {qual:Str} {ag:Arguments} {be:Expr} {sc:Scope} {fd:FuncData} {N ps fr:List Str} {k:Nat} {sp:List (Str×V)->Sp} (S:Qq N ps fr sc) (len:∀ws vs H Q E,sp ws vs H Q E->vs.length=ps.length/\ws.map (·.1)=fr)
   (hbody:∀(c':Addr) (cl:List (Str×Addr)) (A:Around) (outer:List Env) (s:Shared) (H:Hp) (ws:List (Str×V)) (vs:List V) (Q:VK) (E:XK),qI k (A.deeper (PySem.W.envX qual sc s.heap.objs.size f (.ref c') cl))->sp ws vs H Q E->
     ∃t,JE (Zf CX P w K mg base N qual sc f (.ref c') cl A outer s H E) be t/\t (jp N (vs++ws.map (·.2))) H Q):
   qo P w K mg base CX (k+1) f fd ps (λvs H Q E=>∃ws,Vp H PT f qual ag be sc fd ws/\sp ws vs H Q E):=by
 refine⟨λvs H Q E ⟨ws,_,h⟩=>(len _ _ _ _ _ h).1,λA outer s H args us vs Q E hr e0 hb r ⟨ws,C,hsp⟩=>?_⟩
 obtain⟨hl,hw⟩:=len _ _ _ _ _ hsp
 obtain⟨pm,ctv,c',cl,oc,rfl,hf,hcd,⟨vs',t',hd',hv'⟩,inj,clw,cells⟩:=C.ex
 have ef:=(show qw P w H s.heap f (zq _) from e0.hok f _ hf).1
 have ec:=(show qw P w H s.heap c' (.frz oc (.own PT)) from e0.hok c' _ hcd).1
 have lim:s.heap.NoLimit:=e0.mod.nolimit.keeps λb o e=>(e0.bs b o e).1
 refine PySem.W.kla_callFunE hr.depth ef rfl S.co S.gen rfl ⟨c',oc,vs',t',rfl,ec,hd',hv'⟩ (hb _ _ _ _ ?_)
 refine wpAny_newFunctionEnv S.nocell (λy hy=>S.par y.1 (List.of_mem_zip hy).1) (λh1 hns hsb=>?_) S.kind
 have hk:∀b o,s.heap.get? b=some o->h1.get? b=some o:=λb o e=>hsb.extBut b o (Nat.ne_of_lt (Heap.lt_size e)) (Heap.get?_push_of_some _ e)
 refine⟨lim.keeps hk,PySem.W.kla_codeExpr ?_⟩
 obtain⟨t,ht,hq⟩:=hbody c' cl A outer s H ws vs Q E (hr.deeper _) hsp
 have noA:∀b:Addr,b∉(Zf CX P w K mg base N qual sc f (.ref c') cl A outer s H E).ex:=λb z=>absurd (show b∈([]:List Addr) from z) (by simp)
 have lw:ws.length=fr.length:=by have:=congrArg List.length hw;simpa using this
 have hN:ps.length+fr.length<=N.length:=by
   have:=congrArg List.length S.pre
   rw[List.length_take,List.length_append]at this
   omega
 have kn:∀x c,cl.lookup x=some c->∃o u,H c=some (zq o)/\o.data=.cell (some u):=λx c e=>by
   obtain⟨⟨y,v⟩,hy,rfl⟩:=List.mem_map.mp (clw x c e)
   obtain⟨c2,o,u,a,b,d,_⟩:=cells y v hy
   rw[e]at a
   cases a
   exact⟨o,u,b,d⟩
 have I:qp (Zf CX P w K mg base N qual sc f (.ref c') cl A outer s H E) [] (jp N (vs++ws.map (·.2))) H {s with heap:=h1,toks:=s.toks+(ps.zip us).length}:=by
   refine⟨⟨e0.mod,S.kind,rfl,rfl,Nat.le_refl _,inj,λy hy=>?_,λ_ _ z=>Bool.noConfusion z,λ_=>hr.hd,Around.frames_deeper e0.frames,.inr ⟨rfl,rfl⟩,λb z=>absurd z (noA b),e0.bs,e0.bsz,λb _ _=>noA b,λb z=>absurd z (noA b),e0.funs,e0.frf⟩,
     rfl,e0.bare,Un.kept hk,⟨_,hns,λi y v q1 q2 q3=>?_⟩,λy c h=>?_,e0.hok.fresh (Nat.le_refl _),λy c h=>?_,λp hp=>absurd (show p∈([]:List (Addr×Obj)) from hp) (by simp),e0.hok.kept hk,?_⟩
   . have hy:sc.names.lookup y=some .cell\/sc.names.lookup y=some .free:=hy
     rcases hy with hy | hy
     . exact absurd rfl (S.nocell _ (PySem.mem_of_lookup hy))
     . have:=S.frees _ (PySem.mem_of_lookup hy) rfl
       rw[<-hw]at this
       obtain⟨⟨z,v⟩,hz,ez⟩:=List.mem_map.mp this
       obtain⟨c2,o,u,a,_⟩:=cells z v hz
       exact⟨c2,by rw[<-show z=y from ez];exact a⟩
   . have hi:i < (vs++ws.map (·.2)).length:=by
       rcases Nat.lt_or_ge i (vs++ws.map (·.2)).length with z | z
       . exact z
       . unfold jp at q2
         rw[List.getElem?_append_right (by simpa using z),List.getElem?_replicate]at q2
         split at q2<;>cases q2
     have q2':(vs++ws.map (·.2))[i]?=some v:=by
       unfold jp at q2
       rw[List.getElem?_append_left (by simpa using hi),List.getElem?_map]at q2
       cases e:(vs++ws.map (·.2))[i]? with
       | none=>rw[e]at q2;cases q2
       | some z=>rw[e]at q2;cases q2;rfl
     rw[List.length_append,List.length_map]at hi
     have q1':(ps++fr)[i]?=some y:=by
       rw[<-S.pre,List.getElem?_take_of_lt (by rw[List.length_append];omega)]
       exact q1
     rcases Nat.lt_or_ge i vs.length with z | z
     . rw[List.getElem?_append_left z]at q2'
       rw[List.getElem?_append_left (by omega)]at q1'
       obtain⟨u,hu,rv⟩:=r.get q2'
       have ndP:ps.Nodup:=by
         have:=S.nd.sublist (List.take_sublist (ps++fr).length N)
         rw[S.pre]at this
         exact(List.nodup_append.mp this).1
       exact⟨u,rv,.inl ⟨S.par y (List.mem_of_getElem? q1'),Yp ndP q1' hu⟩⟩
     . rw[List.getElem?_append_right z,List.getElem?_map]at q2'
       rw[List.getElem?_append_right (by omega),<-hl]at q1'
       rw[<-hw,List.getElem?_map]at q1'
       cases e:ws[i - vs.length]? with
       | none=>rw[e]at q2';cases q2'
       | some yv=>
         rw[e]at q2' q1'
         obtain rfl:yv.1=y:=Option.some.inj q1'
         obtain rfl:yv.2=v:=Option.some.inj q2'
         have hm:yv∈ws:=List.mem_of_getElem? e
         obtain⟨c2,o,u,a,b,d,rv⟩:=cells yv.1 yv.2 hm
         have fy:sc.names.lookup yv.1=some .free:=S.free _ (by rw[<-hw];exact List.mem_map.mpr ⟨yv,hm,rfl⟩)
         exact⟨u,rv,.inr ⟨.inr fy,c2,a,o,hk _ _ (show qw P w H s.heap c2 (zq o) from e0.hok c2 _ b).1,d⟩⟩
   . obtain⟨o,u,b,d⟩:=kn y c h
     exact⟨some u,o,hk _ _ (show qw P w H s.heap c (zq o) from e0.hok c _ b).1,d⟩
   . obtain⟨o,u,b,d⟩:=kn y c h
     exact .inr ⟨rfl,o,b⟩
   . show (jp N (vs++ws.map (·.2))).length=N.length
     unfold jp
     rw[List.length_append,List.length_map,List.length_replicate,List.length_append,List.length_map]
     omega
 refine wpAny_mono (ht.to [] _ (jp N (vs++ws.map (·.2))) H _ I hq) (λu s' hs=>?_) λe s' hs=>hs
 obtain⟨v,H',J,rv,q⟩:=hs
 exact⟨v,H',J.os,J.bare,J.base,J.hok,rv,q⟩
end
def ym (P:Addr) (qual:Str) (ag:Arguments) (be:Expr) (sc:Scope):TE:=λσ H Q=>(∃tq,H P=some (.tbl #[.str qual tq]))/\∀f fd H',Same H H'->H f=none->Vp H' P f qual ag be sc fd []->Q (.ref f) H'
section
variable {X:Cx} {c P:Addr} {qual:Str} {ag:Arguments} {be:Expr} {sc:Scope} {pos:Pos}
theorem zd (TM:zo X.mg X.base c P) (hcode:X.env.code=.ref c) (hq:X.env.qual++"<lambda>"=qual) (hfr:(sc.names.all λx=>x.2 != .free)=true) (hdf:defaultsOf ag X.env=([],[]):=by rfl):JE X (.Lambda ag be sc pos) (ym P qual ag be sc):=.of (by
 intro pins s σ H Q I h
 obtain⟨⟨tq,hP⟩,h⟩:=h
 obtain⟨ts,eP,tr,cs⟩:=(show qw X.prog X.w H s.heap P (.tbl #[.str qual tq]) from I.hok P _ hP)
 refine PySem.W.kla_eval hdf ?_
 rw[hq]
 have hg:s.heap.Ns mainGlobals X.mg:=I.ok.mod.glob.keeps I.bk
 have CH:=TM.code.keeps I.bk
 have hb:s.heap.BuiltinsAt X.mg P:=by
   obtain⟨bm,o,b1,b2,b3,b4,b5,b6⟩:=TM.blt
   exact⟨bm,o,b1,b2,b3,b4,I.bk _ _ b5,b6⟩
 have hgP:mainGlobals≠P:=λz=>by
   obtain⟨o,es,ep,e,_⟩:=I.ok.mod.glob
   have:=(I.bs _ _ e).2
   rw[z,hP]at this
   cases this
 have nof:∀x,(x,NameKind.free)∉sc.names:=λx hx=>by
   have:=List.all_eq_true.mp hfr _ hx
   simp at this
 have hcl:closureFor sc X.env=pure (qH X.env sc.names []):=jU λx hx e=>absurd (by rw[<-e];exact hx) (nof x.1)
 have nol:∀x c,(qH X.env sc.names []).lookup x≠some c:=λx c e=>by
   rcases Qp e with z | ⟨z1,z2⟩
   . simp at z
   . exact nof x z1
 have clo:∀{f c':Addr} {pm ctv:Value} {oc:Obj} {H1:Hp},H1 f=some (zq (PySem.W.kla_obj "<lambda>" qual ag be sc (qH X.env sc.names []) pm c' ctv))->H1 c'=some (.frz oc (.own P))->Vo qual oc->Vp H1 P f qual ag be sc (PySem.W.kla_fn "<lambda>" qual ag be sc (qH X.env sc.names []) pm (.ref c') ctv) []:=
   λ{f c' pm ctv oc H1} e1 e2 e3=>⟨pm,ctv,c',_,oc,rfl,e1,e2,e3,λx y c z=>absurd z (nol x c),λx c z=>absurd z (nol x c),λx v z=>nomatch z⟩
 cases hh:codeAmong pos ts.toList with
 | none=>
   refine PySem.W.kla_makeFunction (mg:=X.mg) hcl I.ok.glob hg hcode CH eP tr hh hgP hb λc' ctv h' tk hx hge hlt hrec htb=>?_
   obtain⟨c2,oc,vs,t,e2,hoc,hd,hv⟩:=hrec
   cases e2
   have hc0:H c'=none:=I.hok.fresh hge
   have hf0:H h'.objs.size=none:=I.hok.fresh (Nat.le_of_lt (Nat.lt_of_le_of_lt hge hlt))
   refine⟨.ref _,_,I.made_def hP eP tr cs hx hge hlt hoc ⟨vs,t,hd,hv⟩ htb rfl,rfl,h _ _ _ (λb u e=>?_) hf0 (clo qe ?_ ⟨vs,t,hd,hv⟩)⟩
   . rw[qg (qk e hf0),qg (qk e hc0)]
     exact e
   . rw[qg (Nat.ne_of_lt hlt),qe]
 | some cv=>
   obtain⟨c',oc,rfl,ec,q,t,vs,t',hq1,hd,hv⟩:=cs pos cv hh
   cases hq1
   refine PySem.W.kla_makeFunctionHit (mg:=X.mg) hcl I.ok.glob hg hcode CH eP tr hh hb λctv h' tk hk hsz=>?_
   have hf0:H h'.objs.size=none:=I.hok.fresh hsz
   have e1:(h'.push (PySem.W.kla_obj "<lambda>" qual ag be sc (qH X.env sc.names []) ((X.mg "__name__").getD .none) c' ctv)).get? h'.objs.size=some (PySem.W.kla_obj "<lambda>" qual ag be sc (qH X.env sc.names []) ((X.mg "__name__").getD .none) c' ctv):=Heap.get?_push_size h' rfl
   refine⟨.ref _,_,I.laid (t':=tk) (o:=zq (PySem.W.kla_obj "<lambda>" qual ag be sc (qH X.env sc.names []) ((X.mg "__name__").getD .none) c' ctv)) (λb o e=>Heap.get?_push_of_some _ (hk b o e)) hsz ⟨e1,e1,_,e1⟩,rfl,h _ _ _ (λb u e=>by rw[qg (qk e hf0)];exact e) hf0 (clo qe ?_ ⟨vs,t',hd,hv⟩)⟩
   rw[qg (qk ec hf0)]
   exact ec)
end
section
variable {P:Program} {w:World} {K:PySem.W.Frag} {mg:Str->Option Value} {base:Heap} {N:List Str} {qual:Str} {scope:Scope} {f:Addr} {cd:Value} {cl:List (Str×Addr)} {A:Around} {outer:List Env} {s₀:Shared} {H₀:Hp} {E:XK}
theorem j6:jo (Qz P w) (Zf (Qz P w) P w K mg base N qual scope f cd cl A outer s₀ H₀ E) E:=by
 intro pins σ H s e s' I0 hc
 obtain⟨a,C,dx,T,Hx,H1,rfl,os,bare,un,hok,ha,ht,hxT,hxa,hx,hE⟩:=hc
 have I:qp (Zf (Qz P w) P w K mg base N qual scope f cd cl A outer s₀ H₀ E) pins σ H1 s':=I0.call' os un hok bare λb z=>absurd z (by simp)
 obtain⟨⟨fl,he,hz⟩,_,_⟩:=(show qw P w H1 s'.heap a (jP a C dx (.ref T)) from I.hok a _ ha)
 obtain⟨st0,_,_⟩:=(show qw P w H1 s'.heap T (X2 T .none) from I.hok T _ ht)
 have fr:=I.ok.frames
 have ff:=I.stack
 have nT0:T≠a:=λz=>by
   obtain⟨ts,q,_⟩:=st0
   rw[z,he]at q
   cases q
 show wpAny _ _ (leaving _ _) _ _ s'
 unfold leaving
 refine wpAny_bind (za fr ff rfl he hz st0 nT0 λh1 T' hT F tT q1 q2=>?_)
 have lt:=(Array.getElem?_eq_some_iff.mp hz).1
 have g1:(fl.setIfInBounds 1 (Value.ref T'))[1]?=some (.ref T'):=by simp [lt]
 have nT:T'≠a:=λz=>by
   obtain⟨ts,q,_⟩:=q2
   rw[z,q1]at q
   cases q
 refine jN (fs:=Jk (Zf (Qz P w) P w K mg base N qual scope f cd cl A outer s₀ H₀ E).stack) q1 g1 q2 λh2 F2 st=>?_
 have anf:∀b o,H1 b=some o->b∉Jk (Zf (Qz P w) P w K mg base N qual scope f cd cl A outer s₀ H₀ E).stack:=λb o q z=>by
   have:=I.stkFree b z
   rw[q]at this
   cases this
 have hTn:H1 T'=none:=I.hok.fresh hT
 have nTT:T'≠T:=(qk ht hTn).symm
 have q3:=F2.keep a _ (anf a _ ha) (by simp [Ne.symm nT]) q1
 obtain⟨oT,hoT⟩:=tT
 have q4:=F2.keep T _ (anf T _ ht) (by simp [Ne.symm nTT]) hoT
 have I2:=I.flown (H':=qr (qr (qr H1 a (jP a C dx (.ref T'))) T (.ext λh=>∃o,h.get? T=some o)) T' (X2 T' .none)) (Yz.then F F2 hT) ⟨λb hb=>by
     simp only[List.mem_cons,List.not_mem_nil,or_false]at hb
     rcases hb with rfl | rfl
     . exact⟨_,ha⟩
     . exact⟨_,ht⟩,λb o hb q=>by
     simp only[List.mem_cons,List.not_mem_nil,or_false,not_or]at hb
     rw[qg (qk q hTn),qg hb.2,qg hb.1];exact q,λb hb q=>by
     rw[qg (Nat.ne_of_lt (Nat.lt_of_lt_of_le hb hT)),qg (λz=>by rw[z,ht]at q;cases q),qg (λz=>by rw[z,ha]at q;cases q)];exact q⟩ (λb hb=>by
     simp only[List.mem_cons,List.not_mem_nil,or_false]at hb
     rcases hb with rfl | rfl
     . exact⟨_,q3⟩
     . exact⟨_,q4⟩) λb o q hb=>by
   by_cases e1:b=T'
   . subst e1
     rw[qe]at q
     cases q
     exact JU st
   . rw[qg e1]at q
     by_cases e2:b=T
     . subst e2
       rw[qe]at q
       cases q
       exact⟨⟨_,q4⟩,⟨_,q4⟩,λh1 h2 ⟨u,z⟩ k=>⟨u,k u z⟩⟩
     . rw[qg e2]at q
       by_cases e3:b=a
       . subst e3
         rw[qe]at q
         cases q
         exact Q9 ⟨_,q3,g1⟩
       . rw[qg e3]at q
         rcases hb with hb | hb
         . rw[q]at hb;cases hb
         . simp only[List.mem_cons,List.not_mem_nil,or_false]at hb
           exact(hb.elim e3 e2).elim
 refine⟨a,C,dx,T',Hx,_,rfl,I2.os,I2.bare,I2.base,I2.hok,by rw[qg (Ne.symm nT),qg (Ne.symm nT0),qe],qe ..,?_,hxa,λb o nb q=>?_,hE⟩
 . cases e:Hx T' with
   | none=>rfl
   | some o=>
     have:=hx T' o nT e
     rw[hTn]at this
     cases this
 . have n1:b≠T:=λz=>by rw[z,hxT]at q;cases q
   have q':=hx b o nb q
   rw[qg (qk q' hTn),qg n1,qg nb]
   exact q'
end
section
variable {P:Program} {w:World} {K:PySem.W.Frag} {mg:Str->Option Value} {base:Heap}
theorem jQ.okL {x qual:Str} {st:Stmt} {f c:Addr} {fd:FuncData} {N ps:List Str} {k:Nat} {sp:Sp} (F:jQ K x qual st f fd) (hc:fd.code=.ref c) (S:qu N ps (ql st)) (len:∀vs H Q E,sp vs H Q E->vs.length=ps.length)
   (hbody:∀(A:Around) (outer:List Env) (s:Shared) (H:Hp) (vs:List V) (Q:VK) (E:XK),qI k (A.deeper (envOfC qual (ql st) s.heap.objs.size f (.ref c)))->sp vs H Q E->
     ∃t,zp (QE qN P w K mg base N qual (ql st) f (.ref c) A outer s H E).nox (qK st) t/\t {nx:=λ_ H'=>Q .non H',rt:=Q} (jp N vs) H):qo P w K mg base qN (k+1) f fd ps sp:=by
 obtain⟨oc,od,kV,doc,pm,an,cdv,ct,osl,rfl,lk,hcd⟩:=F.ex
 have hc':cdv=.ref c:=hc
 subst hc'
 refine W8 lk hcd S len λA outer s H vs Q E hr hsp=>?_
 obtain⟨t,h,q⟩:=hbody A outer s H vs Q E hr hsp
 exact⟨t,h.to.nox,q⟩
end
end L2
set_option Elab.async false
set_option linter.all false
set_option maxRecDepth 100000
set_option maxHeartbeats 4000000
namespace L2
open PySem PySem.Spec PySem.Builtin PySem.Builtin.Str PyProof.Rows
section
variable {X:Cx}
def Uu:List V->Hp->VK->Prop:=λxs H Q=>∃n:Int,xs=[.int n]/\-10^100 < n/\n < 10^100/\Q (.str (toString n)) H
theorem jr:Qr X (.type "str") Uu:=by
 intro pins s σ H xs us Q I r h
 obtain⟨n,rfl,h1,h2,q⟩:=h
 obtain⟨u,rfl,ru⟩:=QQ r
 obtain⟨t,rfl⟩:=ru
 exact P.str_of_int (shown (N:=10^100) h1 h2 (by decide+kernel)) ⟨.str _,H,I.tok _,⟨_,rfl⟩,q⟩
theorem Zs:∀(l:List (Str×Tok)),qy ((l.map (·.1)).map V.str) (strValues l)
 | []=>.nil
 | p::r=>.cons ⟨p.2,rfl⟩ (Zs r)
def UW:V->List V->Hp->VK->Prop:=λx xs H Q=>∃z y:Str,x=.str z/\xs=[.str y]/\(y.length==0)=false/\z.length<=1000/\∀l,H l=none->Q (.ref l) (qr H l (.lst ((Txt.split z y).map V.str)))
theorem J7:vC X "str.split" UW:=by
 intro pins s σ H x xs v us Q I rx rs h
 obtain⟨x,y,rfl,rfl,hy,hz,q⟩:=h
 obtain⟨t,rfl⟩:=rx
 obtain⟨w',rfl,rw'⟩:=QQ rs
 obtain⟨u,rfl⟩:=rw'
 have hz':x.length+2<=sizeLine:=by exact Nat.le_trans (Nat.add_le_add_right hz 2) (by decide+kernel)
 have fin:∀(l:List (Str×Tok)) (k:Tok),l.map (·.1)=Txt.split x y->EP X pins σ Q (.ref s.heap.objs.size) {s with heap:=s.heap.push {cls:=.type "list",data:=.seq (strValues l).toArray},toks:=k}:=λl k e=>by
   refine⟨.ref s.heap.objs.size,_,I.laid (t':=k) (o:=.lst ((Txt.split x y).map V.str)) (λb o e=>Heap.get?_push_of_some _ e) (Nat.le_refl _) ?_,rfl,q _ (I.hok.fresh (Nat.le_refl _))⟩
   refine⟨?_,strValues l,0,?_,Heap.get?_push_size _ rfl⟩
   . rw[List.length_map]
     have:=split_le x y
     omega
   . rw[<-e]
     exact Zs l
 have hn:(partsBetween x (occurrences x y 0 x.length (x.length+1)) y.length).length<=sizeLine:=by
   have e1:=StrLaws.occ_length_le x y 0 x.length (x.length+1)
   rw[length_partsBetween];omega
 cases h1:(decide (x.length < y.length) || decide (strKind x < strKind y))
 . cases hf:(occurrences x y 0 x.length (x.length+1)).isEmpty
   . refine call_meets F.slot_str_split (typeIs_str _ _ _) F.entry_str_split (F.args_str_split_2 _ _) (meets_str_split_sep x y t u h1 hy hf (by omega) hn) ?_
     show wants _ _ _ {s with toks:=_,heap:=s.heap.push {cls:=.type "list",data:=.seq (strsFrom s.toks (partsBetween x (occurrences x y 0 x.length (x.length+1)) y.length)).toArray}}
     rw[strsFrom_eq]
     exact fin (numbered s.toks _) _ ((numbered_texts _ _).trans ((if_neg (ne_true_of_eq_false h1)).trans (if_neg (ne_true_of_eq_false hf))).symm)
   . exact call_meets F.slot_str_split (typeIs_str _ _ _) F.entry_str_split (F.args_str_split_2 _ _) (meets_str_split_not_found x y t u h1 hy hf)
       (fin [(x,t)] s.toks ((if_neg (ne_true_of_eq_false h1)).trans (if_pos hf)).symm)
 . exact call_meets F.slot_str_split (typeIs_str _ _ _) F.entry_str_split (F.args_str_split_2 _ _) (meets_str_split_cannot_occur x y t u h1)
     (fin [(x,t)] s.toks (if_pos h1).symm)
def yC:V->Option Int->Option Int->Hp->VK->Prop:=λx lo hi H Q=>∃z:Str,x=.str z/\z.length<=1000/\Q (.str (Txt.slice z lo hi)) H
theorem Qs:yP X yC:=by
 intro pins s σ H x v vl vu lo hi sl Q I rx hs pl pu h
 obtain⟨z,rfl,hz,q⟩:=h
 obtain⟨t,rfl⟩:=rx
 refine⟨"str",_,PySem.F.slot_str_getitem.lookup,typeIs_str _ _ _,?_⟩
 have fin:∀l u:Option (Int×Tok),s.heap.IsSlice sl l u none->l.map (·.1)=lo->u.map (·.1)=hi->wpAny (model X.prog X.w) X.A (getItem (.str z t) (.ref sl)) (EP X pins σ Q) X.xe s:=λl u h1 e1 e2=>by
   subst e1 e2
   exact wpAny_getItem_str_slice (l:=l) (u:=u) (st:=none) h1 rfl (post_val_or_str ⟨Nat.le_trans (Txt.slice_le z _ _) (Nat.le_of_lt (qE hz)),λt' k=>⟨.str _,H,I.tok k,⟨t',rfl⟩,q⟩⟩)
 cases pl with
 | none=>
   cases pu with
   | none=>exact fin none none hs rfl rfl
   | int j u=>exact fin none (some (j,u)) hs rfl rfl
 | int i u'=>
   cases pu with
   | none=>exact fin (some (i,u')) none hs rfl rfl
   | int j u=>exact fin (some (i,u')) (some (j,u)) hs rfl rfl
end
theorem JB {a b:Str} (h:a.cps.toList=b.cps.toList):a=b:=Str.ext' (Array.toList_inj.mp h)
theorem Uf {c:Nat}:∀{a b r s:List Nat},c∉a->c∉b->a++c::r=b++c::s->a=b/\r=s:=by
 intro a
 induction a with
 | nil=>
   intro b r s _ hb e
   cases b with
   | nil=>exact⟨rfl,(List.cons.inj e).2⟩
   | cons y b=>exact absurd (by rw[(List.cons.inj e).1];exact List.mem_cons_self) hb
 | cons x a ih=>
   intro b r s ha hb e
   cases b with
   | nil=>exact absurd (by rw[<-(List.cons.inj e).1];exact List.mem_cons_self) ha
   | cons y b=>
     obtain⟨e1,e2⟩:=List.cons.inj e
     obtain⟨h1,h2⟩:=ih (λz=>ha (List.mem_cons_of_mem _ z)) (λz=>hb (List.mem_cons_of_mem _ z)) e2
     exact⟨by rw[e1,h1],h2⟩
theorem WT {c:Nat}:∀{xs ys:List Str},xs≠[]->ys≠[]->(∀x∈xs,c∉x.cps.toList)->(∀x∈ys,c∉x.cps.toList)->Str.join ⟨#[c]⟩ xs=Str.join ⟨#[c]⟩ ys->xs=ys:=by
 have cps:∀(x y:Str) (l:List Str),(Str.join ⟨#[c]⟩ (x::y::l)).cps.toList=x.cps.toList++c::(Str.join ⟨#[c]⟩ (y::l)).cps.toList:=λx y l=>by
   show ((x++⟨#[c]⟩)++Str.join ⟨#[c]⟩ (y::l)).cps.toList=_
   show ((x.cps++#[c])++(Str.join ⟨#[c]⟩ (y::l)).cps).toList=_
   simp
 intro xs
 induction xs with
 | nil=>intro ys h;exact absurd rfl h
 | cons x l ih=>
   intro ys _ hy fx fy e
   cases ys with
   | nil=>exact absurd rfl hy
   | cons y m=>
     cases l with
     | nil=>
       cases m with
       | nil=>rw[show x=y from e]
       | cons y2 m=>
         have:=congrArg (λs:Str=>s.cps.toList) e
         rw[cps y y2 m]at this
         exact absurd (show c∈x.cps.toList from by rw[show x.cps.toList=_ from this];simp) (fx x List.mem_cons_self)
     | cons x2 l=>
       cases m with
       | nil=>
         have:=congrArg (λs:Str=>s.cps.toList) e
         rw[cps x x2 l]at this
         exact absurd (show c∈y.cps.toList from by rw[show y.cps.toList=_ from this.symm];simp) (fy y List.mem_cons_self)
       | cons y2 m=>
         have:=congrArg (λs:Str=>s.cps.toList) e
         rw[cps x x2 l,cps y y2 m]at this
         obtain⟨h1,h2⟩:=Uf (fx x List.mem_cons_self) (fy y List.mem_cons_self) this
         rw[JB h1,ih (by simp) (by simp) (λz hz=>fx z (List.mem_cons_of_mem _ hz)) (λz hz=>fy z (List.mem_cons_of_mem _ hz)) (JB h2)]
theorem zy (x y:Str):Txt.split x y≠[]:=λz=>by
 have:=split_pos x y
 rw[z]at this
 exact absurd this (by decide)
theorem JV {c:Nat} {xs:List Str} (h:xs≠[]) (f:∀x∈xs,c∉x.cps.toList):Txt.split (Str.join ⟨#[c]⟩ xs) ⟨#[c]⟩=xs:=
 WT (zy _ _) h (StrLaws.split_free _ c) f (StrLaws.join_split _ _)
end L2
namespace Rb
def setN (ns:List Nat):Nat:=ns.foldl (λb n=>b ||| 2^n) 0
def memN (b n:Nat):List Nat:=(List.range n).filter λi=>b.testBit i
theorem mod2 (x:Nat):x % 2=(x.testBit 0).toNat:=by
 rw[Nat.testBit_zero]
 rcases Nat.mod_two_eq_zero_or_one x with h | h<;>simp [h]
theorem W7 (ns:List Nat):∀b k,(ns.foldl (λb n=>b ||| 2^n) b).testBit k=(b.testBit k || decide (k∈ns)):=by
 induction ns with
 | nil=>intro b k;simp
 | cons n ns ih=>
   intro b k
   rw[List.foldl_cons,ih,Nat.testBit_or,Nat.testBit_two_pow]
   by_cases h:n=k
   . subst h;simp
   . have h':¬k=n:=λe=>h e.symm
     simp [h,h']
theorem j4 (ns:List Nat) (k:Nat):(setN ns).testBit k=decide (k∈ns):=by
 unfold setN
 rw[W7]
 simp
theorem QZ {b n i:Nat}:i∈memN b n↔i < n/\b.testBit i=true:=by
 unfold memN
 simp
theorem Jo {b k m:Nat} (h:b < 2^m) (hk:m<=k):b.testBit k=false:=Nat.testBit_lt_two_pow (Nat.lt_of_lt_of_le h (Nat.pow_le_pow_right (by decide) hk))
theorem ZA {b m:Nat} (h:b < 2^m):∀n,m<=n->memN b n=memN b m:=by
 intro n hn
 obtain⟨k,rfl⟩:=Nat.le.dest hn
 unfold memN
 rw[List.range_add,List.filter_append]
 have e:((List.range k).map (m+·)).filter (λi=>b.testBit i)=[]:=by
   rw[List.filter_eq_nil_iff]
   intro i hi
   obtain⟨j,_,rfl⟩:=List.mem_map.mp hi
   rw[Jo h (Nat.le_add_right _ _)]
   simp
 rw[e,List.append_nil]
theorem memN_same {b m n:Nat} (hm:b < 2^m) (hn:b < 2^n):memN b n=memN b m:=by
 by_cases h:m<=n
 . exact ZA hm n h
 . exact(ZA hn m (by omega)).symm
theorem YL {ns:List Nat} {m:Nat} (h:∀x∈ns,x < m):setN ns < 2^m:=by
 refine Nat.lt_pow_two_of_testBit _ λi hi=>?_
 rw[j4]
 refine decide_eq_false λz=>?_
 have:=h i z
 omega
theorem JC {b m:Nat} (h:b < 2^m):setN (memN b m)=b:=by
 refine Nat.eq_of_testBit_eq λi=>?_
 rw[j4,Bool.eq_iff_iff,decide_eq_true_iff,QZ]
 constructor
 . exact λz=>z.2
 . intro z
   refine⟨?_,z⟩
   refine Decidable.byContradiction λhi=>?_
   rw[Jo h (by omega)]at z
   cases z
def hornN (ns:List Nat) (m:Nat):Nat->Nat
 | 0=>0
 | j+1=>2*hornN ns m j+(if (m - 1 - j)∈ns then 1 else 0)
theorem ZT (ns:List Nat) (m:Nat):∀j,j<=m->∀i,(hornN ns m j).testBit i=decide (i < j/\(m - j+i)∈ns):=by
 intro j
 induction j with
 | zero=>intro _ i;simp [hornN]
 | succ j ih=>
   intro hj i
   unfold hornN
   cases i with
   | zero=>
     rw[Nat.testBit_zero]
     have e:m - (j+1)+0=m - 1 - j:=by omega
     rw[e]
     by_cases h:(m - 1 - j)∈ns
     . rw[if_pos h]
       have:(2*hornN ns m j+1) % 2=1:=by omega
       simp [h,this]
     . rw[if_neg h]
       have:¬(2*hornN ns m j+0) % 2=1:=by omega
       simp [h]
   | succ i=>
     rw[Nat.testBit_succ]
     have e:(2*hornN ns m j+(if (m - 1 - j)∈ns then 1 else 0)) / 2=hornN ns m j:=by split<;>omega
     rw[e,ih (by omega) i]
     have e2:m - (j+1)+(i+1)=m - j+i:=by omega
     rw[e2]
     simp
theorem horn_set {ns:List Nat} {m:Nat} (h:∀x∈ns,x < m):hornN ns m m=setN ns:=by
 refine Nat.eq_of_testBit_eq λi=>?_
 rw[ZT ns m m (Nat.le_refl _),j4,Bool.eq_iff_iff,decide_eq_true_iff,decide_eq_true_iff,Nat.sub_self,Nat.zero_add]
 exact⟨λz=>z.2,λz=>⟨h i z,z⟩⟩
theorem memN_succ (b i:Nat):memN b (i+1)=memN b i++(if b.testBit i then [i] else []):=by
 unfold memN
 rw[List.range_succ,List.filter_append]
 congr 1
 by_cases h:b.testBit i=true
 . simp [h]
 . simp [h]
theorem testBit_div (b i:Nat):b.testBit i=decide (b / 2^i % 2=1):=by
 rw[Nat.testBit_eq_decide_div_mod_eq]
theorem setN_snoc (ns:List Nat) (n:Nat):setN (ns++[n])=setN ns ||| 2^n:=by unfold setN;rw[List.foldl_append];rfl
end Rb
namespace Rb
inductive W where
 | num (n:Nat)
 | edl (b:Nat)
deriving DecidableEq
def Vr:W->Prop
 | .num n=>n < 16
 | .edl b=>b < 65536
end Rb
set_option Elab.async false
set_option linter.all false
set_option maxRecDepth 100000
set_option maxHeartbeats 4000000
namespace Rh
open PySem L2
def top (i:Nat):Stmt:=PySem.Challenge.pw_ringheaps_k32_worths_told_and_read.main.body.getD i (.Pass ⟨0,0,0,0⟩)
abbrev Z3:Stmt:=top 2
abbrev Z4:Stmt:=top 3
abbrev j5:Stmt:=top 8
abbrev Qt:Stmt:=top 12
abbrev Jg:Stmt:=top 13
abbrev Yj:Stmt:=top 17
abbrev Zw:Stmt:=top 18
abbrev QX:Stmt:=top 19
abbrev YU:Stmt:=top 21
abbrev JF:Stmt:=top 22
abbrev Zv:Stmt:=top 23
abbrev zE:Stmt:=top 24
abbrev JZ:Stmt:=top 25
abbrev Wr:Stmt:=top 26
abbrev QW:Stmt:=top 27
abbrev Qf:Stmt:=top 28
abbrev ke:Stmt:=top 29
abbrev jI:Stmt:=top 30
abbrev Zp:Stmt:=top 31
abbrev Qg:Stmt:=jn (top 6) 0
abbrev J1:Stmt:=jn (top 15) 0
abbrev J0:Stmt:=jn (top 15) 1
abbrev Z5:Stmt:=jn (top 15) 2
abbrev YS:Stmt:=jn (top 15) 4
abbrev zD:Stmt:=jn (top 15) 5
abbrev J3:Stmt:=jn (top 16) 0
abbrev J2:Stmt:=jn (top 16) 1
abbrev Z6:Stmt:=jn (top 16) 2
abbrev YT:Stmt:=jn (top 16) 4
abbrev zF:Stmt:=jn (top 16) 5
end Rh
namespace Rh
open PySem L2 PyProof.Rows
structure jB (K:PySem.W.Frag) (mg:Str->Option Value) (x:Str) (st:Stmt) (ps:List Str) (f:Addr) (fd:FuncData):Prop where
 fn:jQ K x x st f fd
 ns:mg x=some (.ref f)
 bi:qX K fd ps []
theorem qR {X:Cx} {x:Str} {st:Stmt} {ps:List Str} {f:Addr} {fd:FuncData} {k:Nat} {sp:Sp} {e:Expr} {es:List Expr} {t:TA} {p pos:Pos} (h:jB X.K X.mg x st ps f fd) (G:qo X.prog X.w X.K X.mg X.base qN k f fd ps sp) (hr:qI k X.A)
   (hg:Gl X x) (ha:JA X (e::es) t) (hdb:(x==("__debug__":Str))=false:=by decide) (he:starEach (e::es) X.env=(false,eval e X.env)::starEach es X.env:=by rfl) (hpl:(backTo pos (starEach es X.env)).any (·.1)=false:=by rfl):
   JE X (.Call (.Name x p) (e::es) [] pos) (YE sp [] E0 t):=.of (YX G hr hg h.ns h.fn.kp h.bi .nil jJ ha.to hdb he hpl)
theorem zu {H:Hp} {b p:Addr} {o o':HO} (h:H b=some o) (hp:H p=none):qr H p o' b=some o:=by
 rw[qg (qk h hp)]
 exact h
theorem qm {H:Hp} {p:Addr} {o:HO} (hp:H p=none):Same H (qr H p o):=λb u h=>zu h hp
def jf (n s t:Int):List (qU×V):=[(Sum.inr "number",.int n),(Sum.inr "seed",.int s),(Sum.inr "turn",.int t)]
theorem nns:¬(Str.ofString "number")=Str.ofString "seed":=by decide+kernel
theorem yK:¬(Str.ofString "number")=Str.ofString "turn":=by decide+kernel
theorem yJ:¬(Str.ofString "seed")=Str.ofString "turn":=by decide+kernel
theorem nsn:¬(Str.ofString "seed")=Str.ofString "number":=by decide+kernel
theorem ntn:¬(Str.ofString "turn")=Str.ofString "number":=by decide+kernel
theorem nts:¬(Str.ofString "turn")=Str.ofString "seed":=by decide+kernel
theorem W1 {a b:Str} (h:¬a=b):¬(Sum.inr a:qU)=Sum.inr b:=λe=>h (Sum.inr.inj e)
section
variable {H:Hp} {d:Addr} {n s t:Int}
theorem gN (h:H d=some (.dK (jf n s t))):Zl H d (.str "number") (some (.int n)):=by
 have e:QR (jf n s t) (Sum.inr "number":qU)=some (.int n):=jV rfl
 have q:=Zl.k (k:=(Sum.inr "number":qU)) h
 rw[e]at q
 exact q
theorem gS (h:H d=some (.dK (jf n s t))):Zl H d (.str "seed") (some (.int s)):=by
 have e:QR (jf n s t) (Sum.inr "seed":qU)=some (.int s):=(jW (W1 nns)).trans (jV rfl)
 have q:=Zl.k (k:=(Sum.inr "seed":qU)) h
 rw[e]at q
 exact q
theorem gT (h:H d=some (.dK (jf n s t))):Zl H d (.str "turn") (some (.int t)):=by
 have e:QR (jf n s t) (Sum.inr "turn":qU)=some (.int t):=(jW (W1 yK)).trans ((jW (W1 yJ)).trans (jV rfl))
 have q:=Zl.k (k:=(Sum.inr "turn":qU)) h
 rw[e]at q
 exact q
theorem vY:(jf n s t).length < sizeLine:=qE (by show 3<=1000;decide)
theorem pN (h:H d=some (.dK (jf n s t))) (v:Int):z6 H d (.str "number") (.int v) (qr H d (.dK (jf v s t))):=by
 have e:jY (jf n s t) (Sum.inr "number":qU) (.int v)=jf v s t:=by
   unfold jY jf
   simp [nsn,ntn]
 have q:=z6.k (k:=(Sum.inr "number":qU)) (v:=.int v) h vY
 rw[e]at q
 exact q
theorem pT (h:H d=some (.dK (jf n s t))) (v:Int):z6 H d (.str "turn") (.int v) (qr H d (.dK (jf n s v))):=by
 have e:jY (jf n s t) (Sum.inr "turn":qU) (.int v)=jf n s v:=by
   unfold jY jf
   simp [yK,yJ]
 have q:=z6.k (k:=(Sum.inr "turn":qU)) (v:=.int v) h vY
 rw[e]at q
 exact q
end
def Ye:Sp:=λvs H Q _=>∃(d:Addr) (m n s t:Int),vs=[.ref d,.int m]/\H d=some (.dK (jf n s t))/\0 < m/\m < 1073741824/\∀r n' t',0<=r->r < m->Q (.int r) (qr H d (.dK (jf n' s t')))
def zA:Sp:=λvs H Q _=>∃c:Int,vs=[.int c]/\∀d n s,H d=none->Q (.ref d) (qr H d (.dK (jf n s 0)))
def Wl (K:PySem.W.Frag):Sp:=λvs H Q _=>∃(a:Addr) (ns:List Int) (k:Int),vs=[.ref a,.int k]/\SqL K H a (ns.map V.int)/\0<=k/\∀v,Q (.int v) H
section
variable {P:Program} {w:World} {K:PySem.W.Frag} {mg:Str->Option Value} {base:Heap}
theorem Z2:qu ["_law_source_here","_law_many","_law_digit","_law_number"] ["_law_source_here","_law_many"] (ql Zv):=⟨rfl,rfl,rfl,by decide+kernel,rfl,by decide+kernel,by decide+kernel⟩
theorem YY {f:Addr} {fd:FuncData} (F:jQ K "_law_take" "_law_take" Zv f fd):qo P w K mg base qN 1 f fd ["_law_source_here","_law_many"] Ye:=by
 refine F.okJ Z2 (λvs H Q E h=>?_) (λcdv A outer s H vs Q E hr h=>?_)
 . obtain⟨d,m,n,sd,t,rfl,_⟩:=h
   rfl
 . obtain⟨d,m,n,sd,t,rfl,hd,m0,m1,k⟩:=h
   have hu:=UB hr
   refine⟨_,qh (qJ (qC Uv (j8 hu (jv 0) qq (λ_ _=>rfl)) qj (qx _))
       (qh (qB (i:=2) Z2.nd rfl (Or.inl rfl) (qz Qi (j8 hu (jv 0) qq (λ_ _=>rfl)) (jv 1)))
       (qh (Y6 hu (jv 0) qq (qz Z7 (j8 hu (jv 0) qq (λ_ _=>rfl)) (jv 1)) rfl)
       (qi (qt (jv 2))))) qv)
     (qh (Y6 hu (jv 0) qq (qz jK (j8 hu (jv 0) qq (λ_ _=>rfl)) qj) rfl)
     (qh (qB (i:=3) Z2.nd rfl (Or.inl rfl) (qz Qi (qz QK (qz jK (j8 hu (jv 0) qq (λ_ _=>rfl)) (qz QK qj (j8 hu (jv 0) qq (λ_ _=>rfl)))) qj) qj))
     (qh (qB (i:=3) Z2.nd rfl (Or.inl rfl) (qz Qi (qz QK (jv 3) (jv 3)) qj))
     (qi (qt (qz Qi (qz Z7 (qz Qi (qz QK (qz jK (jv 3) (j8 hu (jv 0) qq (λ_ _=>rfl))) (qz jK (jv 3) qj)) qj) qj) (jv 1))))))),?_⟩
   refine⟨_,rfl,d,_,rfl,gN hd,_,_,rfl,rfl,_,rfl,?_⟩
   refine zQ (λ_=>?_) (λ_=>?_)
   . refine⟨_,rfl,d,_,rfl,gN hd,_,rfl,_,_,rfl,rfl,m0,?_⟩
     refine⟨_,rfl,d,_,rfl,gN hd,_,rfl,_,_,rfl,rfl,⟨m0,m1⟩,_,rfl,d,_,rfl,pN hd _,?_⟩
     exact⟨_,rfl,k _ _ _ (Int.emod_nonneg _ (by omega)) (Int.emod_lt_of_pos _ m0)⟩
   . refine⟨_,rfl,d,_,rfl,gT hd,_,_,rfl,rfl,_,rfl,d,_,rfl,pT hd _,?_⟩
     have h1:qr H d (.dK (jf n sd (t+1))) d=some (.dK (jf n sd (t+1))):=qe
     refine⟨_,rfl,d,_,rfl,gS h1,_,rfl,d,_,rfl,gT h1,_,_,rfl,rfl,.inl ⟨by decide,by decide⟩,_,_,rfl,rfl,_,_,rfl,rfl,.inr ⟨by decide,by decide⟩,_,_,rfl,rfl,(by show (0:Int) < 2147483647;decide),?_⟩
     generalize ha:((sd+7919*(t+1))*48271) % 2147483647=x
     have x0:0<=x:=by rw[<-ha];exact Int.emod_nonneg _ (by decide)
     have x1:x < 2147483647:=by rw[<-ha];exact Int.emod_lt_of_pos _ (by decide)
     refine⟨_,rfl,_,rfl,_,_,rfl,rfl,.inl ⟨by omega,by omega⟩,_,_,rfl,rfl,(by show (0:Int) < 2147483629;decide),?_⟩
     generalize hb:(x*x) % 2147483629=y
     have y0:0<=y:=by rw[<-hb];exact Int.emod_nonneg _ (by decide)
     have y1:y < 2147483629:=by rw[<-hb];exact Int.emod_lt_of_pos _ (by decide)
     refine⟨_,rfl,_,rfl,d,_,rfl,gT h1,_,_,rfl,rfl,_,rfl,_,_,rfl,rfl,_,_,rfl,rfl,.inr ⟨by omega,by omega⟩,_,_,rfl,rfl,(by show (0:Int) < 2147483587;decide),_,_,rfl,rfl,⟨by decide,by decide⟩,_,rfl,_,_,rfl,rfl,m0,?_⟩
     exact k _ _ _ (Int.emod_nonneg _ (by omega)) (Int.emod_lt_of_pos _ m0)
end
end Rh
namespace Rh
open PySem L2 PyProof.Rows
structure QA (mg:Str->Option Value):Prop where
 len:mg "len"=none
 max:mg "max"=none
 min:mg "min"=none
 int:mg "int"=none
 rng:mg "range"=none
theorem XD (n s t:Int):QL [] (jf n s t)=jf n s t:=by
 unfold QL jf
 simp only[List.foldl_cons,List.foldl_nil]
 unfold jY
 simp [nns,yK,yJ,nsn,ntn,nts]
section
variable {P:Program} {w:World} {K:PySem.W.Frag} {mg:Str->Option Value} {base:Heap}
theorem Wp:qu ["_law_cell"] ["_law_cell"] (ql JF):=⟨rfl,rfl,rfl,by decide+kernel,rfl,by decide+kernel,by decide+kernel⟩
theorem Xv {f:Addr} {fd:FuncData} (F:jQ K "_law_source" "_law_source" JF f fd) (B:QA mg):qo P w K mg base qN 1 f fd ["_law_cell"] zA:=by
 refine F.okJ Wp (λvs H Q E h=>?_) (λcdv A outer s H vs Q E hr h=>?_)
 . obtain⟨c,rfl,_⟩:=h
   rfl
 . obtain⟨c,rfl,k⟩:=h
   refine⟨_,qi (qt (V5
     (Zb qq (qz QK (qF (ZI rfl) (by rfl) B.max boot_max (qd qj (qd (jv 0) qf)))
       (qT Jn (by rfl) B.int boot_int (qd (qM ky (jv 0) (qz WA qj qj) (qx _)) qf)))
     (Zb qq (qz Qi (jv 0) qj) (Zb qq qj V2))) rfl rfl (by simp) (by decide))),?_⟩
   intro p hp
   refine⟨_,rfl,_,_,rfl,_,rfl,_,_,rfl,rfl,⟨by decide,by decide,by decide⟩,_,_,rfl,rfl,.inr ⟨_,rfl,_,_,rfl,rfl,.inr ?_,_,rfl,_,_,rfl,rfl,(by show (0:Int) < 2147483629;decide),?_⟩⟩
   . split<;>exact⟨by decide,by decide⟩
   . refine⟨qe,jf _ _ 0,rfl,(by show 3<=15;decide),?_⟩
     rw[XD,ZR]
     exact k p _ _ hp
theorem UU:qu ["_law_script","_law_k"] ["_law_script","_law_k"] (ql YU):=⟨rfl,rfl,rfl,by decide+kernel,rfl,by decide+kernel,by decide+kernel⟩
theorem VZ {f:Addr} {fd:FuncData} (F:jQ K "_law_cell_at" "_law_cell_at" YU f fd) (B:QA mg):qo P w K mg base qN 1 f fd ["_law_script","_law_k"] (Wl K):=by
 refine F.okJ UU (λvs H Q E h=>?_) (λcdv A outer s H vs Q E hr h=>?_)
 . obtain⟨a,ns,k,rfl,_⟩:=h
   rfl
 . obtain⟨a,ns,k,rfl,hS,k0,q⟩:=h
   refine⟨_,qh (qJ (qC kx (jv 1) (qF Ja (by rfl) B.len boot_len (qd (jv 0) qf)) (qx _))
       (qi (qt (jy jF (jv 0) (jv 1) (λ_ _=>rfl)))) qv)
     (qi (qt (qz jK (qz QK qj (jv 1)) qj))),?_⟩
   refine⟨_,rfl,_,rfl,a,_,rfl,.inl hS,_,_,rfl,rfl,_,rfl,?_⟩
   refine zQ (λh=>?_) (λ_=>?_)
   . have h1:k < ((ns.map V.int).length:Int):=of_decide_eq_true h
     rw[List.length_map]at h1
     have h2:k.toNat < ns.length:=by omega
     have h3:(ns.map V.int)[k.toNat]?=some (V.int ns[k.toNat]):=by rw[List.getElem?_map,List.getElem?_eq_getElem h2];rfl
     have h4:k=((k.toNat:Nat):Int):=by omega
     refine⟨_,rfl,_,rfl,a,_,k,V.int ns[k.toNat],rfl,rfl,hS,?_,q _⟩
     have h5:=Qy h3
     rw[<-h4]at h5
     exact h5
   . exact⟨_,rfl,_,_,rfl,rfl,.inl ⟨by decide,by decide⟩,_,_,rfl,rfl,q _⟩
end
end Rh
set_option Elab.async false
set_option linter.all false
set_option maxRecDepth 100000
set_option maxHeartbeats 4000000
namespace Rh
open PySem L2 PyProof.Rows
theorem Vh (x:Int):Builtin.bitNot (Builtin.bitNot x)=x:=by unfold Builtin.bitNot;omega
theorem bo (a b:Nat):Builtin.bitOr a b=((a ||| b:Nat):Int):=by
 have na:¬(0:Int)<=Builtin.bitNot a:=by unfold Builtin.bitNot;omega
 have nb:¬(0:Int)<=Builtin.bitNot b:=by unfold Builtin.bitNot;omega
 have e:Builtin.bitAnd (Builtin.bitNot a) (Builtin.bitNot b)=Builtin.bitNot (((Builtin.bitNot (Builtin.bitNot a)).toNat ||| (Builtin.bitNot (Builtin.bitNot b)).toNat:Nat):Int):=by
   unfold Builtin.bitAnd
   rw[decide_eq_false na,decide_eq_false nb]
 unfold Builtin.bitOr
 rw[e,Vh,Vh,Vh,Int.toNat_natCast,Int.toNat_natCast]
theorem ba (a b:Nat):Builtin.bitAnd a b=((a&&& b:Nat):Int):=by
 unfold Builtin.bitAnd
 rw[decide_eq_true (Int.natCast_nonneg a),decide_eq_true (Int.natCast_nonneg b)]
 rfl
def Ju (ns:List Nat):List V:=ns.map λn=>V.int (n:Nat)
theorem ze (ns:List Nat):(Ju ns).length=ns.length:=List.length_map ..
theorem V8 {ns:List Nat} {i:Nat} {x:V} (h:(Ju ns)[i]?=some x):∃n:Nat,ns[i]?=some n/\x=.int n:=by
 unfold Ju at h
 rw[List.getElem?_map]at h
 cases e:ns[i]? with
 | none=>rw[e]at h;cases h
 | some n=>rw[e]at h;exact⟨n,rfl,(Option.some.inj h).symm⟩
theorem Xl {ns:List Nat} {i n:Nat} (h:ns[i]?=some n):ns.take (i+1)=ns.take i++[n]:=by
 rw[List.take_add_one,h]
 rfl
theorem zR (ns:List Nat) (n:Nat):Ju ns++[V.int (n:Nat)]=Ju (ns++[n]):=by unfold Ju;rw[List.map_append];rfl
theorem zS (ns:List Nat):(Ju ns).all j9=true:=by
 unfold Ju
 rw[List.all_map]
 exact List.all_eq_true.mpr λ_ _=>rfl
theorem W2 (ns:List Nat) (n:Nat):X3 (.int (n:Nat)) (Ju ns)=decide (n∈ns):=by
 unfold X3 Ju
 rw[List.any_map,Bool.eq_iff_iff,List.any_eq_true,decide_eq_true_iff]
 constructor
 . rintro⟨y,hy,e⟩
   have e':((y:Int)==(n:Int))=true:=e
   have:y=n:=by
     have:=eq_of_beq e'
     omega
   exact this▸hy
 . intro h
   refine⟨n,h,?_⟩
   show ((n:Int)==(n:Int))=true
   simp
section
variable {P:Program} {w:World} {K:PySem.W.Frag} {mg:Str->Option Value} {base:Heap}
def YG (K:PySem.W.Frag):Sp:=λvs H Q _=>∃(a:Addr) (ns:List Nat),vs=[.ref a]/\SqL K H a (Ju ns)/\(∀x∈ns,x < 1000)/\Q (.int (Rb.setN ns:Nat)) H
def QT:Sp:=λvs H Q _=>∃b:Nat,vs=[.int b]/\b < 65536/\∀l,H l=none->Q (.ref l) (qr H l (.lst (Ju (Rb.memN b 16))))
theorem JD:qu ["numbers","bits","number"] ["numbers"] (ql Z3):=⟨rfl,rfl,rfl,by decide+kernel,rfl,by decide+kernel,by decide+kernel⟩
theorem WB {f:Addr} {fd:FuncData} (F:jQ K "set_of" "set_of" Z3 f fd):qo P w K mg base qN 1 f fd ["numbers"] (YG K):=by
 refine F.okJ JD (λvs H Q E h=>?_) (λcdv A outer s H vs Q E hr h=>?_)
 . obtain⟨a,ns,rfl,_⟩:=h
   rfl
 . obtain⟨a,ns,rfl,hS,hb,q⟩:=h
   refine⟨_,qh (qB (i:=1) JD.nd rfl (Or.inl rfl) qj)
     (qh (Ql PassesOwn.never rfl (jS (jv 0)) (qQ (i:=2) JD.nd rfl (Or.inl rfl)) (qi (qB (i:=1) JD.nd rfl (Or.inl rfl) (qz ku (jv 1) (qz U0 qj (jv 2))))))
     (qi (qt (jv 1)))),?_⟩
   refine⟨_,rfl,a,rfl,⟨_,hS⟩,?_⟩
   refine Q3 (K:=K) (a:=a) (xs:=Ju ns) (λi σ H'=>∃v,σ=[some (.ref a),some (.int ((Rb.setN (ns.take i):Nat):Int)),v]/\H'=H) ⟨none,rfl,rfl⟩ (λi σ H' _ ⟨_,_,e⟩=>e▸hS) ?_ ?_
   . rintro i x σ H' hx ⟨v,rfl,rfl⟩
     obtain⟨n,hn,rfl⟩:=V8 hx
     have n1:=hb n (List.mem_of_getElem? hn)
     have e1:(1:Int)*2^ ((n:Nat):Int).toNat=((2^n:Nat):Int):=by rw[Int.toNat_natCast,Int.one_mul];push_cast;rfl
     have e:((Rb.setN (ns.take (i+1)):Nat):Int)=Builtin.bitOr (Rb.setN (ns.take i):Nat) ((1:Int)*2^ ((n:Nat):Int).toNat):=by rw[e1,bo,Xl hn,Rb.setN_snoc]
     refine⟨_,rfl,_,rfl,_,_,rfl,rfl,⟨by omega,by omega,by decide⟩,_,_,rfl,rfl,some (.int n),?_,rfl⟩
     rw[e]
     rfl
   . rintro σ H' ⟨v,rfl,rfl⟩
     refine⟨_,rfl,?_⟩
     rw[ze,List.take_of_length_le (Nat.le_refl _)]
     exact q
theorem Ug (b:Nat):b < 2^ (Builtin.Int.intBits (b:Nat)):=by
 unfold Builtin.Int.intBits
 by_cases h:b=0
 . subst h;simp
 . rw[if_neg (by simpa using h)]
   exact Nat.lt_log2_self
theorem ZL {b:Nat} (h:b < 65536):Builtin.Int.intBits (b:Nat)<=16:=by
 unfold Builtin.Int.intBits
 by_cases h0:b=0
 . subst h0;simp
 . rw[if_neg (by simpa using h0)]
   have:b.log2 < 16:=(Nat.log2_lt h0).mpr h
   exact this
theorem VE (b i:Nat):Builtin.bitAnd ((b:Int) / 2^ ((i:Nat):Int).toNat) 1=(((b.testBit i).toNat:Nat):Int):=by
 have e1:(b:Int) / 2^ ((i:Nat):Int).toNat=((b / 2^i:Nat):Int):=by rw[Int.toNat_natCast];push_cast;rfl
 have e2:Builtin.bitAnd ((b / 2^i:Nat):Int) 1=(((b / 2^i)&&& 1:Nat):Int):=ba (b / 2^i) 1
 rw[e1,e2,Nat.and_one_is_mod,Rb.testBit_div]
 by_cases h:b / 2^i % 2=1
 . rw[h];rfl
 . have h':b / 2^i % 2=0:=by omega
   rw[h'];rfl
theorem VJ:qu ["bits"] ["bits"] (ql Z4):=⟨rfl,rfl,rfl,by decide+kernel,rfl,by decide+kernel,by decide+kernel⟩
theorem zI {f:Addr} {fd:FuncData} (F:jQ K "numbers_in" "numbers_in" Z4 f fd) (B:QA mg):qo P w K mg base qN 1 f fd ["bits"] QT:=by
 refine F.okJ VJ (λvs H Q E h=>?_) (λcdv A outer s H vs Q E hr h=>?_)
 . obtain⟨b,rfl,_⟩:=h
   rfl
 . obtain⟨b,rfl,hb,q⟩:=h
   refine⟨_,qi (qt (ZF (N':=["number","bits"]) (ix:=[none,some 0]) rfl ⟨rfl,rfl,rfl,rfl,rfl⟩
     (jG (by rfl) B.rng (qd (vr PySem.F.plainAttrs_int PySem.F.slot_int_bit_length PySem.F.type_int_bit_length XC (jv 0)) qf))
     (λC s2 H2 fp pins=>⟨qQ (i:=0) (show (["number","bits"]:List Str).Nodup by decide+kernel) rfl (Or.inl rfl),Y4 (qC jC (qz U5 (qz UZ (jv 1) (jv 0)) qj) qj (qx _)),jv 0⟩))),?_⟩
   refine⟨_,rfl,rfl,_,rfl,rfl,_,rfl,by omega,?_,λD hD=>?_⟩
   . have:=ZL hb
     omega
   . rw[Int.toNat_natCast]
     refine ZK (λi σ' H'=>∃v,σ'=[v,some (.int b)]/\H'=qr H D (.lst (Ju (Rb.memN b i)))) ⟨none,rfl,rfl⟩ ?_ ?_
     . rintro i σ' H' hi ⟨v,rfl,rfl⟩
       rw[Int.zero_add]
       refine⟨_,rfl,_,rfl,_,_,rfl,rfl,by omega,_,_,rfl,rfl,rfl,_,rfl,?_⟩
       have e:decide (V.int (Builtin.bitAnd ((b:Int) / 2^ ((i:Nat):Int).toNat) 1)=V.int 1)=b.testBit i:=by
         rw[VE]
         cases b.testBit i<;>decide
       rw[e]
       have l:(Ju (Rb.memN b i)).length < sizeLine:=by
         rw[ze]
         refine qE ?_
         have:=ZL hb
         have h1:(Rb.memN b i).length<=(List.range i).length:=List.length_filter_le _ _
         rw[List.length_range]at h1
         omega
       cases hb':b.testBit i with
       | true=>
         refine j3 ⟨_,rfl,_,qe,l,some (.int i),rfl,?_⟩
         rw[ZR,zR,Rb.memN_succ,hb']
         rfl
       | false=>
         refine jq ⟨some (.int i),rfl,?_⟩
         rw[Rb.memN_succ,hb']
         simp
     . rintro σ' H' ⟨v,rfl,rfl⟩
       rw[Rb.memN_same (m:=16) hb (Ug b)]
       exact q D hD
theorem YO:qu ["_law_bits","_law_found","_law_k"] ["_law_bits"] (ql zE):=⟨rfl,rfl,rfl,by decide+kernel,rfl,by decide+kernel,by decide+kernel⟩
theorem U6 {f:Addr} {fd:FuncData} (F:jQ K "_law_members" "_law_members" zE f fd) (B:QA mg):qo P w K mg base qN 1 f fd ["_law_bits"] QT:=by
 refine F.okJ YO (λvs H Q E h=>?_) (λcdv A outer s H vs Q E hr h=>?_)
 . obtain⟨b,rfl,_⟩:=h
   rfl
 . obtain⟨b,rfl,hb,q⟩:=h
   refine⟨_,qh (qB (i:=1) YO.nd rfl (Or.inl rfl) (jc qf))
     (qh (Ql PassesOwn.never rfl (jG (by rfl) B.rng (qd qj qf)) (qQ (i:=2) YO.nd rfl (Or.inl rfl))
       (qh (qJ (qC jC (qz Qi (jv 0) qj) qj (qx _)) (qi (Y5 (QI PySem.F.plainAttrs_list PySem.F.slot_list_append PySem.F.type_list_append Zz (jv 1) (qd (jv 2) qf)))) qv)
       (qi (qB (i:=0) YO.nd rfl (Or.inl rfl) (qz Z7 (jv 0) qj)))))
     (qi (qt (jv 1)))),?_⟩
   refine⟨by show 0<=sizeLine;decide,λl hl=>⟨16,rfl,by decide,by decide,?_⟩⟩
   refine Jl (lo:=0) (n:=16) (λi σ' H'=>∃v,σ'=[some (.int (b / 2^i:Nat)),some (.ref l),v]/\H'=qr H l (.lst (Ju (Rb.memN b i)))) ⟨none,by rw[Nat.pow_zero,Nat.div_one];rfl,rfl⟩ ?_ ?_
   . rintro i σ' H' hi ⟨v,rfl,rfl⟩
     rw[Int.zero_add]
     refine⟨_,rfl,_,_,rfl,rfl,(by show (0:Int) < 2;decide),rfl,_,rfl,?_⟩
     have e:decide (V.int (((b / 2^i:Nat):Int) % 2)=V.int 1)=b.testBit i:=by
       rw[Rb.testBit_div,Bool.eq_iff_iff]
       simp only[decide_eq_true_eq,V.int.injEq]
       omega
     have e2:((b / 2^i:Nat):Int) / 2=((b / 2^ (i+1):Nat):Int):=by
       rw[Nat.pow_succ,<-Nat.div_div_eq_div_mul]
       omega
     have l1:(Ju (Rb.memN b i)).length < sizeLine:=by
       rw[ze]
       refine qE ?_
       have h1:(Rb.memN b i).length<=(List.range i).length:=List.length_filter_le _ _
       rw[List.length_range]at h1
       omega
     rw[e]
     cases hb':b.testBit i with
     | true=>
       refine j3 ⟨_,rfl,.inl ⟨rfl,_,.of qe⟩,_,rfl,l,_,_,rfl,rfl,qe,l1,?_⟩
       refine⟨_,rfl,_,_,rfl,rfl,⟨by decide,by decide⟩,some (.int i),?_,?_⟩
       . rw[<-e2];rfl
       . rw[ZR,zR,Rb.memN_succ,hb']
         rfl
     | false=>
       refine jq ⟨_,rfl,_,_,rfl,rfl,⟨by decide,by decide⟩,some (.int i),?_,?_⟩
       . rw[<-e2];rfl
       . rw[Rb.memN_succ,hb']
         simp
   . rintro σ' H' ⟨v,rfl,rfl⟩
     exact⟨_,rfl,q l hl⟩
end
end Rh
set_option Elab.async false
set_option linter.all false
set_option maxRecDepth 100000
set_option maxHeartbeats 4000000
namespace Rh
open PySem L2 PyProof.Rows Rb
theorem ja {c:Bool} {A B:Prop} (hc:c=false) (h:B):if c=true then A else B:=by
 rw[hc]
 exact jq h
theorem jm {c:Bool} {A B:Prop} (hc:c=true) (h:A):if c=true then A else B:=by
 rw[if_pos hc]
 exact h
structure vN (K:PySem.W.Frag) (mg:Str->Option Value) (D:Addr) (x qual:Str) (st:Stmt) (fld:Str) (C f:Addr) (fd:FuncData):Prop where
 cls:Jz K C (.ref D::jw)
 mkr:kZ K C f (.ref D::jw)
 ns:mg x=some (.ref C)
 na:q5 K C fld
 fn:jQ K "__init__" qual st f fd
 bi:qX K fd ["self",fld] []
theorem yI (D:Addr):Yk (.ref D::jw):=rfl
theorem XE (D:Addr):(Value.ref D::jw).contains (.type "BaseException")=true:=rfl
theorem vN.rcls {K:PySem.W.Frag} {mg:Str->Option Value} {D C f:Addr} {x qual fld:Str} {st:Stmt} {fd:FuncData} (h:vN K mg D x qual st fld C f fd):vB K C:=⟨f,_,h.mkr,XE D⟩
def v5 (C:Addr) (fld:Str):Sp:=λvs H Q _=>∃e y,vs=[.ref e,y]/\H e=some (Jm e C)/\∀dx,H dx=none->Q .non (qr (qr H e (QD e C dx)) dx (.xd [(fld,y)]))
theorem js {H:Hp} {e dx C:Addr} {fs:List (Str×V)} (h1:H e=none) (h2:qr H e (Jm e C) dx=none):
   Same H (qr (qr (qr H e (Jm e C)) e (QD e C dx)) dx (.xd fs))/\qr (qr (qr H e (Jm e C)) e (QD e C dx)) dx (.xd fs) e=some (QD e C dx)/\qr (qr (qr H e (Jm e C)) e (QD e C dx)) dx (.xd fs) dx=some (.xd fs):=by
 have ne:e≠dx:=λz=>by rw[<-z,qe]at h2;cases h2
 refine⟨λb o hb=>?_,?_,qe⟩
 . have b1:b≠e:=qk hb h1
   have b2:b≠dx:=λz=>by rw[<-z,qg b1,hb]at h2;cases h2
   rw[qg b2,qg b1,qg b1];exact hb
 . rw[qg ne];exact qe
structure z4 (K:PySem.W.Frag) (C:Addr) (m qual:Str) (st:Stmt) (ps:List Str) (f:Addr) (fd:FuncData):Prop where
 fn:jQ K m qual st f fd
 me:XZ K C m f
 bi:qX K fd ps []
structure Cl (K:PySem.W.Frag) (mg:Str->Option Value) (x qual fld:Str) (st:Stmt) (C f:Addr) (fd:FuncData):Prop where
 cl:zr K C
 mkr:Mk K C f
 ns:mg x=some (.ref C)
 na:q5 K C fld
 fn:jQ K "__init__" qual st f fd
 bi:qX K fd ["self",fld] []
 ca:PySem.W.findIn K (.ref C) "__class__"=some (some (.builtin "object.__class__"))
 ob:PySem.W.mroIn K C (.type "object")=some true
structure Wk (K:PySem.W.Frag) (mg:Str->Option Value):Prop where
 isi:mg "isinstance"=none
 bool:mg "bool"=none
 kii:PySem.W.kitOne K (.type "int") (.type "int")=some true
 kib:PySem.W.kitOne K (.type "int") (.type "bool")=some false
 most:∃t,mg "MOST_NUMBER"=some (.int 15 t)
 mset:∃t,mg "MOST_BITS"=some (.int 65535 t)
theorem Uw {f:Str} {v:V}:[(f,v)].lookup f=some v:=by simp [List.lookup]
theorem kO {X:Cx} {C f:Addr} {fd:FuncData} {m qual:Str} {st:Stmt} {ps:List Str} {k:Nat} {sp:Sp} {o:Expr} {ta:TE} {apos pos:Pos} {pl:Sem Bool} (h:z4 X.K C m qual st ps f fd) (c:zr X.K C) (G:qo X.prog X.w X.K X.mg X.base qN k f fd ps sp) (hr:qI k X.A) (he:JE X o ta)
   (ht:eval (.Call (.Attribute o m apos) [] [] pos) X.env=(do
     let ov <-eval o X.env
     standAt apos.atName
     let (f,first) <-holding [ov] (getMethod ov m pl)
     callWith pos f first (backTo pos (starEach [] X.env)) (backToKw pos (keywordEach [] X.env))):=by rfl):
   JE X (.Call (.Attribute o m apos) [] [] pos) (Wa C m sp [] E0 ta zw):=WW he c h.me G hr h.bi .nil jJ ht
def Jb (CN CE:Addr) (H:Hp) (a:Addr):W->Prop
 | .num n=>∃dx,H a=some (.ins CN dx [("number",.int (n:Nat))])
 | .edl b=>∃dx,H a=some (.ins CE dx [("bits",.int (b:Nat))])
theorem Jb.same {CN CE:Addr} {H H':Hp} {a:Addr} {w:W} (h:Jb CN CE H a w) (s:Same H H'):Jb CN CE H' a w:=by
 cases w with
 | num n=>obtain⟨dx,e⟩:=h;exact⟨dx,s _ _ e⟩
 | edl b=>obtain⟨dx,e⟩:=h;exact⟨dx,s _ _ e⟩
def qY:W->Str
 | .num _=>"number"
 | .edl _=>"endless"
def je:W->Nat
 | .num n=>n
 | .edl b=>b
def UG (H:Hp) (p:Addr) (w:W):Prop:=H p=some (.tup [.str (qY w),.int (je w:Nat)])
section
variable {P:Program} {w:World} {K:PySem.W.Frag} {mg:Str->Option Value} {base:Heap}
def JX:Sp:=λvs H Q _=>∃i:Int,vs=[.int i]/\Q (.bl true) H
def zB:Sp:=λvs H Q _=>∃i:Int,vs=[.int i]/\0<=i/\i<=15/\Q (.bl true) H
def YI:Sp:=λvs H Q _=>∃i:Int,vs=[.int i]/\0<=i/\i<=65535/\Q (.bl true) H
theorem YM:qu ["thing"] ["thing"] (ql j5):=⟨rfl,rfl,rfl,by decide+kernel,rfl,by decide+kernel,by decide+kernel⟩
theorem zH {f:Addr} {fd:FuncData} (F:jQ K "is_whole" "is_whole" j5 f fd) (B:QA mg) (T:Wk K mg):qo P w K mg base qN 1 f fd ["thing"] JX:=by
 refine F.okJ YM (λvs H Q E h=>?_) (λcdv A outer s H vs Q E hr h=>?_)
 . obtain⟨i,rfl,_⟩:=h
   rfl
 . obtain⟨i,rfl,q⟩:=h
   refine⟨_,qi (qt (jA (qF qG (by rfl) T.isi boot_isinstance (qd (jv 0) (qd (jE (v:=.ty "int") (by rfl) B.int boot_int rfl) qf)))
     (Qm (Yt (qF qG (by rfl) T.isi boot_isinstance (qd (jv 0) (qd (jE (v:=.ty "bool") (by rfl) T.bool boot_bool rfl) qf))))))),?_⟩
   exact⟨_,rfl,_,_,_,_,rfl,rfl,.int i,T.kii,_,rfl,j3 ⟨_,rfl,_,_,_,_,rfl,rfl,.int i,T.kib,_,rfl,q⟩⟩
theorem zC:qu ["thing"] ["thing"] (ql Qt):=⟨rfl,rfl,rfl,by decide+kernel,rfl,by decide+kernel,by decide+kernel⟩
theorem Xw {f fW:Addr} {fd fdW:FuncData} (F:jQ K "is_number" "is_number" Qt f fd) (B:QA mg) (T:Wk K mg) (hW:jB K mg "is_whole" j5 ["thing"] fW fdW):qo P w K mg base qN 2 f fd ["thing"] zB:=by
 have GW:qo P w K mg base qN 1 fW fdW ["thing"] JX:=zH hW.fn B T
 obtain⟨t,hm⟩:=T.most
 refine F.okJ zC (λvs H Q E h=>?_) (λcdv A outer s H vs Q E hr h=>?_)
 . obtain⟨i,rfl,_⟩:=h
   rfl
 . obtain⟨i,rfl,h0,h1,q⟩:=h
   refine⟨_,qi (qt (jA (qR hW GW hr (by rfl) (qd (jv 0) qf)) (jA (qM Jp qj (jv 0) (qx _)) (Qm (qM Jp (jv 0) (jD (v:=.int 15) (by rfl) hm ⟨_,rfl⟩) (qx _)))))),?_⟩
   refine⟨_,rfl,i,rfl,_,rfl,j3 ⟨_,rfl,_,_,rfl,rfl,_,rfl,?_⟩⟩
   rw[decide_eq_true h0]
   refine j3 ⟨_,rfl,_,_,rfl,rfl,?_⟩
   have e:decide (i<=15)=true:=decide_eq_true h1
   show Q (.bl (decide (i<=15))) H
   rw[e]
   exact q
theorem YQ:qu ["thing"] ["thing"] (ql Jg):=⟨rfl,rfl,rfl,by decide+kernel,rfl,by decide+kernel,by decide+kernel⟩
theorem WH {f fW:Addr} {fd fdW:FuncData} (F:jQ K "is_set" "is_set" Jg f fd) (B:QA mg) (T:Wk K mg) (hW:jB K mg "is_whole" j5 ["thing"] fW fdW):qo P w K mg base qN 2 f fd ["thing"] YI:=by
 have GW:qo P w K mg base qN 1 fW fdW ["thing"] JX:=zH hW.fn B T
 obtain⟨t,hm⟩:=T.mset
 refine F.okJ YQ (λvs H Q E h=>?_) (λcdv A outer s H vs Q E hr h=>?_)
 . obtain⟨i,rfl,_⟩:=h
   rfl
 . obtain⟨i,rfl,h0,h1,q⟩:=h
   refine⟨_,qi (qt (jA (qR hW GW hr (by rfl) (qd (jv 0) qf)) (jA (qM Jp qj (jv 0) (qx _)) (Qm (qM Jp (jv 0) (jD (v:=.int 65535) (by rfl) hm ⟨_,rfl⟩) (qx _)))))),?_⟩
   refine⟨_,rfl,i,rfl,_,rfl,j3 ⟨_,rfl,_,_,rfl,rfl,_,rfl,?_⟩⟩
   rw[decide_eq_true h0]
   refine j3 ⟨_,rfl,_,_,rfl,rfl,?_⟩
   have e:decide (i<=65535)=true:=decide_eq_true h1
   show Q (.bl (decide (i<=65535))) H
   rw[e]
   exact q
def Qe (C:Addr) (fld:Str) (hi:Int):Sp:=λvs H Q _=>∃(x dx:Addr) (n:Int),vs=[.ref x,.int n]/\0<=n/\n<=hi/\H x=some (.ins C dx [])/\Q .non (qr H x (.ins C dx [(fld,.int n)]))
theorem YN:qu ["self","number"] ["self","number"] (ql J1):=⟨rfl,rfl,rfl,by decide+kernel,rfl,by decide+kernel,by decide+kernel⟩
theorem WG {f fB fW CN:Addr} {fd fdB fdW:FuncData} (F:jQ K "__init__" "Numbered.__init__" J1 f fd) (B:QA mg) (T:Wk K mg) (hW:jB K mg "is_whole" j5 ["thing"] fW fdW) (hB:jB K mg "is_number" Qt ["thing"] fB fdB) (cl:zr K CN) (na:q5 K CN "number"):
   qo P w K mg base qN 3 f fd ["self","number"] (Qe CN "number" 15):=by
 have GB:qo P w K mg base qN 2 fB fdB ["thing"] zB:=Xw hB.fn B T hW
 refine F.okJ YN (λvs H Q E h=>?_) (λcdv A outer s H vs Q E hr h=>?_)
 . obtain⟨x,dx,n,rfl,_⟩:=h
   rfl
 . obtain⟨x,dx,n,rfl,h0,h1,hx,q⟩:=h
   refine⟨_,qh (qJ (jh (qZ (qR hB GB hr (by rfl) (qd (jv 1) qf)))) qS qv) (qi (WS (jv 0) (jv 1) rfl)),?_⟩
   exact⟨_,rfl,n,rfl,h0,h1,_,rfl,jq ⟨_,rfl,_,rfl,x,CN,dx,[],rfl,hx,cl,na,by decide,q⟩⟩
theorem YR:qu ["self","bits"] ["self","bits"] (ql J3):=⟨rfl,rfl,rfl,by decide+kernel,rfl,by decide+kernel,by decide+kernel⟩
theorem WJ {f fB fW CE:Addr} {fd fdB fdW:FuncData} (F:jQ K "__init__" "Endless.__init__" J3 f fd) (B:QA mg) (T:Wk K mg) (hW:jB K mg "is_whole" j5 ["thing"] fW fdW) (hB:jB K mg "is_set" Jg ["thing"] fB fdB) (cl:zr K CE) (na:q5 K CE "bits"):
   qo P w K mg base qN 3 f fd ["self","bits"] (Qe CE "bits" 65535):=by
 have GB:qo P w K mg base qN 2 fB fdB ["thing"] YI:=WH hB.fn B T hW
 refine F.okJ YR (λvs H Q E h=>?_) (λcdv A outer s H vs Q E hr h=>?_)
 . obtain⟨x,dx,n,rfl,_⟩:=h
   rfl
 . obtain⟨x,dx,n,rfl,h0,h1,hx,q⟩:=h
   refine⟨_,qh (qJ (jh (qZ (qR hB GB hr (by rfl) (qd (jv 1) qf)))) qS qv) (qi (WS (jv 0) (jv 1) rfl)),?_⟩
   exact⟨_,rfl,n,rfl,h0,h1,_,rfl,jq ⟨_,rfl,_,rfl,x,CE,dx,[],rfl,hx,cl,na,by decide,q⟩⟩
def YF (CN CE:Addr):Sp:=λvs H Q _=>∃a w,vs=[.ref a]/\Jb CN CE H a w/\∀p,H p=none->Q (.ref p) (qr H p (.tup [.str (qY w),.int (je w:Nat)]))
def ZX (CN CE:Addr):Sp:=λvs H Q E=>(∃a n,vs=[.ref a]/\Jb CN CE H a (.num n))/\YF CN CE vs H Q E
def ZY (CN CE:Addr):Sp:=λvs H Q E=>(∃a b,vs=[.ref a]/\Jb CN CE H a (.edl b))/\YF CN CE vs H Q E
theorem Jb.inj {CN CE:Addr} (hne:CN≠CE) {H:Hp} {a:Addr} {u v:W} (h:Jb CN CE H a u) (g:Jb CN CE H a v):u=v:=by
 cases u<;>cases v<;>obtain⟨dx,e⟩:=h<;>obtain⟨dx',e'⟩:=g<;>rw[e]at e'
 . have:=(HO.ins.inj (Option.some.inj e')).2.2
   have h3:=List.cons.inj this
   have h4:=V.int.inj (Prod.mk.inj h3.1).2
   congr 1
   omega
 . exact absurd (HO.ins.inj (Option.some.inj e')).1 hne
 . exact absurd (HO.ins.inj (Option.some.inj e')).1 (Ne.symm hne)
 . have:=(HO.ins.inj (Option.some.inj e')).2.2
   have h3:=List.cons.inj this
   have h4:=V.int.inj (Prod.mk.inj h3.1).2
   congr 1
   omega
theorem VL:qu ["self"] ["self"] (ql J0):=⟨rfl,rfl,rfl,by decide+kernel,rfl,by decide+kernel,by decide+kernel⟩
theorem WE {f CN CE:Addr} {fd:FuncData} (F:jQ K "told" "Numbered.told" J0 f fd) (cl:zr K CN) (na:q5 K CN "number") (hne:CN≠CE):qo P w K mg base qN 1 f fd ["self"] (ZX CN CE):=by
 refine F.okJ VL (λvs H Q E h=>?_) (λcdv A outer s H vs Q E hr h=>?_)
 . obtain⟨_,a,w,rfl,_⟩:=h
   rfl
 . obtain⟨⟨a,n,rfl,hN⟩,a',w,e,hw,q⟩:=h
   cases e
   have ew:=Jb.inj hne hw hN
   subst ew
   obtain⟨dx,hx⟩:=hN
   refine⟨_,qi (qt (jM (qd qq (qd (Qo (jv 0) rfl) qf)))),?_⟩
   exact⟨_,rfl,a,CN,dx,_,_,rfl,hx,cl,na,Uw,by show 2<=sizeLine;decide,q⟩
theorem VN:qu ["self"] ["self"] (ql J2):=⟨rfl,rfl,rfl,by decide+kernel,rfl,by decide+kernel,by decide+kernel⟩
theorem WI {f CN CE:Addr} {fd:FuncData} (F:jQ K "told" "Endless.told" J2 f fd) (cl:zr K CE) (na:q5 K CE "bits") (hne:CN≠CE):qo P w K mg base qN 1 f fd ["self"] (ZY CN CE):=by
 refine F.okJ VN (λvs H Q E h=>?_) (λcdv A outer s H vs Q E hr h=>?_)
 . obtain⟨_,a,w,rfl,_⟩:=h
   rfl
 . obtain⟨⟨a,b,rfl,hN⟩,a',w,e,hw,q⟩:=h
   cases e
   have ew:=Jb.inj hne hw hN
   subst ew
   obtain⟨dx,hx⟩:=hN
   refine⟨_,qi (qt (jM (qd qq (qd (Qo (jv 0) rfl) qf)))),?_⟩
   exact⟨_,rfl,a,CE,dx,_,_,rfl,hx,cl,na,Uw,by show 2<=sizeLine;decide,q⟩
def Xm (b:Bool):Sp:=λvs H Q _=>∃a,vs=[.ref a]/\Q (.bl b) H
theorem UQ:qu ["self"] ["self"] (ql zD):=⟨rfl,rfl,rfl,by decide+kernel,rfl,by decide+kernel,by decide+kernel⟩
theorem VX {f:Addr} {fd:FuncData} (F:jQ K "is_endless" "Numbered.is_endless" zD f fd):qo P w K mg base qN 1 f fd ["self"] (Xm false):=by
 refine F.okJ UQ (λvs H Q E h=>?_) (λcdv A outer s H vs Q E hr h=>?_)
 . obtain⟨a,rfl,_⟩:=h
   rfl
 . obtain⟨a,rfl,q⟩:=h
   exact⟨_,qi (qt QJ),q⟩
theorem UT:qu ["self"] ["self"] (ql zF):=⟨rfl,rfl,rfl,by decide+kernel,rfl,by decide+kernel,by decide+kernel⟩
theorem VY {f:Addr} {fd:FuncData} (F:jQ K "is_endless" "Endless.is_endless" zF f fd):qo P w K mg base qN 1 f fd ["self"] (Xm true):=by
 refine F.okJ UT (λvs H Q E h=>?_) (λcdv A outer s H vs Q E hr h=>?_)
 . obtain⟨a,rfl,_⟩:=h
   rfl
 . obtain⟨a,rfl,q⟩:=h
   exact⟨_,qi (qt QJ),q⟩
end
structure WF (K:PySem.W.Frag) (mg:Str->Option Value) where
 (CN CE CW CX D fNI fEI fXI fNT fET fNS fES fNO fEO fNE fEE fW fB fS fN fO:Addr)
 (dNI dEI dXI dNT dET dNS dES dNO dEO dNE dEE dW dB dS dN dO:FuncData)
 ne:CN≠CE
 cN:Cl K mg "Numbered" "Numbered.__init__" "number" J1 CN fNI dNI
 cE:Cl K mg "Endless" "Endless.__init__" "bits" J3 CE fEI dEI
 xW:vN K mg D "NoWorth" "NoWorth.__init__" Qg "found" CX fXI dXI
 nT:z4 K CN "told" "Numbered.told" J0 ["self"] fNT dNT
 eT:z4 K CE "told" "Endless.told" J2 ["self"] fET dET
 nS:z4 K CN "text" "Numbered.text" Z5 ["self"] fNS dNS
 eS:z4 K CE "text" "Endless.text" Z6 ["self"] fES dES
 nO:z4 K CN "outcome" "Numbered.outcome" YS ["self"] fNO dNO
 eO:z4 K CE "outcome" "Endless.outcome" YT ["self"] fEO dEO
 nE:z4 K CN "is_endless" "Numbered.is_endless" zD ["self"] fNE dNE
 eE:z4 K CE "is_endless" "Endless.is_endless" zF ["self"] fEE dEE
 hW:jB K mg "is_whole" j5 ["thing"] fW dW
 hB:jB K mg "is_number" Qt ["thing"] fB dB
 hS:jB K mg "is_set" Jg ["thing"] fS dS
 hN:jB K mg "numbers_in" Z4 ["bits"] fN dN
 hO:jB K mg "set_of" Z3 ["numbers"] fO dO
 str:mg "str"=none
 all:mg "all"=none
 kbi:PySem.W.kitOne K (.type "bool") (.type "int")=some true
 kbb:PySem.W.kitOne K (.type "bool") (.type "bool")=some true
 kss:PySem.W.kitOne K (.type "str") (.type "str")=some true
def Zn:W->Bool
 | .num _=>false
 | .edl _=>true
def jO (n:Nat):Str:=Str.ofString (toString ((n:Nat):Int))
def QC:List Str:=(List.range 16).map jO
theorem zT:∀n,n < 16->32∉(jO n).cps.toList:=by decide+kernel
theorem Q7:∀n,n < 16->(jO n).length<=2:=by decide+kernel
theorem Q8:∀m,m < 16->∀n,n < 16->jO m=jO n->m=n:=by decide+kernel
theorem Q5 {n:Nat} (h:n < 16):QC[n]?=some (jO n):=by
 unfold QC
 rw[List.getElem?_map,List.getElem?_range h]
 rfl
theorem Q0 {z:Str}:z∈QC↔∃n,n < 16/\z=jO n:=by
 unfold QC
 rw[List.mem_map]
 constructor
 . rintro⟨n,hn,rfl⟩;exact⟨n,List.mem_range.mp hn,rfl⟩
 . rintro⟨n,hn,rfl⟩;exact⟨n,List.mem_range.mpr hn,rfl⟩
def Ze:Str:=Str.ofString "endless"
def ji (ns:List Nat):Str:=Str.join ⟨#[32]⟩ (Ze::ns.map jO)
def Jd:W->Str
 | .num n=>jO n
 | .edl b=>ji (memN b 16)
theorem ju (b:Nat):∀n∈memN b 16,n < 16:=λn h=>(QZ.mp h).1
theorem jL (b:Nat):(memN b 16).length<=16:=by
 have h1:(memN b 16).length<=(List.range 16).length:=List.length_filter_le _ _
 rw[List.length_range]at h1
 exact h1
theorem zx:∀(ns:List Nat),(∀n∈ns,n < 16)->((ns.map jO).map (·.length)).sum<=2*ns.length:=by
 intro ns
 induction ns with
 | nil=>intro _;exact Nat.zero_le _
 | cons n ns ih=>
   intro h
   have h1:=Q7 n (h n List.mem_cons_self)
   have h2:=ih λm hm=>h m (List.mem_cons_of_mem _ hm)
   simp only[List.map_cons,List.sum_cons,List.length_cons]
   omega
theorem ZD {ns:List Nat} (h:∀n∈ns,n < 16) (hl:ns.length<=16):(ji ns).length<=60:=by
 have h1:=StrLaws.join_length_le ⟨#[32]⟩ (Ze::ns.map jO)
 have h2:=zx ns h
 have e:Ze.length=7:=by decide+kernel
 simp only[List.map_cons,List.sum_cons,List.length_cons,List.length_map,e]at h1
 have e1:(⟨#[32]⟩:Str).length=1:=rfl
 rw[e1]at h1
 unfold ji
 omega
theorem Vw {u:W} (h:Vr u):(Jd u).length<=60:=by
 cases u with
 | num n=>exact Nat.le_trans (Q7 n h) (by decide)
 | edl b=>exact ZD (ju b) (jL b)
theorem jx {ns:List Nat} (h:∀n∈ns,n < 16):Txt.split (ji ns) ⟨#[32]⟩=Ze::ns.map jO:=by
 refine JV (by simp) λx hx=>?_
 rcases List.mem_cons.mp hx with rfl | hx
 . decide+kernel
 . obtain⟨n,hn,rfl⟩:=List.mem_map.mp hx
   exact zT n (h n hn)
theorem Q6 {n:Nat} {ns:List Nat} (hn:n < 16) (h:∀m∈ns,m < 16):jO n≠ji ns:=λe=>by
 have h1:=jx h
 rw[<-e]at h1
 have h2:Txt.split (jO n) ⟨#[32]⟩=[jO n]:=JV (xs:=[jO n]) (by simp) λx hx=>by
   rw[List.mem_singleton.mp hx];exact zT n hn
 rw[h2]at h1
 have h3:=(List.cons.inj h1).1
 have h4:=Q7 n hn
 rw[h3]at h4
 exact absurd h4 (by decide+kernel)
theorem Jr:∀{ms ns:List Nat},(∀m∈ms,m < 16)->(∀n∈ns,n < 16)->ms.map jO=ns.map jO->ms=ns:=by
 intro ms
 induction ms with
 | nil=>intro ns _ _ e;cases ns with
   | nil=>rfl
   | cons n ns=>cases e
 | cons m ms ih=>
   intro ns h1 h2 e
   cases ns with
   | nil=>cases e
   | cons n ns=>
     obtain⟨e1,e2⟩:=List.cons.inj e
     rw[Q8 m (h1 m List.mem_cons_self) n (h2 n List.mem_cons_self) e1,ih (λx hx=>h1 x (List.mem_cons_of_mem _ hx)) (λx hx=>h2 x (List.mem_cons_of_mem _ hx)) e2]
theorem XI {ms ns:List Nat} (h1:∀m∈ms,m < 16) (h2:∀n∈ns,n < 16) (e:ji ms=ji ns):ms=ns:=by
 have h3:=jx h1
 rw[e,jx h2]at h3
 exact(Jr h2 h1 (List.cons.inj h3).2).symm
def X1 (z:Str):Option W->Prop
 | some u=>Vr u/\z=Jd u
 | none=>∀u,Vr u->z≠Jd u
def Jc (K:PySem.W.Frag) (H:Hp) (hi:Int) (v:V):Prop:=(∃i:Int,v=.int i/\(i < 0\/hi < i))\/(∃b,v=.bl b)\/∃t,TyOf K H v t/\PySem.W.kitOne K t (.type "int")=some false
theorem Zc (z:Str) (l:List Str):X3 (.str z) (l.map V.str)=decide (z∈l):=by
 unfold X3
 rw[List.any_map,Bool.eq_iff_iff,List.any_eq_true,decide_eq_true_iff]
 constructor
 . rintro⟨y,hy,e⟩
   have e':(y==z)=true:=e
   exact eq_of_beq e'▸hy
 . intro h
   exact⟨z,h,beq_self_eq_true z⟩
theorem Jf (l:List Str):(l.map V.str).all j9=true:=by
 rw[List.all_map]
 exact List.all_eq_true.mpr λ_ _=>rfl
section
variable {P:Program} {w:World} {K:PySem.W.Frag} {mg:Str->Option Value} {base:Heap}
theorem WF.gNI (h:WF K mg) (B:QA mg) (T:Wk K mg):qo P w K mg base qN 3 h.fNI h.dNI ["self","number"] (Qe h.CN "number" 15):=WG h.cN.fn B T h.hW h.hB h.cN.cl h.cN.na
theorem WF.gEI (h:WF K mg) (B:QA mg) (T:Wk K mg):qo P w K mg base qN 3 h.fEI h.dEI ["self","bits"] (Qe h.CE "bits" 65535):=WJ h.cE.fn B T h.hW h.hS h.cE.cl h.cE.na
theorem WF.gNT (h:WF K mg):qo P w K mg base qN 1 h.fNT h.dNT ["self"] (ZX h.CN h.CE):=WE h.nT.fn h.cN.cl h.cN.na h.ne
theorem WF.gET (h:WF K mg):qo P w K mg base qN 1 h.fET h.dET ["self"] (ZY h.CN h.CE):=WI h.eT.fn h.cE.cl h.cE.na h.ne
theorem WF.gNE (h:WF K mg):qo P w K mg base qN 1 h.fNE h.dNE ["self"] (Xm false):=VX h.nE.fn
theorem WF.gEE (h:WF K mg):qo P w K mg base qN 1 h.fEE h.dEE ["self"] (Xm true):=VY h.eE.fn
theorem yu:qu ["self","found"] ["self","found"] (ql Qg):=⟨rfl,rfl,rfl,by decide+kernel,rfl,by decide+kernel,by decide+kernel⟩
theorem Qu {D C f:Addr} {fd:FuncData} (x:vN K mg D "NoWorth" "NoWorth.__init__" Qg "found" C f fd):qo P w K mg base qN 1 f fd ["self","found"] (v5 C "found"):=by
 refine x.fn.okJ yu (λvs H Q E h=>?_) (λcdv A outer s H vs Q E hr h=>?_)
 . obtain⟨e,y,rfl,_⟩:=h
   rfl
 . obtain⟨e,y,rfl,hH,k⟩:=h
   exact⟨_,qi (vo (bm:=.ref D::jw) (jv 0) (jv 1) rfl),_,rfl,_,rfl,e,C,rfl,hH,x.cls,yI D,x.na,λdx hdx=>k dx hdx⟩
def UN (K:PySem.W.Frag):Sp:=λvs H Q _=>∃v,vs=[v]/\((∃i:Int,v=.int i/\Q (.bl true) H)\/(((∃b,v=.bl b)\/∃t,TyOf K H v t/\PySem.W.kitOne K t (.type "int")=some false)/\Q (.bl false) H))
theorem Zy {f:Addr} {fd:FuncData} (F:jQ K "is_whole" "is_whole" j5 f fd) (B:QA mg) (T:Wk K mg) (h:WF K mg):qo P w K mg base qN 1 f fd ["thing"] (UN K):=by
 refine F.okJ YM (λvs H Q E h=>?_) (λcdv A outer s H vs Q E hr z=>?_)
 . obtain⟨i,rfl,_⟩:=h
   rfl
 . obtain⟨v,rfl,z⟩:=z
   refine⟨_,qi (qt (jA (qF qG (by rfl) T.isi boot_isinstance (qd (jv 0) (qd (jE (v:=.ty "int") (by rfl) B.int boot_int rfl) qf)))
     (Qm (Yt (qF qG (by rfl) T.isi boot_isinstance (qd (jv 0) (qd (jE (v:=.ty "bool") (by rfl) T.bool boot_bool rfl) qf))))))),?_⟩
   rcases z with ⟨i,rfl,q⟩ | ⟨⟨b,rfl⟩ | ⟨t,ty,e⟩,q⟩
   . exact⟨_,rfl,_,_,_,_,rfl,rfl,.int i,T.kii,_,rfl,j3 ⟨_,rfl,_,_,_,_,rfl,rfl,.int i,T.kib,_,rfl,q⟩⟩
   . exact⟨_,rfl,_,_,_,_,rfl,rfl,.bl b,h.kbi,_,rfl,j3 ⟨_,rfl,_,_,_,_,rfl,rfl,.bl b,h.kbb,_,rfl,q⟩⟩
   . exact⟨_,rfl,_,_,_,_,rfl,rfl,ty,e,_,rfl,jq q⟩
def Z0 (K:PySem.W.Frag) (hi:Int):Sp:=λvs H Q _=>∃v,vs=[v]/\Jc K H hi v/\Q (.bl false) H
theorem Yl {f:Addr} {fd:FuncData} (F:jQ K "is_number" "is_number" Qt f fd) (B:QA mg) (T:Wk K mg) (h:WF K mg):qo P w K mg base qN 2 f fd ["thing"] (Z0 K 15):=by
 have GW:qo P w K mg base qN 1 h.fW h.dW ["thing"] (UN K):=Zy h.hW.fn B T h
 obtain⟨t,hm⟩:=T.most
 refine F.okJ zC (λvs H Q E h=>?_) (λcdv A outer s H vs Q E hr z=>?_)
 . obtain⟨i,rfl,_⟩:=h
   rfl
 . obtain⟨v,rfl,z,q⟩:=z
   refine⟨_,qi (qt (jA (qR h.hW GW hr (by rfl) (qd (jv 0) qf)) (jA (qM Jp qj (jv 0) (qx _)) (Qm (qM Jp (jv 0) (jD (v:=.int 15) (by rfl) hm ⟨_,rfl⟩) (qx _)))))),?_⟩
   rcases z with ⟨i,rfl,hi⟩ | z
   . refine⟨_,rfl,_,rfl,.inl ⟨i,rfl,_,rfl,j3 ⟨_,rfl,_,_,rfl,rfl,_,rfl,?_⟩⟩⟩
     by_cases h0:(0:Int)<=i
     . rw[decide_eq_true h0]
       refine j3 ⟨_,rfl,_,_,rfl,rfl,?_⟩
       have e:decide (i<=15)=false:=decide_eq_false (by omega)
       show Q (.bl (decide (i<=15))) H
       rw[e]
       exact q
     . rw[decide_eq_false h0]
       exact jq q
   . exact⟨_,rfl,_,rfl,.inr ⟨z,_,rfl,jq q⟩⟩
theorem Xy {f:Addr} {fd:FuncData} (F:jQ K "is_set" "is_set" Jg f fd) (B:QA mg) (T:Wk K mg) (h:WF K mg):qo P w K mg base qN 2 f fd ["thing"] (Z0 K 65535):=by
 have GW:qo P w K mg base qN 1 h.fW h.dW ["thing"] (UN K):=Zy h.hW.fn B T h
 obtain⟨t,hm⟩:=T.mset
 refine F.okJ YQ (λvs H Q E h=>?_) (λcdv A outer s H vs Q E hr z=>?_)
 . obtain⟨i,rfl,_⟩:=h
   rfl
 . obtain⟨v,rfl,z,q⟩:=z
   refine⟨_,qi (qt (jA (qR h.hW GW hr (by rfl) (qd (jv 0) qf)) (jA (qM Jp qj (jv 0) (qx _)) (Qm (qM Jp (jv 0) (jD (v:=.int 65535) (by rfl) hm ⟨_,rfl⟩) (qx _)))))),?_⟩
   rcases z with ⟨i,rfl,hi⟩ | z
   . refine⟨_,rfl,_,rfl,.inl ⟨i,rfl,_,rfl,j3 ⟨_,rfl,_,_,rfl,rfl,_,rfl,?_⟩⟩⟩
     by_cases h0:(0:Int)<=i
     . rw[decide_eq_true h0]
       refine j3 ⟨_,rfl,_,_,rfl,rfl,?_⟩
       have e:decide (i<=65535)=false:=decide_eq_false (by omega)
       show Q (.bl (decide (i<=65535))) H
       rw[e]
       exact q
     . rw[decide_eq_false h0]
       exact jq q
   . exact⟨_,rfl,_,rfl,.inr ⟨z,_,rfl,jq q⟩⟩
def Vv (CX:Addr) (v:V) (H:Hp) (E:XK):Prop:=∀H1 dx,Same H H1->H1 dx=some (.xd [(Str.ofString "found",v)])->E (.ref CX) (some dx) H1
theorem Vv.same {CX:Addr} {v:V} {H H':Hp} {E:XK} (h:Vv CX v H E) (s:Same H H'):Vv CX v H' E:=λH1 dx s1 e=>h H1 dx (s.trans s1) e
def YJ (K:PySem.W.Frag) (CX:Addr) (hi:Int):Sp:=λvs H Q E=>∃(x:Addr) (v:V),vs=[.ref x,v]/\Jc K H hi v/\Vv CX v H E
theorem Xx (h:WF K mg) (B:QA mg) (T:Wk K mg):qo P w K mg base (Qz P w) 3 h.fNI h.dNI ["self","number"] (YJ K h.CX 15):=by
 have GB:qo P w K mg base qN 2 h.fB h.dB ["thing"] (Z0 K 15):=Yl h.hB.fn B T h
 have GP:qo P w K mg base qN 1 h.fXI h.dXI ["self","found"] (v5 h.CX "found"):=Qu h.xW
 refine h.cN.fn.okX YN (λvs H Q E h=>?_) (λcdv A outer s H vs Q E hr z=>?_)
 . obtain⟨x,v,rfl,_⟩:=h
   rfl
 . obtain⟨x,v,rfl,hb,q⟩:=z
   refine⟨_,qh (qJ (jh (qZ (qR h.hB GB (hr.mono (by decide)) (by rfl) (qd (jv 1) qf)))) (qi (Qk rfl jX (Qn h.xW.mkr GP (hr.mono (by decide)) (by rfl) h.xW.ns h.xW.bi jJ (qd (jv 1) qf)))) qv) qS,?_⟩
   refine⟨_,rfl,v,rfl,hb,_,rfl,j3 ⟨_,rfl,by show 1<=sizeLine;decide,λe he=>⟨e,v,rfl,qe,λdx hdx=>⟨rfl,e,h.CX,dx,rfl,?_,h.xW.rcls,?_⟩⟩⟩⟩
   . exact(js he hdx).2.1
   . obtain⟨m1,m2,m3⟩:=js (fs:=[(Str.ofString "found",v)]) he hdx
     exact q _ dx m1 m3
theorem Xz (h:WF K mg) (B:QA mg) (T:Wk K mg):qo P w K mg base (Qz P w) 3 h.fEI h.dEI ["self","bits"] (YJ K h.CX 65535):=by
 have GB:qo P w K mg base qN 2 h.fS h.dS ["thing"] (Z0 K 65535):=Xy h.hS.fn B T h
 have GP:qo P w K mg base qN 1 h.fXI h.dXI ["self","found"] (v5 h.CX "found"):=Qu h.xW
 refine h.cE.fn.okX YR (λvs H Q E h=>?_) (λcdv A outer s H vs Q E hr z=>?_)
 . obtain⟨x,v,rfl,_⟩:=h
   rfl
 . obtain⟨x,v,rfl,hb,q⟩:=z
   refine⟨_,qh (qJ (jh (qZ (qR h.hS GB (hr.mono (by decide)) (by rfl) (qd (jv 1) qf)))) (qi (Qk rfl jX (Qn h.xW.mkr GP (hr.mono (by decide)) (by rfl) h.xW.ns h.xW.bi jJ (qd (jv 1) qf)))) qv) qS,?_⟩
   refine⟨_,rfl,v,rfl,hb,_,rfl,j3 ⟨_,rfl,by show 1<=sizeLine;decide,λe he=>⟨e,v,rfl,qe,λdx hdx=>⟨rfl,e,h.CX,dx,rfl,?_,h.xW.rcls,?_⟩⟩⟩⟩
   . exact(js he hdx).2.1
   . obtain⟨m1,m2,m3⟩:=js (fs:=[(Str.ofString "found",v)]) he hdx
     exact q _ dx m1 m3
end
end Rh
set_option Elab.async false
set_option linter.all false
set_option maxRecDepth 100000
set_option maxHeartbeats 4000000
namespace Rh
open PySem L2 PyProof.Rows Rb
section
variable {P:Program} {w:World} {K:PySem.W.Frag} {mg:Str->Option Value} {base:Heap}
theorem V1 {f g:Str} {v:V} (h:(g==f)=false):[(f,v)].lookup g=none:=by simp [List.lookup,h]
theorem n1:((Str.ofString "is_endless")==(Str.ofString "number"))=false:=by decide+kernel
theorem n2:((Str.ofString "is_endless")==(Str.ofString "bits"))=false:=by decide+kernel
theorem n3:((Str.ofString "told")==(Str.ofString "number"))=false:=by decide+kernel
theorem n4:((Str.ofString "told")==(Str.ofString "bits"))=false:=by decide+kernel
theorem vx {CN CE a:Addr} {H:Hp} {w:W} {Q:VK} (h:Jb CN CE H a w) (q:Q (.bl (Zn w)) H):∃a' dx fs,V.ref a=.ref a'/\fs.lookup (Str.ofString "is_endless")=none/\((H a'=some (.ins CN dx fs)/\Xm false [V.ref a] H Q E0)\/(H a'=some (.ins CE dx fs)/\Xm true [V.ref a] H Q E0)):=by
 cases w with
 | num n=>obtain⟨dx,e⟩:=h;exact⟨a,dx,_,rfl,V1 n1,.inl ⟨e,a,rfl,q⟩⟩
 | edl b=>obtain⟨dx,e⟩:=h;exact⟨a,dx,_,rfl,V1 n2,.inr ⟨e,a,rfl,q⟩⟩
theorem Vy {CN CE a:Addr} {H:Hp} {w:W} {Q:VK} (h:Jb CN CE H a w) (q:∀p,H p=none->Q (.ref p) (qr H p (.tup [.str (qY w),.int (je w:Nat)]))):
   ∃a' dx fs,V.ref a=.ref a'/\fs.lookup (Str.ofString "told")=none/\((H a'=some (.ins CN dx fs)/\ZX CN CE [V.ref a] H Q E0)\/(H a'=some (.ins CE dx fs)/\ZY CN CE [V.ref a] H Q E0)):=by
 cases w with
 | num n=>obtain⟨dx,e⟩:=id h;exact⟨a,dx,_,rfl,V1 n3,.inl ⟨e,⟨a,n,rfl,h⟩,a,_,rfl,h,q⟩⟩
 | edl b=>obtain⟨dx,e⟩:=id h;exact⟨a,dx,_,rfl,V1 n4,.inr ⟨e,⟨a,b,rfl,h⟩,a,_,rfl,h,q⟩⟩
theorem vq {X:Cx} (h:WF X.K X.mg) (hr:qI 1 X.A) {o:Expr} {ta:TE} {apos pos:Pos} {pl:Sem Bool} (he:JE X o ta)
   (ht:eval (.Call (.Attribute o "is_endless" apos) [] [] pos) X.env=(eval o X.env >>= λov=>standAt apos.atName >>= λ_=>holding [ov] (getMethod ov "is_endless" pl) >>= λr=>callWith pos r.1 r.2 (backTo pos (starEach [] X.env)) (backToKw pos (keywordEach [] X.env))):=by rfl):
   JE X (.Call (.Attribute o "is_endless" apos) [] [] pos) (λσ H Q=>ta σ H λx H1=>∃a u,x=.ref a/\Jb h.CN h.CE H1 a u/\Q (.bl (Zn u)) H1):=
 JK (Qv (Y8 he) h.cN.cl h.nE.me h.gNE hr h.nE.bi h.cE.cl h.eE.me h.gEE hr h.eE.bi ht) λσ H Q q=>⟨_,q,λx H1 ⟨a,u,e,i,q1⟩=>by subst e;exact vx i q1⟩
theorem zc {X:Cx} (h:WF X.K X.mg) (hr:qI 1 X.A) {o:Expr} {ta:TE} {apos pos:Pos} {pl:Sem Bool} (he:JE X o ta)
   (ht:eval (.Call (.Attribute o "told" apos) [] [] pos) X.env=(eval o X.env >>= λov=>standAt apos.atName >>= λ_=>holding [ov] (getMethod ov "told" pl) >>= λr=>callWith pos r.1 r.2 (backTo pos (starEach [] X.env)) (backToKw pos (keywordEach [] X.env))):=by rfl):
   JE X (.Call (.Attribute o "told" apos) [] [] pos) (λσ H Q=>ta σ H λx H1=>∃a u,x=.ref a/\Jb h.CN h.CE H1 a u/\∀p,H1 p=none->Q (.ref p) (qr H1 p (.tup [.str (qY u),.int (je u:Nat)]))):=
 JK (Qv (Y8 he) h.cN.cl h.nT.me h.gNT hr h.nT.bi h.cE.cl h.eT.me h.gET hr h.eT.bi ht) λσ H Q q=>⟨_,q,λx H1 ⟨a,u,e,i,q1⟩=>by subst e;exact Vy i q1⟩
theorem Y0 {CN CE:Addr} {H:Hp} {x dx:Addr} {n:Nat} (hx:H x=none) (hd:H dx=none) (hne:dx≠x):Same H (qr (qr (qr H dx (.own x)) x (.ins CN dx [])) x (.ins CN dx [("number",.int (n:Nat))]))/\Jb CN CE (qr (qr (qr H dx (.own x)) x (.ins CN dx [])) x (.ins CN dx [("number",.int (n:Nat))])) x (.num n):=
 ⟨λb o hb=>by rw[qg (qk hb hx),qg (qk hb hx),qg (qk hb hd)];exact hb,dx,qe⟩
theorem Y1 {CN CE:Addr} {H:Hp} {x dx:Addr} {b:Nat} (hx:H x=none) (hd:H dx=none) (hne:dx≠x):Same H (qr (qr (qr H dx (.own x)) x (.ins CE dx [])) x (.ins CE dx [("bits",.int (b:Nat))]))/\Jb CN CE (qr (qr (qr H dx (.own x)) x (.ins CE dx [])) x (.ins CE dx [("bits",.int (b:Nat))])) x (.edl b):=
 ⟨λb o hb=>by rw[qg (qk hb hx),qg (qk hb hx),qg (qk hb hd)];exact hb,dx,qe⟩
def zG:W->Str
 | .num n=>if n=0 then "lost" else "won"
 | .edl b=>if b.testBit 0=true then "won" else "drawn"
def We (CN CE:Addr):Sp:=λvs H Q _=>∃a n,vs=[.ref a]/\Jb CN CE H a (.num n)/\Q (.str (zG (.num n))) H
def Wf (CN CE:Addr):Sp:=λvs H Q _=>∃a b,vs=[.ref a]/\Jb CN CE H a (.edl b)/\b < 65536/\∀H',Same H H'->Q (.str (zG (.edl b))) H'
theorem UP:qu ["self"] ["self"] (ql YS):=⟨rfl,rfl,rfl,by decide+kernel,rfl,by decide+kernel,by decide+kernel⟩
theorem US:qu ["self"] ["self"] (ql YT):=⟨rfl,rfl,rfl,by decide+kernel,rfl,by decide+kernel,by decide+kernel⟩
theorem WF.gNO (h:WF K mg):qo P w K mg base qN 1 h.fNO h.dNO ["self"] (We h.CN h.CE):=by
 refine h.nO.fn.okJ UP (λvs H Q E z=>?_) (λcdv A outer s H vs Q E hr z=>?_)
 . obtain⟨a,n,rfl,_⟩:=z
   rfl
 . obtain⟨a,n,rfl,⟨dx,e⟩,q⟩:=z
   refine⟨_,qh (qJ (qC jC (Qo (jv 0) rfl) qj (qx _)) (qi (qt qq)) qv) (qi (qt qq)),?_⟩
   refine⟨_,rfl,a,h.CN,dx,_,_,rfl,e,h.cN.cl,h.cN.na,Uw,rfl,_,rfl,?_⟩
   have q:Q (.str (if n=0 then "lost" else "won")) H:=q
   by_cases c:n=0
   . subst c
     rw[if_pos rfl]at q
     exact jm (by decide) q
   . rw[if_neg c]at q
     exact ja (decide_eq_false λz=>c (by have:=V.int.inj z;omega)) q
theorem WF.gEO (h:WF K mg) (B:QA mg):qo P w K mg base qN 2 h.fEO h.dEO ["self"] (Wf h.CN h.CE):=by
 have GN:qo P w K mg base qN 1 h.fN h.dN ["bits"] QT:=zI h.hN.fn B
 refine h.eO.fn.okJ US (λvs H Q E z=>?_) (λcdv A outer s H vs Q E hr z=>?_)
 . obtain⟨a,b,rfl,_⟩:=z
   rfl
 . obtain⟨a,b,rfl,⟨dx,e⟩,hb,q⟩:=z
   refine⟨_,qh (qJ (qC jZ qj (qR h.hN GN hr (by rfl) (qd (Qo (jv 0) rfl) qf)) (by with_unfolding_all rfl)) (qi (qt qq)) qv) (qi (qt qq)),?_⟩
   refine⟨_,rfl,a,h.CE,dx,_,_,rfl,e,h.cE.cl,h.cE.na,Uw,b,rfl,hb,λl hl=>?_⟩
   refine⟨l,_,rfl,.inl (.of qe),rfl,zS _,_,rfl,?_⟩
   have e0:X3 (.int ((0:Nat):Int)) (Ju (memN b 16))=b.testBit 0:=by
     rw[W2]
     unfold memN
     rw[Bool.eq_iff_iff,decide_eq_true_iff,List.mem_filter]
     exact⟨λh=>h.2,λh=>⟨by decide,h⟩⟩
   have q:=q _ (qm (o:=HO.lst (Ju (memN b 16))) hl)
   have q:Q (.str (if b.testBit 0=true then "won" else "drawn")) (qr H l (HO.lst (Ju (memN b 16)))):=q
   show if X3 (.int ((0:Nat):Int)) (Ju (memN b 16))=true then _ else _
   rw[e0]
   cases c:b.testBit 0 with
   | true=>rw[if_pos c]at q;exact j3 q
   | false=>rw[if_neg (by rw[c];exact Bool.false_ne_true)]at q;exact jq q
theorem n7:((Str.ofString "outcome")==(Str.ofString "number"))=false:=by decide+kernel
theorem n8:((Str.ofString "outcome")==(Str.ofString "bits"))=false:=by decide+kernel
theorem VR {CN CE a:Addr} {H:Hp} {w:W} {Q:VK} (h:Jb CN CE H a w) (ok:Vr w) (q:∀H',Same H H'->Q (.str (zG w)) H'):
   ∃a' dx fs,V.ref a=.ref a'/\fs.lookup (Str.ofString "outcome")=none/\((H a'=some (.ins CN dx fs)/\We CN CE [V.ref a] H Q E0)\/(H a'=some (.ins CE dx fs)/\Wf CN CE [V.ref a] H Q E0)):=by
 cases w with
 | num n=>obtain⟨dx,e⟩:=id h;exact⟨a,dx,_,rfl,V1 n7,.inl ⟨e,a,n,rfl,h,q H λ_ _ z=>z⟩⟩
 | edl b=>obtain⟨dx,e⟩:=id h;exact⟨a,dx,_,rfl,V1 n8,.inr ⟨e,a,b,rfl,h,ok,q⟩⟩
theorem V4 {X:Cx} (h:WF X.K X.mg) (B:QA X.mg) (hr:qI 2 X.A) {o:Expr} {ta:TE} {apos pos:Pos} {pl:Sem Bool} (he:JE X o ta)
   (ht:eval (.Call (.Attribute o "outcome" apos) [] [] pos) X.env=(eval o X.env >>= λov=>standAt apos.atName >>= λ_=>holding [ov] (getMethod ov "outcome" pl) >>= λr=>callWith pos r.1 r.2 (backTo pos (starEach [] X.env)) (backToKw pos (keywordEach [] X.env))):=by rfl):
   JE X (.Call (.Attribute o "outcome" apos) [] [] pos) (λσ H Q=>ta σ H λx H1=>∃a u,x=.ref a/\Jb h.CN h.CE H1 a u/\Vr u/\∀H',Same H1 H'->Q (.str (zG u)) H'):=
 JK (Qv (Y8 he) h.cN.cl h.nO.me h.gNO (hr.mono (by decide)) h.nO.bi h.cE.cl h.eO.me (h.gEO B) hr h.eO.bi ht) λσ H Q q=>⟨_,q,λx H1 ⟨a,u,e,i,k,q1⟩=>by subst e;exact VR i k q1⟩
end
theorem Wm:(Str.ofString " ")=⟨#[32]⟩:=by decide+kernel
theorem yL (x:Str):([x]:List Str).Nodup:=List.nodup_cons.mpr ⟨by simp,List.nodup_nil⟩
theorem Q4 {α β:Type} (f:α->β) (l:List α):l.filterMap (λx=>some (f x))=l.map f:=by induction l<;>simp [*]
theorem zf (s:Str) (l:List Str):Txt.join s l=Str.join s l:=StrLaws.glued_eq_join s l
section
variable {P:Program} {w:World} {K:PySem.W.Frag} {mg:Str->Option Value} {base:Heap}
def Uq (CN CE:Addr):Sp:=λvs H Q _=>∃a n,vs=[.ref a]/\Jb CN CE H a (.num n)/\n < 16/\Q (.str (jO n)) H
def Wc (CN CE:Addr):Sp:=λvs H Q _=>∃a b,vs=[.ref a]/\Jb CN CE H a (.edl b)/\b < 65536/\∀H',Same H H'->Q (.str (Jd (.edl b))) H'
theorem VM:qu ["self"] ["self"] (ql Z5):=⟨rfl,rfl,rfl,by decide+kernel,rfl,by decide+kernel,by decide+kernel⟩
theorem WF.gNS (h:WF K mg):qo P w K mg base qN 1 h.fNS h.dNS ["self"] (Uq h.CN h.CE):=by
 refine h.nS.fn.okJ VM (λvs H Q E z=>?_) (λcdv A outer s H vs Q E hr z=>?_)
 . obtain⟨a,n,rfl,_⟩:=z
   rfl
 . obtain⟨a,n,rfl,⟨dx,e⟩,hn,q⟩:=z
   refine⟨_,qi (qt (qT jr (by rfl) h.str boot_str (qd (Qo (jv 0) rfl) qf))),?_⟩
   exact⟨_,rfl,a,h.CN,dx,_,_,rfl,e,h.cN.cl,h.cN.na,Uw,_,rfl,by omega,by omega,q⟩
theorem VO:qu ["self"] ["self"] (ql Z6):=⟨rfl,rfl,rfl,by decide+kernel,rfl,by decide+kernel,by decide+kernel⟩
theorem WF.gES (h:WF K mg) (B:QA mg):qo P w K mg base qN 2 h.fES h.dES ["self"] (Wc h.CN h.CE):=by
 have GN:qo P w K mg base qN 1 h.fN h.dN ["bits"] QT:=zI h.hN.fn B
 refine h.eS.fn.okJ VO (λvs H Q E z=>?_) (λcdv A outer s H vs Q E hr z=>?_)
 . obtain⟨a,n,rfl,_⟩:=z
   rfl
 . obtain⟨a,b,rfl,⟨dx,e⟩,hb,q⟩:=z
   refine⟨_,qi (qt (QI PySem.F.plainAttrs_str PySem.F.slot_str_join PySem.F.type_str_join JJ qq (qd (qz Z8 (jc (qd qq qf))
     (ZF (N':=["number"]) (ix:=[none]) rfl ⟨rfl,rfl,rfl,rfl,rfl⟩ (jS (qR h.hN GN hr (by rfl) (qd (Qo (jv 0) rfl) qf)))
       (λC s2 H2 fp pins=>⟨qQ (i:=0) (yL _) rfl (Or.inl rfl),Q2,qT jr (by rfl) h.str boot_str (qd (jv 0) qf)⟩))) qf))),?_⟩
   refine⟨rfl,by show 1<=sizeLine;decide,λl1 f1=>⟨_,rfl,a,h.CE,dx,_,_,rfl,zu e f1,h.cE.cl,h.cE.na,Uw,b,rfl,hb,λl2 f2=>⟨l2,rfl,⟨_,.of qe⟩,λD hD=>?_⟩⟩⟩
   have s1:=qm (o:=HO.lst [V.str (Str.ofString "endless")]) f1
   have s2:=qm (o:=HO.lst (Ju (memN b 16))) f2
   have g1:=s2 _ _ (qe (H:=H) (a:=l1) (o:=HO.lst [V.str (Str.ofString "endless")]))
   refine zl (K:=K) (a:=l2) (xs:=memN b 16) (enc:=λn=>V.int (n:Nat)) (out:=λn=>some (V.str (jO n))) (rest:=[]) hD qe (qE (Nat.le_trans (jL b) (by decide))) (λx hx Y sY R hR=>hR Y (Same.refl Y)) (λx hx v ev Y sY R hR=>?_) (λH5 s5 hD5=>?_)
   . cases ev
     have hx':=ju b x hx
     exact⟨_,rfl,_,rfl,by omega,by omega,hR Y (Same.refl Y)⟩
   . rw[Q4]at hD5
     refine⟨l1,D,_,_,rfl,rfl,.of (s5 _ _ g1),.of hD5,?_,λl3 f3=>?_⟩
     . rw[List.length_map]
       have:=jL b
       exact Nat.le_of_lt (qE (by show 1+_<=1000;omega))
     . refine⟨_,l3,Ze::(memN b 16).map jO,rfl,rfl,.of (by rw[List.map_cons,List.map_map];exact qe),?_,?_⟩
       . have h2:=zx (memN b 16) (ju b)
         have:=jL b
         have e7:Ze.length=7:=by decide+kernel
         have e1:(Str.ofString " ").length=1:=by decide+kernel
         simp only[List.map_cons,List.sum_cons,List.length_cons,List.length_map,e7,e1]
         omega
       . have q:=q _ (((s1.trans s2).trans s5).trans (qm (o:=HO.lst ([V.str (Str.ofString "endless")]++(memN b 16).map λn=>V.str (jO n))) f3))
         have e:Txt.join (Str.ofString " ") (Ze::(memN b 16).map jO)=Jd (.edl b):=by rw[zf,Wm];rfl
         rw[e]
         exact q
end
end Rh
set_option Elab.async false
set_option linter.all false
set_option maxRecDepth 100000
set_option maxHeartbeats 4000000
namespace Rh
open PySem L2 PyProof.Rows Rb
theorem zV (xs:List V):Qb xs (some 1) none=xs.drop 1:=by
 unfold Qb
 rw[HT.sIx_none,show (1:Int)=((1:Nat):Int) from rfl,HT.sIx_nat]
 cases xs with
 | nil=>rfl
 | cons x l=>
   rw[List.length_cons,Nat.min_eq_left (by omega),List.take_of_length_le (by rw[List.length_drop,List.length_cons];omega)]
def Zr (z:Str):List Str:=(Txt.split z ⟨#[32]⟩).drop 1
theorem YA (z:Str):(Zr z).length<=z.length+2:=by
 unfold Zr
 rw[List.length_drop]
 have:=split_le z ⟨#[32]⟩
 omega
theorem X6 {ns:List Nat} (h:∀n∈ns,n < 16):Zr (ji ns)=ns.map jO:=by unfold Zr;rw[jx h];rfl
theorem Vl {l:List Str} (h:∀z∈l,z∈QC):∃ns:List Nat,(∀n∈ns,n < 16)/\l=ns.map jO:=by
 induction l with
 | nil=>exact⟨[],(λ_ z=>by cases z),rfl⟩
 | cons z l ih=>
   obtain⟨n,hn,e⟩:=Q0.mp (h z List.mem_cons_self)
   obtain⟨ns,h1,h2⟩:=ih λy hy=>h y (List.mem_cons_of_mem _ hy)
   exact⟨n::ns,λm hm=>(List.mem_cons.mp hm).elim (λe=>e▸hn) (h1 m),by rw[e,h2];rfl⟩
theorem n9:((Str.ofString "text")==(Str.ofString "number"))=false:=by decide+kernel
theorem ya:((Str.ofString "text")==(Str.ofString "bits"))=false:=by decide+kernel
theorem Vz {CN CE a:Addr} {H:Hp} {w:W} {Q:VK} (h:Jb CN CE H a w) (ok:Vr w) (q:∀H',Same H H'->Q (.str (Jd w)) H'):
   ∃a' dx fs,V.ref a=.ref a'/\fs.lookup (Str.ofString "text")=none/\((H a'=some (.ins CN dx fs)/\Uq CN CE [V.ref a] H Q E0)\/(H a'=some (.ins CE dx fs)/\Wc CN CE [V.ref a] H Q E0)):=by
 cases w with
 | num n=>obtain⟨dx,e⟩:=id h;exact⟨a,dx,_,rfl,V1 n9,.inl ⟨e,a,n,rfl,h,ok,q H λ_ _ z=>z⟩⟩
 | edl b=>obtain⟨dx,e⟩:=id h;exact⟨a,dx,_,rfl,V1 ya,.inr ⟨e,a,b,rfl,h,ok,q⟩⟩
theorem V3 {X:Cx} (h:WF X.K X.mg) (B:QA X.mg) (hr:qI 2 X.A) {o:Expr} {ta:TE} {apos pos:Pos} {pl:Sem Bool} (he:JE X o ta)
   (ht:eval (.Call (.Attribute o "text" apos) [] [] pos) X.env=(eval o X.env >>= λov=>standAt apos.atName >>= λ_=>holding [ov] (getMethod ov "text" pl) >>= λr=>callWith pos r.1 r.2 (backTo pos (starEach [] X.env)) (backToKw pos (keywordEach [] X.env))):=by rfl):
   JE X (.Call (.Attribute o "text" apos) [] [] pos) (λσ H Q=>ta σ H λx H1=>∃a u,x=.ref a/\Jb h.CN h.CE H1 a u/\Vr u/\∀H',Same H1 H'->Q (.str (Jd u)) H'):=
 JK (Qv (Y8 he) h.cN.cl h.nS.me h.gNS (hr.mono (by decide)) h.nS.bi h.cE.cl h.eS.me (h.gES B) hr h.eS.bi ht) λσ H Q q=>⟨_,q,λx H1 ⟨a,u,e,i,k,q1⟩=>by subst e;exact Vz i k q1⟩
section
variable {P:Program} {w:World} {K:PySem.W.Frag} {mg:Str->Option Value} {base:Heap}
def Wg:Sp:=λvs H Q _=>vs=[]/\∀l H',Same H H'->H' l=some (.lst (QC.map V.str))->Q (.ref l) H'
theorem ka:qu [] [] (ql Yj):=⟨rfl,rfl,rfl,by decide+kernel,rfl,by decide+kernel,by decide+kernel⟩
theorem WD {f:Addr} {fd:FuncData} (F:jQ K "number_texts" "number_texts" Yj f fd) (B:QA mg) (T:Wk K mg) (h:WF K mg):qo P w K mg base qN 1 f fd [] Wg:=by
 obtain⟨t,hm⟩:=T.most
 refine F.okJ ka (λvs H Q E z=>?_) (λcdv A outer s H vs Q E hr z=>?_)
 . obtain⟨rfl,_⟩:=z
   rfl
 . obtain⟨rfl,q⟩:=z
   refine⟨_,qi (qt (ZF (N':=["number"]) (ix:=[none]) rfl ⟨rfl,rfl,rfl,rfl,rfl⟩ (jG (by rfl) B.rng (qd (qz jK (jD (v:=.int 15) (by rfl) hm ⟨_,rfl⟩) qj) qf))
       (λC s2 H2 fp pins=>⟨qQ (i:=0) (yL _) rfl (Or.inl rfl),Q2,qT jr (by rfl) h.str boot_str (qd (jv 0) qf)⟩))),?_⟩
   refine⟨_,_,rfl,rfl,16,rfl,by decide,by decide,λD hD=>?_⟩
   refine Xi (n:=16) (out:=λn=>some (V.str (jO n))) (rest:=[]) hD (qE (by decide)) (λx hx Y sY R hR=>hR Y (Same.refl Y)) (λx hx v ev Y sY R hR=>?_) (λH5 s5 hD5=>?_)
   . cases ev
     exact⟨_,rfl,_,rfl,by omega,by omega,hR Y (Same.refl Y)⟩
   . rw[Q4]at hD5
     exact q D H5 s5 (by unfold QC;rw[List.map_map];exact hD5)
def Wd (CN CE CX:Addr):Sp:=λvs H Q E=>∃z:Str,vs=[.str z]/\z.length<=990/\(∀b H' a,b < 65536->z=ji (memN b 16)->Same H H'->Jb CN CE H' a (.edl b)->Q (.ref a) H')/\((∀b,b < 65536->z≠ji (memN b 16))->Vv CX (.str z) H E)
abbrev nRE:List Str:=["text","figures","words","worth"]
theorem VI:qu nRE ["text"] (ql Zw):=⟨rfl,rfl,rfl,by decide+kernel,rfl,by decide+kernel,by decide+kernel⟩
theorem VW {f fT:Addr} {fd fdT:FuncData} (F:jQ K "read_endless" "read_endless" Zw f fd) (B:QA mg) (T:Wk K mg) (h:WF K mg) (hT:jB K mg "number_texts" Yj [] fT fdT):qo P w K mg base (Qz P w) 5 f fd ["text"] (Wd h.CN h.CE h.CX):=by
 have GT:qo P w K mg base qN 1 fT fdT [] Wg:=WD hT.fn B T h
 have GO:qo P w K mg base qN 1 h.fO h.dO ["numbers"] (YG K):=WB h.hO.fn
 have GE:qo P w K mg base qN 3 h.fEI h.dEI ["self","bits"] (Qe h.CE "bits" 65535):=h.gEI B T
 have GP:qo P w K mg base qN 1 h.fXI h.dXI ["self","found"] (v5 h.CX "found"):=Qu h.xW
 have GX:qo P w K mg base qN 2 h.fES h.dES ["self"] (Wc h.CN h.CE):=h.gES B
 refine F.okX VI (λvs H Q E z=>?_) (λcdv A outer s H vs Q E hr z=>?_)
 . obtain⟨z,rfl,_⟩:=z
   rfl
 . obtain⟨z,rfl,hz,qa,qb⟩:=z
   refine⟨_,qh (qB (i:=1) VI.nd rfl (Or.inr rfl) (zO GT (hr.mono (by decide)) (by rfl) hT.ns hT.fn.kp hT.bi .nil jJ))
     (qh (qB (i:=2) VI.nd rfl (Or.inl rfl) (qW QU (QI PySem.F.plainAttrs_str PySem.F.slot_str_split PySem.F.type_str_split J7 (jv 0) (qd qq qf)) (jk qj) jl))
     (qh (qJ (jh (qZ (qF (XY rfl) (by rfl) h.all boot_all (qd (ZF (N':=["word","figures"]) (ix:=[none,some 1]) (te:=vF (yH K false) (JQ 0) (JQ 1)) rfl ⟨rfl,rfl,rfl,rfl,rfl⟩ (jS (jv 2)) (λC s2 H2 fp pins=>
         ⟨qQ (i:=0) (show (["word","figures"]:List Str).Nodup by decide+kernel) rfl (Or.inl rfl),Q2,qM jZ (jv 0) (jv 1) (by with_unfolding_all rfl)⟩)) qf))))
       (qi (Qk rfl jX (Qn h.xW.mkr GP (hr.mono (by decide)) (by rfl) h.xW.ns h.xW.bi jJ (qd (jv 0) qf)))) qv)
     (qh (qB (i:=3) VI.nd rfl (Or.inl rfl) (Qw h.cE.mkr GE hr (by rfl) h.cE.ns h.cE.bi .nil jJ (qd (qR h.hO GO (hr.mono (by decide)) (by rfl) (qd
         (ZF (N':=["word","figures"]) (ix:=[none,some 1]) (te:=yt K "list" (Wu K) (JQ 1) (Wb (JQ 0) zw)) rfl ⟨rfl,rfl,rfl,rfl,rfl⟩ (jS (jv 2)) (λC s2 H2 fp pins=>
           ⟨qQ (i:=0) (show (["word","figures"]:List Str).Nodup by decide+kernel) rfl (Or.inl rfl),Q2,QI PySem.F.plainAttrs_list PySem.F.slot_list_index PySem.F.type_list_index zJ (jv 1) (qd (jv 0) qf)⟩)) qf)) qf)))
     (qh (qJ (qC Zx (kO h.eS h.cE.cl GX (hr.mono (by decide)) (jv 3)) (jv 0) (qx _)) (qi (Qk rfl jX (Qn h.xW.mkr GP (hr.mono (by decide)) (by rfl) h.xW.ns h.xW.bi jJ (qd (jv 0) qf)))) qv)
     (qi (qt (jv 3))))))),?_⟩
   refine⟨rfl,λl1 H1 s1 h1=>⟨_,rfl,rfl,z,_,rfl,rfl,by decide+kernel,by omega,λl2 f2=>⟨1,rfl,l2,_,rfl,.of qe,λl3 f3=>?_⟩⟩⟩
   have e3:Qb ((Txt.split z (Str.ofString " ")).map V.str) (some 1) none=(Zr z).map V.str:=by
     rw[zV,Wm,<-List.map_drop]
     rfl
   rw[e3]
   have hl:(Zr z).length<=1000:=by have:=YA z;omega
   have s3:=(qm (o:=HO.lst ((Txt.split z (Str.ofString " ")).map V.str)) f2).trans (qm (o:=HO.lst ((Zr z).map V.str)) f3)
   have h3:qr (qr H1 l2 (HO.lst ((Txt.split z (Str.ofString " ")).map V.str))) l3 (HO.lst ((Zr z).map V.str)) l3=some (.lst ((Zr z).map V.str)):=qe
   generalize qr (qr H1 l2 (HO.lst ((Txt.split z (Str.ofString " ")).map V.str))) l3 (HO.lst ((Zr z).map V.str))=H3 at s3 h3
   refine⟨_,rfl,l3,rfl,⟨_,.of h3⟩,λD hD=>?_⟩
   refine zl (K:=K) (a:=l3) (xs:=Zr z) (enc:=V.str) (out:=λy=>some (V.bl (decide (y∈QC)))) (rest:=[some (.ref l1)]) hD h3 (qE hl) (λx hx Y sY R hR=>hR Y (Same.refl Y)) (λx hx v ev Y sY R hR=>?_) (λH4 s4 hD4=>?_)
   . cases ev
     refine⟨_,rfl,_,rfl,l1,_,rfl,.inl (.of (sY _ _ (s3 _ _ h1))),rfl,Jf _,?_⟩
     rw[Zc]
     exact hR Y (Same.refl Y)
   . rw[Q4]at hD4
     have s04:=(s1.trans s3).trans s4
     have rz:∀{H':Hp},Same H H'->(∀b,b < 65536->z≠ji (memN b 16))->Vv h.CX (.str z) H' E:=λsm hb=>(qb hb).same sm
     refine⟨D,(Zr z).map λy=>decide (y∈QC),rfl,.of (by rw[List.map_map];exact hD4),_,rfl,?_⟩
     cases hb:((Zr z).map λy=>decide (y∈QC)).all id with
     | false=>
       refine j3 ⟨_,rfl,by show 1<=sizeLine;decide,λe he=>⟨e,.str z,rfl,qe,λdx hdx=>⟨rfl,e,h.CX,dx,rfl,(js he hdx).2.1,h.xW.rcls,?_⟩⟩⟩
       obtain⟨m1,m2,m3⟩:=js (C:=h.CX) (fs:=[(Str.ofString "found",V.str z)]) he hdx
       refine rz s04 (λb _ ez=>?_) _ dx m1 m3
       rw[ez,X6 (ju b)]at hb
       have:((memN b 16).map jO |>.map λy=>decide (y∈QC)).all id=true:=by
         rw[List.all_map,List.all_map,List.all_eq_true]
         intro n hn
         exact decide_eq_true (Q0.mpr ⟨n,ju b n hn,rfl⟩)
       rw[this]at hb
       cases hb
     | true=>
       obtain⟨ns,hns,ew⟩:=Vl (l:=Zr z) λy hy=>by
         rw[List.all_map,List.all_eq_true]at hb
         exact of_decide_eq_true (hb y hy)
       have h3':H4 l3=some (.lst (ns.map λn=>V.str (jO n))):=by
         have:=s4 _ _ h3
         rw[ew,List.map_map]at this
         exact this
       have nl:ns.length<=1000:=by rw[ew,List.length_map]at hl;exact hl
       refine jq ⟨_,rfl,l3,rfl,⟨_,.of h3'⟩,λD2 hD2=>?_⟩
       refine zl (K:=K) (a:=l3) (xs:=ns) (enc:=λn=>V.str (jO n)) (out:=λn=>some (V.int (n:Nat))) (rest:=[some (.ref l1)]) hD2 h3' (qE nl) (λx hx Y sY R hR=>hR Y (Same.refl Y)) (λx hx v ev Y sY R hR=>?_) (λH5 s5 hD5=>?_)
       . cases ev
         have g1:Y l1=some (.lst (QC.map V.str)):=sY _ _ (s4 _ _ (s3 _ _ h1))
         refine⟨_,rfl,.inl ⟨rfl,_,.of g1⟩,_,rfl,l1,QC,jO x,x,rfl,rfl,.of g1,Q5 (hns x hx),λi hi e=>?_,hR Y (Same.refl Y)⟩
         have hi':i < 16:=Nat.lt_trans hi (hns x hx)
         rw[Q5 hi']at e
         exact absurd (Q8 i hi' x (hns x hx) (Option.some.inj e)) (Nat.ne_of_lt hi)
       . rw[Q4]at hD5
         have lt:setN ns < 65536:=YL (m:=16) hns
         refine⟨D2,ns,rfl,.of hD5,λx hx=>Nat.lt_trans (hns x hx) (by decide),λx dx hx hd hne=>⟨x,dx,_,rfl,by omega,by omega,qe,rfl,?_⟩⟩
         obtain⟨s6,i6⟩:=Y1 (CN:=h.CN) (CE:=h.CE) (b:=setN ns) hx hd hne
         have s06:=(s04.trans s5).trans s6
         generalize qr (qr (qr H5 dx (.own x)) x (.ins h.CE dx [])) x (.ins h.CE dx [("bits",.int ((setN ns:Nat):Int))])=H6 at s6 i6 s06
         obtain⟨dx6,e6⟩:=id i6
         refine⟨_,rfl,x,dx6,_,rfl,e6,V1 ya,x,setN ns,rfl,i6,lt,λH7 s7=>⟨_,rfl,rfl,_,rfl,?_⟩⟩
         by_cases ez:z=Jd (.edl (setN ns))
         . refine ja ?_ ⟨_,rfl,qa (setN ns) H7 x lt ez (s06.trans s7) (i6.same s7)⟩
           rw[<-ez]
           simp
         . refine jm ?_ ⟨_,rfl,by show 1<=sizeLine;decide,λe he=>⟨e,.str z,rfl,qe,λdx hdx=>⟨rfl,e,h.CX,dx,rfl,(js he hdx).2.1,h.xW.rcls,?_⟩⟩⟩
           . have:¬V.str (Jd (.edl (setN ns)))=V.str z:=λq=>ez (V.str.inj q).symm
             simpa using this
           . obtain⟨m1,m2,m3⟩:=js (C:=h.CX) (fs:=[(Str.ofString "found",V.str z)]) he hdx
             refine rz (s06.trans s7) (λb hb' ez'=>?_) _ dx m1 m3
             have h9:=X6 (ju b)
             rw[<-ez',ew]at h9
             have h10:=Jr hns (ju b) h9
             have h11:setN ns=b:=by rw[h10];exact JC (m:=16) hb'
             exact ez (by rw[h11];exact ez')
end
end Rh
set_option Elab.async false
set_option linter.all false
set_option maxRecDepth 100000
set_option maxHeartbeats 4000000
namespace Rh
open PySem L2 PyProof.Rows Rb
def Qd (H H':Hp):Prop:=∀b o,H b=some o->(∀φ,o≠.ext φ)->H' b=some o
theorem _root_.L2.Same.keep {H H':Hp} (s:Same H H'):Qd H H':=λb o h _=>s b o h
theorem Qd.trans {H H' H'':Hp} (a:Qd H H') (b:Qd H' H''):Qd H H'':=λc o h n=>b c o (a c o h n) n
theorem Qd.refl (H:Hp):Qd H H:=λ_ _ h _=>h
theorem _root_.L2.SqT.keep {K:PySem.W.Frag} {H H':Hp} {p:Addr} {xs:List V} (h:SqT K H p xs) (s:Qd H H'):SqT K H' p xs:=by
 rcases h with (h | ⟨o,h⟩) | h
 . exact .inl (.inl (s _ _ h (λ_ z=>nomatch z)))
 . exact .inl (.inr ⟨o,s _ _ h (λ_ z=>nomatch z)⟩)
 . exact .inr h
theorem _root_.L2.SqL.keep {K:PySem.W.Frag} {H H':Hp} {p:Addr} {xs:List V} (h:SqL K H p xs) (s:Qd H H'):SqL K H' p xs:=by
 rcases h with (h | ⟨o,h⟩) | h
 . exact .inl (.inl (s _ _ h (λ_ z=>nomatch z)))
 . exact .inl (.inr ⟨o,s _ _ h (λ_ z=>nomatch z)⟩)
 . exact .inr h
theorem TyOf.keep {K:PySem.W.Frag} {H H':Hp} {v:V} {t:Value} (h:TyOf K H v t) (s:Qd H H'):TyOf K H' v t:=by
 cases h with
 | non=>exact .non
 | bl x=>exact .bl x
 | int i=>exact .int i
 | str x=>exact .str x
 | flt x=>exact .flt x
 | lst e=>exact .lst (s _ _ e (λ_ z=>nomatch z))
 | frz e=>exact .frz (s _ _ e (λ_ z=>nomatch z))
 | tup e=>exact .tup (s _ _ e (λ_ z=>nomatch z))
 | dK e=>exact .dK (s _ _ e (λ_ z=>nomatch z))
 | dT e=>exact .dT (s _ _ e (λ_ z=>nomatch z))
 | ins e a b c d f=>exact .ins (s _ _ e (λ_ z=>nomatch z)) a b c d f
mutual
theorem Xe {K:PySem.W.Frag} {H H':Hp} (s:Qd H H'):∀{x:V} {d:PyData},DV K H x d->DV K H' x d
 | _,_,.non=>.non
 | _,_,.bl b=>.bl b
 | _,_,.int i=>.int i
 | _,_,.str x=>.str x
 | _,_,.lst h hs=>.lst (h.keep s) (dvs_keep s hs)
 | _,_,.tup h hs=>.tup (h.keep s) (dvs_keep s hs)
theorem dvs_keep {K:PySem.W.Frag} {H H':Hp} (s:Qd H H'):∀{x:List V} {d:List PyData},DVs K H x d->DVs K H' x d
 | _,_,.nil=>.nil
 | _,_,.cons h hs=>.cons (Xe s h) (dvs_keep s hs)
end
theorem TyOf.mono {K:PySem.W.Frag} {H H':Hp} {v:V} {t:Value} (h:TyOf K H v t) (s:Same H H'):TyOf K H' v t:=by
 cases h with
 | non=>exact .non
 | bl x=>exact .bl x
 | int i=>exact .int i
 | str x=>exact .str x
 | flt x=>exact .flt x
 | lst e=>exact .lst (s _ _ e)
 | frz e=>exact .frz (s _ _ e)
 | tup e=>exact .tup (s _ _ e)
 | dK e=>exact .dK (s _ _ e)
 | dT e=>exact .dT (s _ _ e)
 | ins e a b c d f=>exact .ins (s _ _ e) a b c d f
theorem Xa {X:Cx} {x:Str} {st:Stmt} {ps:List Str} {f:Addr} {fd:FuncData} {k:Nat} {sp:Sp} {E:XK} {e:Expr} {es:List Expr} {t:TA} {p pos:Pos} (h:jB X.K X.mg x st ps f fd) (G:qo X.prog X.w X.K X.mg X.base (Qz X.prog X.w) k f fd ps sp) (hr:qI k X.A) (hx:jo (Qz X.prog X.w) X E)
   (hg:Gl X x) (ha:JA X (e::es) t) (hdb:(x==("__debug__":Str))=false:=by decide) (he:starEach (e::es) X.env=(false,eval e X.env)::starEach es X.env:=by rfl) (hpl:(backTo pos (starEach es X.env)).any (·.1)=false:=by rfl):
   JE X (.Call (.Name x p) (e::es) [] pos) (YE sp [] E t):=.of (YX G hr hg h.ns h.fn.kp h.bi .nil hx ha.to hdb he hpl)
structure Uk (K:PySem.W.Frag) (mg:Str->Option Value) (D CP:Addr):Prop where
 nD:mg "HeapError"=some (.ref D)
 cD:Um K D
 kp:PySem.W.kitOne K (.ref CP) (.ref CP)=some true
 spc:PySem.W.specialIn K (.builtin "object.__class__") "__get__"=some (some (.builtin "getset_descriptor.__get__"))
 tks:PySem.W.takesIn K (.builtin "object.__class__")=some true
def Ul (K:PySem.W.Frag) (H:Hp) (v:V):Prop:=((∃z,v=.str z)\/∃d,DV K H v d/\PySem.SeqAt.shaped d=true)/\∃t b,TyOf K H v t/\PySem.W.kitOne K t (.type "bool")=some b
theorem Ul.keep {K:PySem.W.Frag} {H H':Hp} {v:V} (h:Ul K H v) (s:Qd H H'):Ul K H' v:=by
 obtain⟨h,t,c,e,g⟩:=h
 refine⟨?_,t,c,Rh.TyOf.keep e s,g⟩
 rcases h with h | ⟨d,a,b⟩
 . exact .inl h
 . exact .inr ⟨d,Xe s a,b⟩
def ZU:Stmt->Expr
 | .If t _ _ _=>t
 | .Return (some e) _=>e
 | _=>.Constant .none 0 ⟨0,0,0,0⟩
def ZV:Stmt->List Stmt
 | .For _ _ b _ _=>b
 | .If _ b _ _=>b
 | _=>[]
def Uh:Expr->Expr
 | .UnaryOp _ (.Call _ (a::_) _ _) _=>a
 | .Call _ (a::_) _ _=>a
 | e=>e
def Yr:Expr->Arguments
 | .Lambda a _ _ _=>a
 | _=>{posonlyargs:=[],args:=[],vararg:=none,kwonlyargs:=[],kw_defaults:=[],kwarg:=none,defaults:=[]}
def Yq:Expr->Expr
 | .Lambda _ b _ _=>b
 | e=>e
def Za:Expr->Scope
 | .Lambda _ _ s _=>s
 | _=>{kind:=.function,names:=[],isGenerator:=false,isCoroutine:=false}
abbrev zP:Stmt:=.Pass ⟨0,0,0,0⟩
abbrev vf:Expr:=Uh (ZU ((ZV ((qK jI).getD 8 zP)).getD 0 zP))
abbrev vh:Expr:=Uh (ZU ((ZV ((qK jI).getD 9 zP)).getD 0 zP))
abbrev ve:Expr:=Uh (ZU ((ZV ((qK jI).getD 12 zP)).getD 0 zP))
abbrev vg:Expr:=Uh (ZU ((ZV ((qK Zp).getD 1 zP)).getD 0 zP))
def z7 (K:PySem.W.Frag) (H:Hp) (v:V):Prop:=(∃z:Str,v=.str z/\z.length<=990/\X1 z none)\/∃t,TyOf K H v t/\PySem.W.kitOne K t (.type "str")=some false
def Wi (CX:Addr) (bad:Hp->V->Prop):Sp:=λvs H Q E=>∃v,vs=[v]/\bad H v/\Vv CX v H E
def Kd (K:PySem.W.Frag) (lm:Expr) (bad:Hp->V->Prop):Prop:=(lm=vf/\bad=λH v=>Jc K H 15 v)\/(lm=vh/\bad=λH v=>Jc K H 65535 v)\/((lm=ve\/lm=vg)/\bad=λH v=>z7 K H v)
def Ur (CN CE CX:Addr) (K:PySem.W.Frag):Sp:=λvs H Q E=>∃v,vs=[v]/\((∃z:Str,v=.str z/\z.length<=990/\(∀u H' a,X1 z (some u)->Same H H'->Jb CN CE H' a u->Q (.ref a) H')/\(X1 z none->Vv CX v H E))\/((∃t,TyOf K H v t/\PySem.W.kitOne K t (.type "str")=some false)/\Vv CX v H E))
section
variable {P:Program} {w:World} {K:PySem.W.Frag} {mg:Str->Option Value} {base:Heap}
theorem v9:qu ["text","figures"] ["text"] (ql QX):=⟨rfl,rfl,rfl,by decide+kernel,rfl,by decide+kernel,by decide+kernel⟩
theorem YZ {f fT fE:Addr} {fd fdT fdE:FuncData} (F:jQ K "read_worth" "read_worth" QX f fd) (B:QA mg) (T:Wk K mg) (h:WF K mg) (hT:jB K mg "number_texts" Yj [] fT fdT) (hE:jB K mg "read_endless" Zw ["text"] fE fdE):qo P w K mg base (Qz P w) 6 f fd ["text"] (Ur h.CN h.CE h.CX K):=by
 have GT:qo P w K mg base qN 1 fT fdT [] Wg:=WD hT.fn B T h
 have GR:qo P w K mg base (Qz P w) 5 fE fdE ["text"] (Wd h.CN h.CE h.CX):=VW hE.fn B T h hT
 have GN:qo P w K mg base qN 3 h.fNI h.dNI ["self","number"] (Qe h.CN "number" 15):=h.gNI B T
 have GP:qo P w K mg base qN 1 h.fXI h.dXI ["self","found"] (v5 h.CX "found"):=Qu h.xW
 refine F.okX v9 (λvs H Q E z=>?_) (λcdv A outer s H vs Q E hr z=>?_)
 . obtain⟨z,rfl,_⟩:=z
   rfl
 . obtain⟨v,rfl,z⟩:=z
   refine⟨_,qh (qJ (jh (qZ (qF qG (by rfl) T.isi boot_isinstance (qd (jv 0) (qd (jE (v:=.ty "str") (by rfl) h.str boot_str rfl) qf)))))
       (qi (Qk rfl jX (Qn h.xW.mkr GP (hr.mono (by decide)) (by rfl) h.xW.ns h.xW.bi jJ (qd (jv 0) qf)))) qv)
     (qh (qB (i:=1) v9.nd rfl (Or.inl rfl) (zO GT (hr.mono (by decide)) (by rfl) hT.ns hT.fn.kp hT.bi .nil jJ))
     (qh (qJ (qC jZ (jv 0) (jv 1) (by with_unfolding_all rfl)) (qi (qt (Qw h.cN.mkr GN (hr.mono (by decide)) (by rfl) h.cN.ns h.cN.bi .nil jJ (qd (QI PySem.F.plainAttrs_list PySem.F.slot_list_index PySem.F.type_list_index zJ (jv 1) (qd (jv 0) qf)) qf)))) qv)
     (qi (qt (Xa hE GR hr Xs (by rfl) (qd (jv 0) qf)))))),?_⟩
   rcases z with ⟨z,rfl,hz,qa,qb⟩ | ⟨⟨t,ty,e⟩,qb⟩
   . refine⟨_,rfl,_,_,_,_,rfl,rfl,.str z,h.kss,_,rfl,jq ?_⟩
     refine⟨rfl,λl1 H1 s1 h1=>?_⟩
     refine⟨_,rfl,_,rfl,l1,_,rfl,.inl (.of h1),rfl,Jf _,_,rfl,?_⟩
     show if X3 (.str z) (QC.map V.str)=true then _ else _
     rw[Zc]
     by_cases hm:z∈QC
     . obtain⟨n,hn,rfl⟩:=Q0.mp hm
       refine jm (decide_eq_true hm) ⟨_,rfl,.inl ⟨rfl,_,.of h1⟩,_,rfl,l1,QC,jO n,n,rfl,rfl,.of h1,Q5 hn,λi hi e=>?_,λx dx hx hd hne=>⟨x,dx,_,rfl,by omega,by omega,qe,rfl,?_⟩⟩
       . have hi':i < 16:=Nat.lt_trans hi hn
         rw[Q5 hi']at e
         exact absurd (Q8 i hi' n hn (Option.some.inj e)) (Nat.ne_of_lt hi)
       . obtain⟨s6,i6⟩:=Y0 (CN:=h.CN) (CE:=h.CE) (n:=n) hx hd hne
         exact qa (.num n) _ x ⟨hn,rfl⟩ (s1.trans s6) i6
     . refine ja (decide_eq_false hm) ⟨_,rfl,z,rfl,hz,λb H' a hb ez s2 i2=>qa (.edl b) H' a ⟨hb,ez⟩ (s1.trans s2) i2,λhb=>(qb λu hu=>?_).same s1⟩
       cases u with
       | num n=>exact λe=>hm (Q0.mpr ⟨n,hu,e⟩)
       | edl b=>exact hb b hu
   . refine⟨_,rfl,_,_,_,_,rfl,rfl,ty,e,_,rfl,j3 ⟨_,rfl,by show 1<=sizeLine;decide,λe he=>⟨e,v,rfl,qe,λdx hdx=>⟨rfl,e,h.CX,dx,rfl,(js he hdx).2.1,h.xW.rcls,?_⟩⟩⟩⟩
     obtain⟨m1,m2,m3⟩:=js (C:=h.CX) (fs:=[(Str.ofString "found",v)]) he hdx
     exact qb _ dx m1 m3
abbrev Wh (K:PySem.W.Frag) (CX PT f:Addr) (qual:Str) (lm:Expr) (bad:Hp->V->Prop) (fd:FuncData):Sp:=λvs H Q E=>∃ws,Vp H PT f qual (Yr lm) (Yq lm) (Za lm) fd ws/\(ws=[]/\Wi CX bad vs H Q E)
theorem yx:Qq ["_law_found"] ["_law_found"] [] (Za vf):=⟨rfl,rfl,rfl,by decide+kernel,rfl,by decide+kernel,by decide+kernel,by decide+kernel,by decide+kernel⟩
theorem yz:Qq ["_law_found"] ["_law_found"] [] (Za vh):=⟨rfl,rfl,rfl,by decide+kernel,rfl,by decide+kernel,by decide+kernel,by decide+kernel,by decide+kernel⟩
theorem yw:Qq ["_law_found"] ["_law_found"] [] (Za ve):=⟨rfl,rfl,rfl,by decide+kernel,rfl,by decide+kernel,by decide+kernel,by decide+kernel,by decide+kernel⟩
theorem yy:Qq ["_law_found"] ["_law_found"] [] (Za vg):=⟨rfl,rfl,rfl,by decide+kernel,rfl,by decide+kernel,by decide+kernel,by decide+kernel,by decide+kernel⟩
theorem Jc.mono {H H':Hp} {hi:Int} {v:V} (h:Jc K H hi v) (s:Same H H'):Jc K H' hi v:=by
 rcases h with h | h | ⟨t,a,b⟩
 . exact .inl h
 . exact .inr (.inl h)
 . exact .inr (.inr ⟨t,Rh.TyOf.mono a s,b⟩)
theorem QV {H:Hp} {x dx C:Addr} (hx:H x=none) (hd:H dx=none):Same H (qr (qr H dx (.own x)) x (.ins C dx [])):=λb o hb=>by rw[qg (qk hb hx),qg (qk hb hd)];exact hb
theorem U8 {PT f:Addr} {qual:Str} {fd:FuncData} (B:QA mg) (T:Wk K mg) (h:WF K mg):qo P w K mg base (Qz P w) 7 f fd ["_law_found"] (Wh K h.CX PT f qual vf (λH v=>Jc K H 15 v) fd):=by
 refine JN (PT:=PT) (qual:=qual) (ag:=Yr vf) (be:=Yq vf) (sc:=Za vf) (fr:=[]) (sp:=λws vs H Q E=>ws=[]/\Wi h.CX (λH v=>Jc K H 15 v) vs H Q E) yx (λws vs H Q E z=>?_) (λc' cl A outer s H ws vs Q E hr z=>?_)
 . obtain⟨rfl,v,rfl,_⟩:=z
   exact⟨rfl,rfl⟩
 . obtain⟨rfl,v,rfl,hb,q⟩:=z
   refine⟨_,Qw h.cN.mkr (Xx h B T) (hr.mono (by decide)) (by rfl) h.cN.ns h.cN.bi .nil j6 (qd (jv 0) qf),?_⟩
   exact⟨_,rfl,λx dx hx hd hne=>⟨x,v,rfl,hb.mono (QV hx hd),q.same (QV hx hd)⟩⟩
theorem va {PT f:Addr} {qual:Str} {fd:FuncData} (B:QA mg) (T:Wk K mg) (h:WF K mg):qo P w K mg base (Qz P w) 7 f fd ["_law_found"] (Wh K h.CX PT f qual vh (λH v=>Jc K H 65535 v) fd):=by
 refine JN (PT:=PT) (qual:=qual) (ag:=Yr vh) (be:=Yq vh) (sc:=Za vh) (fr:=[]) (sp:=λws vs H Q E=>ws=[]/\Wi h.CX (λH v=>Jc K H 65535 v) vs H Q E) yz (λws vs H Q E z=>?_) (λc' cl A outer s H ws vs Q E hr z=>?_)
 . obtain⟨rfl,v,rfl,_⟩:=z
   exact⟨rfl,rfl⟩
 . obtain⟨rfl,v,rfl,hb,q⟩:=z
   refine⟨_,Qw h.cE.mkr (Xz h B T) (hr.mono (by decide)) (by rfl) h.cE.ns h.cE.bi .nil j6 (qd (jv 0) qf),?_⟩
   exact⟨_,rfl,λx dx hx hd hne=>⟨x,v,rfl,hb.mono (QV hx hd),q.same (QV hx hd)⟩⟩
theorem UD {CN CE CX:Addr} {H:Hp} {v:V} {Q:VK} {E:XK} (h:z7 K H v) (q:Vv CX v H E):Ur CN CE CX K [v] H Q E:=by
 rcases h with ⟨z,rfl,hz,hd⟩ | h
 . exact⟨_,rfl,.inl ⟨z,rfl,hz,λu H' a hu _ _=>absurd hu.2 (hd u hu.1),λ_=>q⟩⟩
 . exact⟨_,rfl,.inr ⟨h,q⟩⟩
theorem U7 {PT f fR:Addr} {qual:Str} {fd fdR:FuncData} (h:WF K mg) (hR:jB K mg "read_worth" QX ["text"] fR fdR) (GR:qo P w K mg base (Qz P w) 6 fR fdR ["text"] (Ur h.CN h.CE h.CX K)):qo P w K mg base (Qz P w) 7 f fd ["_law_found"] (Wh K h.CX PT f qual ve (λH v=>z7 K H v) fd):=by
 refine JN (PT:=PT) (qual:=qual) (ag:=Yr ve) (be:=Yq ve) (sc:=Za ve) (fr:=[]) (sp:=λws vs H Q E=>ws=[]/\Wi h.CX (λH v=>z7 K H v) vs H Q E) yw (λws vs H Q E z=>?_) (λc' cl A outer s H ws vs Q E hr z=>?_)
 . obtain⟨rfl,v,rfl,_⟩:=z
   exact⟨rfl,rfl⟩
 . obtain⟨rfl,v,rfl,hb,q⟩:=z
   exact⟨_,Xa hR GR hr j6 (by rfl) (qd (jv 0) qf),_,rfl,UD hb q⟩
theorem U9 {PT f fR:Addr} {qual:Str} {fd fdR:FuncData} (h:WF K mg) (hR:jB K mg "read_worth" QX ["text"] fR fdR) (GR:qo P w K mg base (Qz P w) 6 fR fdR ["text"] (Ur h.CN h.CE h.CX K)):qo P w K mg base (Qz P w) 7 f fd ["_law_found"] (Wh K h.CX PT f qual vg (λH v=>z7 K H v) fd):=by
 refine JN (PT:=PT) (qual:=qual) (ag:=Yr vg) (be:=Yq vg) (sc:=Za vg) (fr:=[]) (sp:=λws vs H Q E=>ws=[]/\Wi h.CX (λH v=>z7 K H v) vs H Q E) yy (λws vs H Q E z=>?_) (λc' cl A outer s H ws vs Q E hr z=>?_)
 . obtain⟨rfl,v,rfl,_⟩:=z
   exact⟨rfl,rfl⟩
 . obtain⟨rfl,v,rfl,hb,q⟩:=z
   exact⟨_,Xa hR GR hr j6 (by rfl) (qd (jv 0) qf),_,rfl,UD hb q⟩
def CMk (K:PySem.W.Frag) (CX f:Addr) (fd:FuncData) (sp:Sp):Prop:=∃(PT:Addr) (qual:Str) (lm:Expr) (bad:Hp->V->Prop),Kd K lm bad/\(∃(pm ctv:Value) (c':Addr) (cl:List (Str×Addr)),fd=PySem.W.kla_fn "<lambda>" qual (Yr lm) (Yq lm) (Za lm) cl pm (.ref c') ctv)/\sp=Wh K CX PT f qual lm bad fd
theorem vy {fR:Addr} {fdR:FuncData} (B:QA mg) (T:Wk K mg) (h:WF K mg) (hR:jB K mg "read_worth" QX ["text"] fR fdR) (GR:qo P w K mg base (Qz P w) 6 fR fdR ["text"] (Ur h.CN h.CE h.CX K)):∀f fd sp,CMk K h.CX f fd sp->qo P w K mg base (Qz P w) 7 f fd ["_law_found"] sp/\qX K fd ["_law_found"] []:=by
 rintro f fd sp ⟨PT,qual,lm,bad,hk,⟨pm,ctv,c',cl,rfl⟩,rfl⟩
 rcases hk with ⟨rfl,rfl⟩ | ⟨rfl,rfl⟩ | ⟨rfl | rfl,rfl⟩
 . exact⟨U8 B T h,.all λus hl=>by obtain⟨_,rfl⟩:=jz hl;rfl⟩
 . exact⟨va B T h,.all λus hl=>by obtain⟨_,rfl⟩:=jz hl;rfl⟩
 . exact⟨U7 h hR GR,.all λus hl=>by obtain⟨_,rfl⟩:=jz hl;rfl⟩
 . exact⟨U9 h hR GR,.all λus hl=>by obtain⟨_,rfl⟩:=jz hl;rfl⟩
def Wj (K:PySem.W.Frag) (CX:Addr):Sp:=λvs H Q _=>∃(f:Addr) (v:V) (fd:FuncData) (PT:Addr) (qual:Str) (lm:Expr) (bad:Hp->V->Prop),vs=[.ref f,v]/\Kd K lm bad/\Vp H PT f qual (Yr lm) (Yq lm) (Za lm) fd []/\bad H v/\Ul K H v/\∀H',Qd H H'->Q (.bl true) H'
abbrev nRf:List Str:=["_law_make","_law_thing","_law_error","e"]
abbrev vG:List Str:=["_law_make","_law_thing"]
theorem VH:qu nRf vG (ql Qf):=⟨rfl,rfl,rfl,by decide+kernel,rfl,by decide+kernel,by decide+kernel⟩
theorem Jq {f fR:Addr} {fd fdR:FuncData} (F:jQ K "_law_refused" "_law_refused" Qf f fd) (B:QA mg) (T:Wk K mg) (h:WF K mg) (hR:jB K mg "read_worth" QX ["text"] fR fdR) (GR:qo P w K mg base (Qz P w) 6 fR fdR ["text"] (Ur h.CN h.CE h.CX K)) (Z:Uk K mg h.D h.CX):qo P w K mg base qN 8 f fd vG (Wj K h.CX):=by
 have GM:=vy (P:=P) (w:=w) (base:=base) B T h hR GR
 refine F.okJ VH (λvs H Q E z=>?_) (λcdv A outer s H vs Q E hr z=>?_)
 . obtain⟨f,v,fd,PT,qual,lm,bad,rfl,_⟩:=z
   rfl
 . obtain⟨f,v,fd,PT,qual,lm,bad,rfl,hk,cl,hb,hd,q⟩:=z
   refine⟨_,qh (qB (i:=2) VH.nd rfl (Or.inl rfl) Jj)
     (qh (vn rfl rfl (λpn W E hE=>qi (Y5 (WX (i:=0) (C:=CMk K h.CX) rfl (.inl rfl) (λf fd sp c=>⟨7,_,(GM f fd sp c).1,hr,(GM f fd sp c).2⟩) hE (qd (jv 1) qf))))
       (WV (j:=3) (ts:=VB (JQ 3) (Jv 2)) (by rfl) Z.nD Z.cD VH.nd rfl rfl (λv E=>qi (qB (i:=2) VH.nd rfl (Or.inl rfl) (jv 3))) WU))
     (qh (qJ (jh (qZ (qF (zY (bm:=.ref h.D::jw) Z.spc Z.tks) (by rfl) T.isi boot_isinstance (qd (jv 2) (qd (jD (v:=.ref h.CX) (by rfl) h.xW.ns rfl) qf))))) (qi (qt QJ)) qv)
     (qi (qt (jA (qM (jC.or (U4 hr.units)) (Xb (bm:=.ref h.D::jw) (jv 2) rfl) (jv 1) (qx _)) (Qm (qM jC (qF qG (by rfl) T.isi boot_isinstance (qd (Xb (bm:=.ref h.D::jw) (jv 2) rfl) (qd (jE (v:=.ty "bool") (by rfl) T.bool boot_bool rfl) qf))) (qF qG (by rfl) T.isi boot_isinstance (qd (jv 1) (qd (jE (v:=.ty "bool") (by rfl) T.bool boot_bool rfl) qf))) (qx _)))))))),?_⟩
   obtain⟨pm,ctv,c',cl',oc,efd,hf,_⟩:=cl.ex
   refine⟨λC dx Hx=>C=h.CX/\Same H Hx/\Hx dx=some (.xd [(Str.ofString "found",v)]),⟨f,fd,_,rfl,⟨PT,qual,lm,bad,hk,⟨pm,ctv,c',cl',efd⟩,rfl⟩,hf,_,rfl,hf,[],cl,rfl,v,rfl,hb,λH1 dx s1 h1=>⟨rfl,h.CX,dx,rfl,rfl,rfl,s1,h1⟩⟩,?_⟩
   rintro a C dx T' Hx H' ⟨rfl,sx,hdx⟩ ha kp ha'
   have nda:dx≠a:=λz=>by
     rw[z,ha]at hdx
     cases hdx
   have hdx':=kp dx _ nda hdx
   have k1:Qd H H':=λb o hb nx=>kp b o (λz=>by
     rw[z]at hb
     have:=sx _ _ hb
     rw[ha]at this
     exact nx _ (Option.some.inj this).symm) (sx _ _ hb)
   have lk:([(Str.ofString "found",v)]:List (Str×V)).lookup (Str.ofString "found")=some v:=by simp [List.lookup]
   obtain⟨hd1,t,b,ty,kb⟩:=hd.keep k1
   refine⟨h.fXI,_,h.xW.mkr,?_⟩
   rw[if_pos (by simp [List.contains_cons])]
   refine⟨_,rfl,?_⟩
   refine⟨_,rfl,a,_,dx,_,_,.ref h.CX,true,rfl,rfl,ha',hdx',h.xW.cls,Z.kp,_,rfl,jq ?_⟩
   refine⟨_,rfl,a,_,dx,_,_,v,rfl,ha',hdx',h.xW.cls,h.xW.na,lk,_,rfl,?_⟩
   rcases hd1 with ⟨z,rfl⟩ | ⟨d,dv,sh⟩
   . refine .inl ⟨rfl,_,rfl,jm (decide_eq_true rfl) ?_⟩
     refine⟨_,rfl,a,_,dx,_,_,_,rfl,ha',hdx',h.xW.cls,h.xW.na,lk,_,_,t,b,rfl,rfl,ty,kb,_,rfl,_,_,t,b,rfl,rfl,ty,kb,rfl,?_⟩
     rw[decide_eq_true rfl]
     exact q _ k1
   . refine .inr ⟨d,dv,dv,sh,_,rfl,j3 ?_⟩
     refine⟨_,rfl,a,_,dx,_,_,v,rfl,ha',hdx',h.xW.cls,h.xW.na,lk,_,_,t,b,rfl,rfl,ty,kb,_,rfl,_,_,t,b,rfl,rfl,ty,kb,rfl,?_⟩
     rw[decide_eq_true rfl]
     exact q _ k1
end
end Rh
set_option Elab.async false
set_option linter.all false
set_option maxRecDepth 100000
set_option maxHeartbeats 4000000
namespace Rh
open PySem L2 PyProof.Rows Rb
theorem wN:decide (V.str (Str.ofString "endless")=V.str (Str.ofString "number"))=false:=by decide+kernel
theorem wE:decide (V.str (Str.ofString "number")=V.str (Str.ofString "endless"))=false:=by decide+kernel
theorem jR (a b:Str):(a++b).cps.toList=a.cps.toList++b.cps.toList:=by show (a.cps++b.cps).toList=_;simp
theorem ZC (a:Str):∀l:List Str,Str.join ⟨#[32]⟩ (a::l)=a++Str.join Str.empty (l.map λy=>Str.ofString " "++y):=by
 have cons0:∀(x:Str) (l:List Str),(Str.join Str.empty (x::l)).cps.toList=x.cps.toList++(Str.join Str.empty l).cps.toList:=λx l=>by
   cases l with
   | nil=>show x.cps.toList=x.cps.toList++(Str.empty).cps.toList;simp [Str.empty]
   | cons y l=>show ((x++Str.empty)++Str.join Str.empty (y::l)).cps.toList=_;rw[jR,jR];simp [Str.empty]
 intro l
 induction l generalizing a with
 | nil=>refine JB ?_;rw[jR];show a.cps.toList=a.cps.toList++(Str.empty).cps.toList;simp [Str.empty]
 | cons x l ih=>
   refine JB ?_
   show ((a++⟨#[32]⟩)++Str.join ⟨#[32]⟩ (x::l)).cps.toList=_
   rw[ih x,jR,jR,jR,jR,List.map_cons,cons0,jR,Wm]
   simp
theorem WN (ns:List Nat):Str.ofString "endless"++Txt.join Str.empty (ns.map λn=>Str.ofString " "++jO n)=ji ns:=by
 rw[zf]
 unfold ji
 rw[ZC,List.map_map]
 rfl
def j0 (z:Str):List Nat:=(List.range 16).filter λk=>decide (jO k∈Zr z)
theorem Y2 (z:Str):∀k∈j0 z,k < 16:=λk h=>List.mem_range.mp (List.mem_filter.mp h).1
theorem vd (b:Nat):j0 (ji (memN b 16))=memN b 16:=by
 unfold j0
 conv=>rhs;unfold memN
 refine List.filter_congr λk hk=>?_
 have hk':=List.mem_range.mp hk
 rw[X6 (ju b),Bool.eq_iff_iff,decide_eq_true_iff,List.mem_map]
 constructor
 . rintro⟨n,hn,e⟩
   have:=Q8 n (ju b n hn) k hk' e
   subst this
   exact(QZ.mp hn).2
 . exact λh=>⟨k,QZ.mpr ⟨hk',h⟩,rfl⟩
theorem XR {α β:Type} (p:α->Bool) (f:α->β) (l:List α):(l.filterMap λx=>if p x=true then some (f x) else none)=(l.filter p).map f:=by
 induction l with
 | nil=>rfl
 | cons x l ih=>
   cases c:p x<;>simp [c,ih]
section
variable {P:Program} {w:World} {K:PySem.W.Frag} {mg:Str->Option Value} {base:Heap}
def ZZ:Sp:=λvs H Q _=>∃p u,vs=[.ref p]/\UG H p u/\Vr u/\∀H',Same H H'->Q (.str (Jd u)) H'
theorem UO:qu ["_law_worth"] ["_law_worth"] (ql JZ):=⟨rfl,rfl,rfl,by decide+kernel,rfl,by decide+kernel,by decide+kernel⟩
theorem Z9 {f fM:Addr} {fd fdM:FuncData} (F:jQ K "_law_text" "_law_text" JZ f fd) (B:QA mg) (h:WF K mg) (hM:jB K mg "_law_members" zE ["_law_bits"] fM fdM):qo P w K mg base qN 2 f fd ["_law_worth"] ZZ:=by
 have GM:qo P w K mg base qN 1 fM fdM ["_law_bits"] QT:=U6 hM.fn B
 refine F.okJ UO (λvs H Q E z=>?_) (λcdv A outer s H vs Q E hr z=>?_)
 . obtain⟨p,u,rfl,_⟩:=z
   rfl
 . obtain⟨p,u,rfl,hT,hu,q⟩:=z
   refine⟨_,qh (qJ (qC jC (jy QN (jv 0) qj (λ_ _=>rfl)) qq (qx _)) (qi (qt (qT jr (by rfl) h.str boot_str (qd (jy QN (jv 0) qj (λ_ _=>rfl)) qf)))) qv)
     (qi (qt (qz qV qq (QI PySem.F.plainAttrs_str PySem.F.slot_str_join PySem.F.type_str_join JJ qq (qd
       (ZF (N':=["_law_k"]) (ix:=[none]) rfl ⟨rfl,rfl,rfl,rfl,rfl⟩ (jS (qR hM GM hr (by rfl) (qd (jy QN (jv 0) qj (λ_ _=>rfl)) qf)))
         (λC s2 H2 fp pins=>⟨qQ (i:=0) (yL _) rfl (Or.inl rfl),Q2,qz qV qq (qT jr (by rfl) h.str boot_str (qd (jv 0) qf))⟩)) qf))))),?_⟩
   refine⟨_,rfl,p,_,0,.str (qY u),rfl,rfl,.of hT,rfl,rfl,_,rfl,?_⟩
   cases u with
   | num n=>
     have hn:n < 16:=hu
     refine jm (decide_eq_true rfl) ⟨_,rfl,p,_,1,.int (n:Nat),rfl,rfl,.of hT,rfl,_,rfl,by omega,by omega,q H (Same.refl H)⟩
   | edl b=>
     have hb:b < 65536:=hu
     refine ja wN ⟨rfl,_,rfl,p,_,1,.int (b:Nat),rfl,rfl,.of hT,rfl,b,rfl,hb,λl2 f2=>⟨l2,rfl,⟨_,.of qe⟩,λD hD=>?_⟩⟩
     have s2:=qm (o:=HO.lst (Ju (memN b 16))) f2
     have l1:(Str.ofString " ").length=1:=by decide+kernel
     refine zl (K:=K) (a:=l2) (xs:=memN b 16) (enc:=λn=>V.int (n:Nat)) (out:=λn=>some (V.str (Str.ofString " "++jO n))) (rest:=[]) hD qe (qE (Nat.le_trans (jL b) (by decide))) (λx hx Y sY R hR=>hR Y (Same.refl Y)) (λx hx v ev Y sY R hR=>?_) (λH5 s5 hD5=>?_)
     . cases ev
       have hx':=ju b x hx
       have:=Q7 x hx'
       exact⟨_,rfl,_,rfl,by omega,by omega,_,_,rfl,rfl,Nat.le_of_lt (qE (by rw[l1];exact Nat.le_trans (Nat.add_le_add_left this 1) (by decide))),hR Y (Same.refl Y)⟩
     . rw[Q4]at hD5
       have hs:(((memN b 16).map λn=>Str.ofString " "++jO n).map (·.length)).sum<=3*(memN b 16).length:=by
         have:∀ns:List Nat,(∀n∈ns,n < 16)->((ns.map λn=>Str.ofString " "++jO n).map (·.length)).sum<=3*ns.length:=by
           intro ns
           induction ns with
           | nil=>intro _;exact Nat.zero_le _
           | cons n ns ih=>
             intro hh
             have h1:=Q7 n (hh n List.mem_cons_self)
             have h2:=ih λm hm=>hh m (List.mem_cons_of_mem _ hm)
             simp only[List.map_cons,List.sum_cons,List.length_cons]
             rw[Str.length_append,l1]
             omega
         exact this _ (ju b)
       have hl:=jL b
       refine⟨_,D,(memN b 16).map λn=>Str.ofString " "++jO n,rfl,rfl,.of (by rw[List.map_map];exact hD5),?_,?_⟩
       . rw[List.length_map]
         show _+(memN b 16).length*0<=_
         omega
       . have e:=WN (memN b 16)
         refine⟨_,_,rfl,rfl,?_,?_⟩
         . rw[<-Str.length_append]
           have:=ZD (ju b) (jL b)
           have e':(Str.ofString "endless"++Txt.join Str.empty ((memN b 16).map λn=>Str.ofString " "++jO n)).length<=60:=by rw[e];exact this
           exact Nat.le_trans e' (Nat.le_of_lt (qE (by decide)))
         . have q:=q H5 (s2.trans s5)
           have q:Q (.str (ji (memN b 16))) H5:=q
           rw[<-e]at q
           exact q
def Us:Sp:=λvs H Q _=>∃z:Str,vs=[.str z]/\z.length<=990/\(∀H',Same H H'->X1 z none->Q .non H')/\(∀H' p u,Same H H'->UG H' p u->X1 z (some u)->Q (.ref p) H')
abbrev nDu:List Str:=["_law_text_here","_law_k","_law_words","_law_members_here","_law_bits"]
theorem Yi:qu nDu ["_law_text_here"] (ql Wr):=⟨rfl,rfl,rfl,by decide+kernel,rfl,by decide+kernel,by decide+kernel⟩
theorem vc {f fM fX:Addr} {fd fdM fdX:FuncData} (F:jQ K "_law_due" "_law_due" Wr f fd) (B:QA mg) (h:WF K mg) (hM:jB K mg "_law_members" zE ["_law_bits"] fM fdM) (hX:jB K mg "_law_text" JZ ["_law_worth"] fX fdX):qo P w K mg base qN 3 f fd ["_law_text_here"] Us:=by
 have GX:qo P w K mg base qN 2 fX fdX ["_law_worth"] ZZ:=Z9 hX.fn B h hM
 refine F.okJ Yi (λvs H Q E z=>?_) (λcdv A outer s H vs Q E hr z=>?_)
 . obtain⟨z,rfl,_⟩:=z
   rfl
 . obtain⟨z,rfl,hz,qa,qb⟩:=z
   refine⟨_,qh (Ql PassesOwn.never rfl (jG (by rfl) B.rng (qd qj qf)) (qQ (i:=1) Yi.nd rfl (Or.inl rfl)) (qi (qJ (qC jC (jv 0) (qT jr (by rfl) h.str boot_str (qd (jv 1) qf)) (qx _)) (qi (qt (jM (qd qq (qd (jv 1) qf))))) qv)))
     (qh (qB (i:=2) Yi.nd rfl (Or.inr rfl) (QI PySem.F.plainAttrs_str PySem.F.slot_str_split PySem.F.type_str_split J7 (jv 0) (qd qq qf)))
     (qh (qJ (qC Zx (jy jF (jv 2) qj (λ_ _=>rfl)) qq (qx _)) (qi (qt Jj)) qv)
     (qh (WR (i:=3) (N':=["_law_k","_law_words"]) (ix:=[none,some 2]) (tt:=Uo (vF (yH K false) (yq Uu (Wb (JQ 0) zw)) (tSl (kh K) (JQ 1) (Up (tC (.int 1))) YC))) (te:=JQ 0) Yi.nd rfl (Or.inl rfl) rfl ⟨rfl,rfl,rfl,rfl,rfl⟩ (jG (by rfl) B.rng (qd qj qf)) (λC s2 H2 fp pins=>
         ⟨qQ (i:=0) (show (["_law_k","_law_words"]:List Str).Nodup by decide+kernel) rfl (Or.inl rfl),Y4 (qC jZ (qT jr (by rfl) h.str boot_str (qd (jv 0) qf)) (qW QU (jv 1) (jk qj) jl) (by with_unfolding_all rfl)),jv 0⟩))
     (qh (qB (i:=4) Yi.nd rfl (Or.inl rfl) qj)
     (qh (Ql PassesOwn.never rfl (XJ (by rfl) B.rng (qd qj (qd (Y9 ZS qj) (qd (Y9 ZS qj) qf)))) (qQ (i:=1) Yi.nd rfl (Or.inl rfl))
       (qi (qB (i:=4) Yi.nd rfl (Or.inl rfl) (qz jK (qz QK qj (jv 4)) (qT Jn (by rfl) B.int boot_int (qd (qM jZ (jv 1) (jv 3) (by with_unfolding_all rfl)) qf))))))
     (qh (qJ (qC Zx (qR hX GX hr (by rfl) (qd (jM (qd qq (qd (jv 4) qf))) qf)) (jv 0) (qx _)) (qi (qt Jj)) qv)
     (qi (qt (jM (qd qq (qd (jv 4) qf))))))))))),?_⟩
   refine⟨16,rfl,by decide,by decide,?_⟩
   refine Jl (n:=16) (λi σ G=>∃v,σ=[some (.str z),v,none,none,none]/\G=H/\∀k,k < i->z≠jO k) ⟨none,rfl,rfl,λk hk=>absurd hk (Nat.not_lt_zero k)⟩ ?_ ?_
   . rintro i σ G hi ⟨v,rfl,rfl,hk⟩
     rw[Int.zero_add]
     refine⟨_,rfl,_,rfl,_,rfl,by omega,by omega,rfl,_,rfl,?_⟩
     by_cases e:z=jO i
     . refine jm (decide_eq_true (by rw[e];rfl)) ⟨_,rfl,by show 2<=sizeLine;decide,λp hp=>?_⟩
       exact qb _ p (.num i) (qm hp) qe ⟨hi,e⟩
     . refine ja (decide_eq_false λq=>e (V.str.inj q)) ⟨some (.int i),rfl,rfl,λk hk'=>?_⟩
       rcases Nat.lt_succ_iff_lt_or_eq.mp hk' with hk' | rfl
       . exact hk k hk'
       . exact e
   . rintro σ G ⟨v,rfl,rfl,hk⟩
     obtain⟨w0,ws,hsp⟩:∃w0 ws,Txt.split z (Str.ofString " ")=w0::ws:=by
       cases e:Txt.split z (Str.ofString " ") with
       | nil=>exact absurd e (zy _ _)
       | cons a l=>exact⟨a,l,rfl⟩
     have hw:Zr z=ws:=by unfold Zr;rw[<-Wm,hsp];rfl
     have nod:∀b,b < 65536->z=ji (memN b 16)->w0=Ze/\j0 z=memN b 16:=λb _ e=>by
       refine⟨?_,by rw[e];exact vd b⟩
       have:=jx (ju b)
       rw[<-e,<-Wm,hsp]at this
       exact(List.cons.inj this).1
     have hwl:ws.length<=1000:=by rw[<-hw];have:=YA z;omega
     refine⟨_,rfl,rfl,z,_,rfl,rfl,by decide+kernel,by omega,λl2 f2=>?_⟩
     rw[hsp,List.map_cons]
     have s2:=qm (o:=HO.lst (V.str w0::ws.map V.str)) f2
     have h2:qr G l2 (HO.lst (V.str w0::ws.map V.str)) l2=some (.lst (V.str w0::ws.map V.str)):=qe
     generalize qr G l2 (HO.lst (V.str w0::ws.map V.str))=H2 at s2 h2
     refine⟨_,rfl,l2,_,0,.str w0,rfl,rfl,.of h2,Qy (j:=0) rfl,rfl,_,rfl,?_⟩
     by_cases e0:w0=Ze
     . refine ja (by rw[e0];decide+kernel) ⟨16,rfl,by decide,by decide,λD hD=>?_⟩
       refine Xi (n:=16) (out:=λk=>if decide (jO k∈Zr z)=true then some (V.int (k:Nat)) else none) (rest:=[some (.ref l2)]) hD (qE (by decide)) (λx hx Y sY R hR=>?_) (λx hx v ev Y sY R hR=>?_) (λH5 s5 hD5=>?_)
       . refine⟨_,rfl,_,rfl,by omega,by omega,_,rfl,1,rfl,l2,_,rfl,.of (sY _ _ h2),λl3 f3=>?_⟩
         rw[zV]
         refine⟨l3,ws.map V.str,rfl,.inl (.of qe),rfl,Jf _,_,rfl,?_⟩
         have r:=hR _ (qm (o:=HO.lst (ws.map V.str)) f3)
         have e:((λk=>if decide (jO k∈Zr z)=true then some (V.int (k:Nat)) else none) x).isSome=X3 (.str (jO x)) (ws.map V.str):=by
           rw[Zc,hw]
           by_cases c:jO x∈ws<;>simp [c]
         rw[e]at r
         exact r
       . by_cases c:jO x∈Zr z
         . simp only[c,decide_true,if_true,Option.some.injEq]at ev
           subst ev
           exact⟨_,rfl,hR Y (Same.refl Y)⟩
         . simp [c]at ev
       . rw[XR]at hD5
         have hD5:H5 D=some (.lst (Ju (j0 z))):=hD5
         have lt:setN (j0 z) < 65536:=YL (m:=16) (Y2 z)
         refine⟨_,rfl,_,rfl,15,-1,rfl,⟨by decide,by decide,by decide,by decide⟩,?_⟩
         show ∃W,_
         refine Yv (hi:=15) (n:=16) (λi σ' G'=>∃v,σ'=[some (.str z),v,some (.ref l2),some (.ref D),some (.int (Rb.hornN (j0 z) 16 i:Nat))]/\G'=H5) ⟨v,rfl,rfl⟩ ?_ ?_
         . rintro i σ' G' hi ⟨v,rfl,rfl⟩
           have e:(15:Int) - (i:Int)=((16 - 1 - i:Nat):Int):=by omega
           rw[e]
           refine⟨_,rfl,_,_,rfl,rfl,.inl ⟨by decide,by decide⟩,_,rfl,_,rfl,D,_,rfl,.inl (.of hD5),rfl,zS _,.inr ⟨_,rfl,_,_,rfl,rfl,some (.int (16 - 1 - i:Nat)),?_,rfl⟩⟩
           have e3:(if (if false=true then !X3 (.int (16 - 1 - i:Nat)) (Ju (j0 z)) else X3 (.int (16 - 1 - i:Nat)) (Ju (j0 z))) then (1:Int) else 0)=((if (16 - 1 - i)∈j0 z then 1 else 0:Nat):Int):=by
             rw[if_neg Bool.false_ne_true,W2]
             by_cases h:(16 - 1 - i)∈j0 z<;>simp [h]
           have e4:((Rb.hornN (j0 z) 16 (i+1):Nat):Int)=2*((Rb.hornN (j0 z) 16 i:Nat):Int)+((if (16 - 1 - i)∈j0 z then 1 else 0:Nat):Int):=by
             show ((2*Rb.hornN (j0 z) 16 i+(if (16 - 1 - i)∈j0 z then 1 else 0):Nat):Int)=_
             push_cast
             rfl
           rw[e4,<-e3]
           rfl
         . rintro σ' G' ⟨v,rfl,rfl⟩
           rw[Rb.horn_set (Y2 z)]
           refine⟨_,rfl,by show 2<=sizeLine;decide,λp hp=>⟨p,.edl (setN (j0 z)),rfl,qe,lt,λH6 s6=>⟨_,rfl,rfl,_,rfl,?_⟩⟩⟩
           have s06:=((s2.trans s5).trans (qm hp)).trans s6
           by_cases ez:z=Jd (.edl (setN (j0 z)))
           . refine ja (by rw[<-ez];simp) ⟨_,rfl,by show 2<=sizeLine;decide,λp2 hp2=>?_⟩
             exact qb _ p2 (.edl (setN (j0 z))) (s06.trans (qm hp2)) qe ⟨lt,ez⟩
           . refine jm ?_ (qa _ s06 λu hu e=>?_)
             . have:¬V.str (Jd (.edl (setN (j0 z))))=V.str z:=λq=>ez (V.str.inj q).symm
               simpa using this
             . cases u with
               | num k=>exact hk k hu e
               | edl b=>
                 have:=(nod b hu e).2
                 exact ez (by rw[this,JC (m:=16) hu];exact e)
     . refine jm ?_ (qa _ s2 λu hu e=>?_)
       . have:¬V.str w0=V.str (Str.ofString "endless"):=λq=>e0 (V.str.inj q)
         simpa using this
       . cases u with
         | num k=>exact hk k hu e
         | edl b=>exact e0 (nod b hu e).1
end
end Rh
set_option Elab.async false
set_option linter.all false
set_option maxRecDepth 100000
set_option maxHeartbeats 4000000
namespace Rh
open PySem L2 PyProof.Rows Rb
def Sk (H:Hp) (d:Addr) (sd:Int) (H':Hp):Prop:=(∀b o,H b=some o->b≠d->H' b=some o)/\∃n t,H' d=some (.dK (jf n sd t))
theorem Sk.take {H G:Hp} {d:Addr} {sd n t:Int} (h:Sk H d sd G):Sk H d sd (qr G d (.dK (jf n sd t))):=⟨λb o hb nb=>by rw[qg nb];exact h.1 b o hb nb,n,t,qe⟩
theorem Sk.same {H G G':Hp} {d:Addr} {sd:Int} (h:Sk H d sd G) (s:Same G G'):Sk H d sd G':=⟨λb o hb nb=>s _ _ (h.1 b o hb nb),let ⟨n,t,e⟩:=h.2;⟨n,t,s _ _ e⟩⟩
theorem Sk.refl {H:Hp} {d:Addr} {sd n t:Int} (h:H d=some (.dK (jf n sd t))):Sk H d sd H:=⟨λ_ _ hb _=>hb,n,t,h⟩
def wt (l:List Str):Nat:=(l.map (·.length)).sum+l.length
theorem UH {l m:List Str} (h:l.Sublist m):wt l<=wt m:=by
 unfold wt
 induction h with
 | slnil=>exact Nat.le_refl _
 | cons a _ ih=>simp only[List.map_cons,List.sum_cons,List.length_cons];omega
 | cons_cons a _ ih=>simp only[List.map_cons,List.sum_cons,List.length_cons];omega
theorem X5 (l m:List Str):wt (l++m)=wt l+wt m:=by unfold wt;rw[List.map_append,List.sum_append,List.length_append];omega
theorem UI (l:List Str):wt l.reverse=wt l:=by unfold wt;rw[List.map_reverse,List.sum_reverse,List.length_reverse]
theorem X4 (z:Str):wt (Txt.split z (Str.ofString " "))<=z.length+1:=split_weight z _ (by decide+kernel)
theorem Zg (l:List Str) (lo hi:Option Int):∃m:List Str,Qb (l.map V.str) lo hi=m.map V.str/\wt m<=wt l:=by
 refine⟨(l.drop (HT.sIx l.length 0 lo)).take (HT.sIx l.length l.length hi - HT.sIx l.length 0 lo),?_,UH ((List.take_sublist _ _).trans (List.drop_sublist _ _))⟩
 unfold Qb
 rw[List.length_map,List.map_take,List.map_drop]
theorem Y7 {l:List Str}:(Txt.join (Str.ofString " ") l).length<=wt l:=by
 rw[zf]
 have:=StrLaws.join_length_le (Str.ofString " ") l
 have e1:(Str.ofString " ").length=1:=by decide+kernel
 rw[e1]at this
 unfold wt
 omega
theorem ZQ (l:List Str):l.length<=wt l:=by unfold wt;omega
section
variable {P:Program} {w:World} {K:PySem.W.Frag} {mg:Str->Option Value} {base:Heap}
def zz:Sp:=λvs H Q _=>∃(d:Addr) (n sd t:Int) (z:Str),vs=[.ref d,.str z]/\H d=some (.dK (jf n sd t))/\z.length<=60/\∀H' z',Sk H d sd H'->z'.length<=300->Q (.str z') H'
abbrev nSp:List Str:=["_law_source_here","_law_text_here","_law_way","_law_at","_law_sign","_law_words"]
abbrev kt:List Str:=["_law_source_here","_law_text_here"]
theorem Wo:qu nSp kt (ql QW):=⟨rfl,rfl,rfl,by decide+kernel,rfl,by decide+kernel,by decide+kernel⟩
abbrev YK:Str:=Str.ofString "0123456789 -ex,+_E"
def Ym:List Str:=[Str.ofString " 16",Str.ofString " ",Str.ofString "\n",Str.ofString " 07",Str.ofString " 100",Str.ofString " +3",Str.ofString " 1_2"]
theorem WK:∀y∈Ym,y.length<=10:=by decide+kernel
theorem Xu {f fT:Addr} {fd fdT:FuncData} (F:jQ K "_law_spoilt" "_law_spoilt" QW f fd) (B:QA mg) (hT:jB K mg "_law_take" Zv ["_law_source_here","_law_many"] fT fdT) (ls:mg "list"=none) (rv:mg "reversed"=none):qo P w K mg base qN 2 f fd kt zz:=by
 have GT:qo P w K mg base qN 1 fT fdT ["_law_source_here","_law_many"] Ye:=YY hT.fn
 refine F.okJ Wo (λvs H Q E z=>?_) (λcdv A outer s H vs Q E hr z=>?_)
 . obtain⟨d,n,sd,t,z,rfl,_⟩:=z
   rfl
 . obtain⟨d,n,sd,t,z,rfl,hd,hz,q⟩:=z
   refine⟨_,qh (qB (i:=2) Wo.nd rfl (Or.inl rfl) (qR hT GT hr (by rfl) (qd (jv 0) (qd qj qf))))
     (qh (qB (i:=3) Wo.nd rfl (Or.inl rfl) (qR hT GT hr (by rfl) (qd (jv 0) (qd (qz jK (qF zk (by rfl) B.len boot_len (qd (jv 1) qf)) qj) qf))))
     (qh (qB (i:=4) Wo.nd rfl (Or.inl rfl) (jy vt qq (qR hT GT hr (by rfl) (qd (jv 0) (qd qj qf))) (λ_ _=>rfl)))
     (qh (qB (i:=5) Wo.nd rfl (Or.inl rfl) (QI PySem.F.plainAttrs_str PySem.F.slot_str_split PySem.F.type_str_split J7 (jv 1) (qd qq qf)))
     (qh (qJ (qC jC (jv 2) qj (qx _)) (qi (qt (qz qV (qz qV (qW Qs (jv 1) jl (jk (jv 3))) (jv 4)) (qW Qs (jv 1) (jk (jv 3)) jl)))) qv)
     (qh (qJ (qC jC (jv 2) qj (qx _)) (qi (qt (qz qV (qW Qs (jv 1) jl (jk (jv 3))) (qW Qs (jv 1) (jk (qz jK (jv 3) qj)) jl)))) qv)
     (qh (qJ (qC jC (jv 2) qj (qx _)) (qi (qt (qz qV (qz qV (qW Qs (jv 1) jl (jk (jv 3))) (jv 4)) (qW Qs (jv 1) (jk (qz jK (jv 3) qj)) jl)))) qv)
     (qh (qJ (qC jC (jv 2) qj (qx _)) (qi (qt (QI PySem.F.plainAttrs_str PySem.F.slot_str_join PySem.F.type_str_join JJ qq (qd (qz Z8 (qW QU (jv 5) jl (jk qj)) (vp rfl (by rfl) ls (by rfl) rv (qW QU (jv 5) (jk qj) jl))) qf)))) qv)
     (qh (qJ (qC jC (jv 2) qj (qx _)) (qi (qt (QI PySem.F.plainAttrs_str PySem.F.slot_str_join PySem.F.type_str_join JJ qq (qd (qz Z8 (jv 5) (qW QU (jv 5) (jk (Y9 ZS qj)) jl)) qf)))) qv)
     (qh (qJ (qC jC (jv 2) qj (qx _)) (qi (qt (qz qV (jv 1) (jy jF (jc (qd qq (qd qq (qd qq (qd qq (qd qq (qd qq (qd qq qf)))))))) (qR hT GT hr (by rfl) (qd (jv 0) (qd qj qf))) (λ_ _=>rfl))))) qv)
     (qi (qt (jv 1)))))))))))),?_⟩
   have hz':z.length<=sizeLine:=Nat.le_of_lt (qE (by omega))
   refine⟨_,rfl,d,8,n,sd,t,rfl,hd,by decide,by decide,λr0 n0 t0 a0 b0=>?_⟩
   refine⟨_,rfl,_,rfl,z,rfl,hz',_,_,rfl,rfl,d,_,_,_,_,rfl,qe,by omega,by omega,λr1 n1 t1 a1 b1=>?_⟩
   refine⟨_,rfl,d,18,_,_,_,rfl,qe,by decide,by decide,λr2 n2 t2 a2 b2=>?_⟩
   have k3:Sk H d sd (qr (qr (qr H d (.dK (jf n0 sd t0))) d (.dK (jf n1 sd t1))) d (.dK (jf n2 sd t2))):=(Sk.refl hd).take.take.take
   generalize qr (qr (qr H d (.dK (jf n0 sd t0))) d (.dK (jf n1 sd t1))) d (.dK (jf n2 sd t2))=G at k3
   obtain⟨c,hc⟩:∃c,zZ YK.cps.toList r2=some c:=by
     have e:r2=((r2.toNat:Nat):Int):=by omega
     have hl:YK.cps.toList.length=18:=by decide+kernel
     have hi:r2.toNat < YK.cps.toList.length:=by omega
     exact⟨_,by rw[e];exact Qy (List.getElem?_eq_getElem hi)⟩
   refine⟨YK,r2,c,rfl,rfl,Nat.le_of_lt (qE (by decide+kernel)),hc,?_⟩
   refine⟨_,rfl,rfl,z,_,rfl,rfl,by decide+kernel,by omega,λl fl=>?_⟩
   have k4:=k3.same (qm (o:=HO.lst ((Txt.split z (Str.ofString " ")).map V.str)) fl)
   have h4:qr G l (HO.lst ((Txt.split z (Str.ofString " ")).map V.str)) l=some (.lst ((Txt.split z (Str.ofString " ")).map V.str)):=qe
   generalize qr G l (HO.lst ((Txt.split z (Str.ofString " ")).map V.str))=H4 at k4 h4
   have ws:=X4 z
   have wl:=ZQ (Txt.split z (Str.ofString " "))
   have sl:∀lo hi,(Txt.slice z lo hi).length<=60:=λlo hi=>Nat.le_trans (Txt.slice_le z lo hi) hz
   have sz:∀{m:Nat},m<=1000->m<=sizeLine:=λh=>Nat.le_of_lt (qE h)
   have c1:(⟨#[c]⟩:Str).length=1:=rfl
   have sp1:(Str.ofString " ").length=1:=by decide+kernel
   refine⟨_,rfl,rfl,_,rfl,zQ (λ_=>?_) (λ_=>?_)⟩
   . have x1:=sl none (some r1)
     have x2:=sl (some r1) none
     refine⟨_,rfl,_,rfl,_,rfl,z,rfl,by omega,_,rfl,_,_,rfl,rfl,sz (by omega),_,rfl,_,rfl,_,rfl,z,rfl,by omega,_,_,rfl,rfl,sz (by rw[Str.length_append];omega),q _ _ k4 (by rw[Str.length_append,Str.length_append];omega)⟩
   refine⟨_,rfl,rfl,_,rfl,zQ (λ_=>?_) (λ_=>?_)⟩
   . have x1:=sl none (some r1)
     have x2:=sl (some (r1+1)) none
     refine⟨_,rfl,_,rfl,_,rfl,z,rfl,by omega,_,rfl,_,rfl,_,_,rfl,rfl,_,rfl,z,rfl,by omega,_,_,rfl,rfl,sz (by omega),q _ _ k4 (by rw[Str.length_append];omega)⟩
   refine⟨_,rfl,rfl,_,rfl,zQ (λ_=>?_) (λ_=>?_)⟩
   . have x1:=sl none (some r1)
     have x2:=sl (some (r1+1)) none
     refine⟨_,rfl,_,rfl,_,rfl,z,rfl,by omega,_,rfl,_,_,rfl,rfl,sz (by omega),_,rfl,_,rfl,_,_,rfl,rfl,_,rfl,z,rfl,by omega,_,_,rfl,rfl,sz (by rw[Str.length_append];omega),q _ _ k4 (by rw[Str.length_append,Str.length_append];omega)⟩
   refine⟨_,rfl,rfl,_,rfl,zQ (λ_=>?_) (λ_=>?_)⟩
   . obtain⟨m1,em1,wm1⟩:=Zg (Txt.split z (Str.ofString " ")) none (some 1)
     obtain⟨m2,em2,wm2⟩:=Zg (Txt.split z (Str.ofString " ")) (some 1) none
     have lm1:=ZQ m1
     have lm2:=ZQ m2
     refine⟨rfl,_,rfl,1,rfl,l,_,rfl,.of h4,λp1 f1=>?_⟩
     have s5:=qm (o:=HO.lst (Qb ((Txt.split z (Str.ofString " ")).map V.str) none (some 1))) f1
     have h5:qr H4 p1 (HO.lst (Qb ((Txt.split z (Str.ofString " ")).map V.str) none (some 1))) p1=some (.lst (m1.map V.str)):=by rw[em1];exact qe
     generalize qr H4 p1 (HO.lst (Qb ((Txt.split z (Str.ofString " ")).map V.str) none (some 1)))=H5 at s5 h5
     refine⟨_,rfl,1,rfl,l,_,rfl,.of (s5 _ _ h4),λp2 f2=>?_⟩
     have s6:=qm (o:=HO.lst (Qb ((Txt.split z (Str.ofString " ")).map V.str) (some 1) none)) f2
     have h6:qr H5 p2 (HO.lst (Qb ((Txt.split z (Str.ofString " ")).map V.str) (some 1) none)) p2=some (.lst (m2.map V.str)):=by rw[em2];exact qe
     generalize qr H5 p2 (HO.lst (Qb ((Txt.split z (Str.ofString " ")).map V.str) (some 1) none))=H6 at s6 h6
     refine⟨p2,_,rfl,.of h6,by rw[List.length_map];omega,λp3 f3=>?_⟩
     have s7:=qm (o:=HO.lst (m2.map V.str).reverse) f3
     refine⟨p1,p3,_,_,rfl,rfl,.of (s7 _ _ (s6 _ _ h5)),.of qe,sz (by rw[List.length_reverse,List.length_map,List.length_map];omega),λp4 f4=>?_⟩
     have s8:=qm (o:=HO.lst (m1.map V.str++(m2.map V.str).reverse)) f4
     have wj:wt (m1++m2.reverse)<=200:=by rw[X5,UI];omega
     refine⟨_,p4,m1++m2.reverse,rfl,rfl,.of (by rw[List.map_append,List.map_reverse];exact qe),?_,q _ _ ((((k4.same s5).same s6).same s7).same s8) (Nat.le_trans Y7 (by omega))⟩
     rw[sp1]
     have:wt (m1++m2.reverse)=((m1++m2.reverse).map (·.length)).sum+(m1++m2.reverse).length:=rfl
     omega
   refine⟨_,rfl,rfl,_,rfl,zQ (λ_=>?_) (λ_=>?_)⟩
   . obtain⟨m1,em1,wm1⟩:=Zg (Txt.split z (Str.ofString " ")) (some (-1)) none
     have lm1:=ZQ m1
     refine⟨rfl,_,rfl,_,rfl,_,rfl,-1,rfl,l,_,rfl,.of h4,λp1 f1=>?_⟩
     have s5:=qm (o:=HO.lst (Qb ((Txt.split z (Str.ofString " ")).map V.str) (some (-1)) none)) f1
     have h5:qr H4 p1 (HO.lst (Qb ((Txt.split z (Str.ofString " ")).map V.str) (some (-1)) none)) p1=some (.lst (m1.map V.str)):=by rw[em1];exact qe
     generalize qr H4 p1 (HO.lst (Qb ((Txt.split z (Str.ofString " ")).map V.str) (some (-1)) none))=H5 at s5 h5
     refine⟨l,p1,_,_,rfl,rfl,.of (s5 _ _ h4),.of h5,sz (by rw[List.length_map,List.length_map];omega),λp4 f4=>?_⟩
     have s8:=qm (o:=HO.lst ((Txt.split z (Str.ofString " ")).map V.str++m1.map V.str)) f4
     have wj:wt (Txt.split z (Str.ofString " ")++m1)<=200:=by rw[X5];omega
     refine⟨_,p4,Txt.split z (Str.ofString " ")++m1,rfl,rfl,.of (by rw[List.map_append];exact qe),?_,q _ _ ((k4.same s5).same s8) (Nat.le_trans Y7 (by omega))⟩
     rw[sp1]
     have:wt (Txt.split z (Str.ofString " ")++m1)=((Txt.split z (Str.ofString " ")++m1).map (·.length)).sum+(Txt.split z (Str.ofString " ")++m1).length:=rfl
     omega
   refine⟨_,rfl,rfl,_,rfl,zQ (λ_=>?_) (λ_=>?_)⟩
   . refine⟨_,rfl,by show 7<=sizeLine;decide,λp1 f1=>?_⟩
     have k5:=k4.same (qm (o:=HO.lst (Ym.map V.str)) f1)
     obtain⟨n4,t4,e4⟩:=k5.2
     have nd:p1≠d:=λz=>by
       obtain⟨_,_,e⟩:=k4.2
       rw[z,e]at f1
       cases f1
     refine⟨_,rfl,d,7,n4,sd,t4,rfl,e4,by decide,by decide,λr5 n5 t5 a5 b5=>?_⟩
     have e:r5=((r5.toNat:Nat):Int):=by omega
     have hi:r5.toNat < Ym.length:=by show r5.toNat < 7;omega
     have hy:=WK _ (List.getElem_mem hi)
     refine⟨p1,Ym.map V.str,r5,.str Ym[r5.toNat],rfl,rfl,.of (by rw[qg nd];exact qe),?_,_,_,rfl,rfl,sz (by omega),q _ _ k5.take (by rw[Str.length_append];omega)⟩
     have ei:(Ym.map V.str)[r5.toNat]?=some (V.str Ym[r5.toNat]):=by rw[List.getElem?_map,List.getElem?_eq_getElem hi];rfl
     have:=Qy ei
     rw[<-e]at this
     exact this
   . exact⟨_,rfl,q _ _ k4 (by omega)⟩
/-- what the kinds are to one another -/
structure X0 (K:PySem.W.Frag) (mg:Str->Option Value) (h:WF K mg):Prop where
 nW:mg "Worth"=some (.ref h.CW)
 nn:PySem.W.kitOne K (.ref h.CN) (.ref h.CN)=some true
 ne:PySem.W.kitOne K (.ref h.CN) (.ref h.CE)=some false
 nw:PySem.W.kitOne K (.ref h.CN) (.ref h.CW)=some true
 en:PySem.W.kitOne K (.ref h.CE) (.ref h.CN)=some false
 ee:PySem.W.kitOne K (.ref h.CE) (.ref h.CE)=some true
 ew:PySem.W.kitOne K (.ref h.CE) (.ref h.CW)=some true
 tup:mg "tuple"=none
 ktt:PySem.W.kitOne K (.type "tuple") (.type "tuple")=some true
 spc:PySem.W.specialIn K (.builtin "object.__class__") "__get__"=some (some (.builtin "getset_descriptor.__get__"))
 tks:PySem.W.takesIn K (.builtin "object.__class__")=some true
def v4 (CN CE:Addr):Sp:=λvs H Q _=>∃(a p:Addr) (u:W),vs=[.ref a,.ref p]/\Jb CN CE H a u/\UG H p u/\Vr u/\∀H',Same H H'->Q (.bl true) H'
abbrev nIs:List Str:=["_law_worth","_law_due_here","_law_kinds","_law_endless","_law_word"]
theorem Wq:qu nIs ["_law_worth","_law_due_here"] (ql ke):=⟨rfl,rfl,rfl,by decide+kernel,rfl,by decide+kernel,by decide+kernel⟩
def yb (CN CE:Addr):W->Addr
 | .num _=>CN
 | .edl _=>CE
theorem yd (h:WF K mg) (Z:X0 K mg h) {H:Hp} {a:Addr} {u:W} (i:Jb h.CN h.CE H a u):TyOf K H (.ref a) (.ref (yb h.CN h.CE u)):=by
 cases u with
 | num n=>obtain⟨dx,e⟩:=i;exact .ins e h.cN.cl h.cN.ca Z.spc Z.tks h.cN.ob
 | edl b=>obtain⟨dx,e⟩:=i;exact .ins e h.cE.cl h.cE.ca Z.spc Z.tks h.cE.ob
theorem k_w (h:WF K mg) (Z:X0 K mg h) (u:W):PySem.W.kitOne K (.ref (yb h.CN h.CE u)) (.ref h.CN)=some (!Zn u)/\PySem.W.kitOne K (.ref (yb h.CN h.CE u)) (.ref h.CE)=some (Zn u)/\PySem.W.kitOne K (.ref (yb h.CN h.CE u)) (.ref h.CW)=some true:=by
 cases u with
 | num n=>exact⟨Z.nn,Z.ne,Z.nw⟩
 | edl b=>exact⟨Z.en,Z.ee,Z.ew⟩
theorem Ud {H:Hp} {p:Addr} {u:W} (h:UG H p u):DV K H (.ref p) (.tuple [.str (qY u),.int (je u:Nat)]):=.tup (.of h) (.cons (.str _) (.cons (.int _) .nil))
theorem kA:PyData.strOk (Str.ofString "number")=true/\PyData.strOk (Str.ofString "endless")=true:=by decide+kernel
theorem v6 (u:W):PySem.SeqAt.shaped (.tuple [.str (qY u),.int (je u:Nat)])=true:=by
 unfold PySem.SeqAt.shaped
 have:(PyData.tuple [PyData.str (qY u),PyData.int (je u:Nat)]).canLay0=true:=by
   cases u
   . show (PyData.strOk (Str.ofString "number")&&(true&&true))=true
     rw[kA.1]
     rfl
   . show (PyData.strOk (Str.ofString "endless")&&(true&&true))=true
     rw[kA.2]
     rfl
 rw[this]
 exact decide_eq_true (by show 1<=64;decide)
theorem kz {f fM fX:Addr} {fd fdM fdX:FuncData} (F:jQ K "_law_is" "_law_is" ke f fd) (B:QA mg) (T:Wk K mg) (h:WF K mg) (Z:X0 K mg h) (hM:jB K mg "_law_members" zE ["_law_bits"] fM fdM) (hX:jB K mg "_law_text" JZ ["_law_worth"] fX fdX):qo P w K mg base qN 3 f fd ["_law_worth","_law_due_here"] (v4 h.CN h.CE):=by
 have GX:qo P w K mg base qN 2 fX fdX ["_law_worth"] ZZ:=Z9 hX.fn B h hM
 refine F.okJ Wq (λvs H Q E z=>?_) (λcdv A outer s H vs Q E hr z=>?_)
 . obtain⟨a,p,u,rfl,_⟩:=z
   rfl
 . obtain⟨a,p,u,rfl,hw,ht,ok,q⟩:=z
   have r1:qI 1 _:=hr.mono (by decide)
   refine⟨_,qh (qB (i:=2) Wq.nd rfl (Or.inl rfl) (jc (qd (qF qG (by rfl) T.isi boot_isinstance (qd (jv 0) (qd (jD (v:=.ref h.CN) (by rfl) h.cN.ns rfl) qf))) (qd (qF qG (by rfl) T.isi boot_isinstance (qd (jv 0) (qd (jD (v:=.ref h.CE) (by rfl) h.cE.ns rfl) qf))) (qd (qF qG (by rfl) T.isi boot_isinstance (qd (jv 0) (qd (jD (v:=.ref h.CW) (by rfl) Z.nW rfl) qf))) qf)))))
     (qh (qB (i:=3) Wq.nd rfl (Or.inl rfl) (qM jC (jy QN (jv 1) qj (λ_ _=>rfl)) qq (qx _)))
     (qh (qJ (JW.pt (zN (qC (U1 (Nat.lt_of_succ_lt (UB hr))) (jv 2) (jc (qd (Yt (jv 3)) (qd (jv 3) (qd QJ qf)))) (qx _)) (zb (qC Zx (vq h r1 (jv 0)) (jv 3) (qx _))))) (qi (qt QJ)) qv)
     (qh (qB (i:=4) Wq.nd rfl (Or.inl rfl) (jy jF (jc (qd qq (qd qq qf))) (qT Jn (by rfl) B.int boot_int (qd (qM Uv (jy QN (jv 1) qj (λ_ _=>rfl)) qj (qx _)) qf)) (λ_ _=>rfl)))
     (qh (qJ (qZ (jv 3)) (qi (qB (i:=4) Wq.nd rfl (Or.inl rfl) (jy jF (jc (qd qq (qd qq qf))) (qz Qi (jy QN (jv 1) qj (λ_ _=>rfl)) qj) (λ_ _=>rfl)))) qv)
     (qh (qJ (JW.pt (zN (jh (qZ (qF qG (by rfl) T.isi boot_isinstance (qd (zc h r1 (jv 0)) (qd (jE (v:=.ty "tuple") (by rfl) Z.tup boot_tuple rfl) qf))))) (zN (qC (U2 hr.units) (zc h r1 (jv 0)) (jv 1) (qx _)) (zb (qZ (qF qG (by rfl) T.isi boot_isinstance (qd (jy QN (zc h r1 (jv 0)) qj (λ_ _=>rfl)) (qd (jE (v:=.ty "bool") (by rfl) T.bool boot_bool rfl) qf)))))))) (qi (qt QJ)) qv)
     (qi (qt (jA (qM jC (V3 h B hr (jv 0)) (qR hX GX hr (by rfl) (qd (jv 1) qf)) (qx _)) (Qm (qM jC (V4 h B hr (jv 0)) (jv 4) (qx _))))))))))),?_⟩
   obtain⟨k1,k2,k3⟩:=k_w h Z u
   have ty:=yd h Z hw
   refine⟨_,rfl,_,_,_,_,rfl,rfl,ty,k1,_,rfl,_,_,_,_,rfl,rfl,ty,k2,_,rfl,_,_,_,_,rfl,rfl,ty,k3,by show 3<=sizeLine;decide,λl f=>?_⟩
   have s1:=qm (o:=HO.lst [V.bl (!Zn u),.bl (Zn u),.bl true]) f
   have h1:qr H l (HO.lst [V.bl (!Zn u),.bl (Zn u),.bl true]) l=some (.lst [V.bl (!Zn u),.bl (Zn u),.bl true]):=qe
   generalize qr H l (HO.lst [V.bl (!Zn u),.bl (Zn u),.bl true])=H1 at s1 h1
   refine⟨_,rfl,p,_,0,.str (qY u),rfl,rfl,.of (s1 _ _ ht),rfl,rfl,?_⟩
   have ew:decide (V.str (qY u)=V.str (Str.ofString "endless"))=Zn u:=by
     cases u with
     | num n=>exact wE
     | edl b=>exact decide_eq_true rfl
   rw[ew]
   refine⟨_,rfl,_,rfl,_,rfl,_,rfl,by show 3<=sizeLine;decide,λl2 f2=>?_⟩
   have s2:=qm (o:=HO.lst [V.bl (!Zn u),.bl (Zn u),.bl true]) f2
   refine⟨l,l2,_,_,rfl,rfl,.of (s2 _ _ h1),.of qe,rfl,rfl,_,rfl,?_⟩
   have s12:=s1.trans s2
   have h2:qr H1 l2 (HO.lst [V.bl (!Zn u),.bl (Zn u),.bl true]) l2=some (.lst [V.bl (!Zn u),.bl (Zn u),.bl true]):=qe
   generalize qr H1 l2 (HO.lst [V.bl (!Zn u),.bl (Zn u),.bl true])=H2 at s2 s12 h2
   refine ja (by cases Zn u<;>decide+kernel) ⟨_,rfl,a,u,rfl,hw.same s12,_,rfl,rfl,_,rfl,ja (by simp) ?_⟩
   -- the word
   refine⟨by show 2<=sizeLine;decide,λl3 f3=>?_⟩
   have s3:=qm (o:=HO.lst [V.str (Str.ofString "lost"),.str (Str.ofString "won")]) f3
   have s13:=s12.trans s3
   have h3:qr H2 l3 (HO.lst [V.str (Str.ofString "lost"),.str (Str.ofString "won")]) l3=some (.lst [V.str (Str.ofString "lost"),.str (Str.ofString "won")]):=qe
   generalize qr H2 l3 (HO.lst [V.str (Str.ofString "lost"),.str (Str.ofString "won")])=H3 at s3 s13 h3
   refine⟨_,rfl,p,_,1,.int (je u:Nat),rfl,rfl,.of (s13 _ _ ht),rfl,_,_,rfl,rfl,.inr ⟨_,rfl,l3,_,_,.str (if 0 < je u then Str.ofString "won" else Str.ofString "lost"),rfl,rfl,.of h3,?_,?_⟩⟩
   . by_cases c:0 < je u
     . have:decide ((0:Int) < ((je u:Nat):Int))=true:=decide_eq_true (by omega)
       rw[if_pos c]
       show zZ _ (if decide ((0:Int) < ((je u:Nat):Int))=true then 1 else 0)=_
       rw[this]
       rfl
     . have:decide ((0:Int) < ((je u:Nat):Int))=false:=decide_eq_false (by omega)
       rw[if_neg c]
       show zZ _ (if decide ((0:Int) < ((je u:Nat):Int))=true then 1 else 0)=_
       rw[this]
       rfl
   refine⟨_,rfl,_,rfl,?_⟩
   cases u with
   | num n=>
     have e4:(if 0 < je (.num n) then Str.ofString "won" else Str.ofString "lost")=zG (.num n):=by
       show (if 0 < n then _ else _)=if n=0 then _ else _
       by_cases c:n=0
       . rw[if_neg (by omega),if_pos c]
       . rw[if_pos (by omega),if_neg c]
     rw[e4]
     refine jq ?_
     refine⟨_,rfl,a,(.num n),rfl,hw.same s13,λq1 g1=>⟨_,_,_,_,rfl,rfl,.tup qe,Z.ktt,_,rfl,jq ?_⟩⟩
     have s5:=s13.trans (qm (o:=HO.tup [.str (qY (.num n)),.int (je (.num n):Nat)]) g1)
     refine⟨_,rfl,a,(.num n),rfl,hw.same s5,λq2 g2=>?_⟩
     have s6:=s5.trans (qm (o:=HO.tup [.str (qY (.num n)),.int (je (.num n):Nat)]) g2)
     refine⟨_,rfl,_,Ud qe,Ud (s6 _ _ ht),v6 _,_,rfl,jq ⟨_,rfl,a,(.num n),rfl,hw.same s6,λq3 g3=>⟨q3,_,1,.int (je (.num n):Nat),rfl,rfl,.of qe,rfl,_,_,_,_,rfl,rfl,.int _,T.kib,_,rfl,jq ?_⟩⟩⟩
     have s7:=s6.trans (qm (o:=HO.tup [.str (qY (.num n)),.int (je (.num n):Nat)]) g3)
     refine⟨_,rfl,a,(.num n),rfl,hw.same s7,ok,λH5 s8=>⟨_,rfl,p,(.num n),rfl,(s7.trans s8) _ _ ht,ok,λH6 s9=>⟨rfl,_,rfl,jm (by simp) ⟨_,rfl,a,(.num n),rfl,hw.same ((s7.trans s8).trans s9),ok,λH7 s10=>⟨_,rfl,rfl,?_⟩⟩⟩⟩⟩
     have q7:=q _ (((s7.trans s8).trans s9).trans s10)
     simpa [zG] using q7
   | edl b=>
     have hb:b < 65536:=ok
     refine j3 ⟨by show 2<=sizeLine;decide,λl4 f4=>?_⟩
     have s4:=qm (o:=HO.lst [V.str (Str.ofString "drawn"),.str (Str.ofString "won")]) f4
     have s14:=s13.trans s4
     have h4:qr H3 l4 (HO.lst [V.str (Str.ofString "drawn"),.str (Str.ofString "won")]) l4=some (.lst [V.str (Str.ofString "drawn"),.str (Str.ofString "won")]):=qe
     generalize qr H3 l4 (HO.lst [V.str (Str.ofString "drawn"),.str (Str.ofString "won")])=H4 at s4 s14 h4
     refine⟨_,rfl,p,_,1,.int (b:Nat),rfl,rfl,.of (s14 _ _ ht),rfl,_,_,rfl,rfl,(by show (0:Int) < 2;decide),l4,_,_,.str (zG (.edl b)),rfl,rfl,.of h4,?_,?_⟩
     . show zZ _ ((b:Int) % 2)=some (V.str (if b.testBit 0=true then "won" else "drawn"))
       have:=Rb.mod2 b
       cases c:b.testBit 0 with
       | true=>
         rw[c]at this
         have e:(b:Int) % 2=((1:Nat):Int):=by have:b % 2=1:=this;omega
         rw[e]
         rfl
       | false=>
         rw[c]at this
         have e:(b:Int) % 2=((0:Nat):Int):=by have:b % 2=0:=this;omega
         rw[e]
         rfl
     refine⟨_,rfl,a,(.edl b),rfl,hw.same s14,λq1 g1=>⟨_,_,_,_,rfl,rfl,.tup qe,Z.ktt,_,rfl,jq ?_⟩⟩
     have s5:=s14.trans (qm (o:=HO.tup [.str (qY (.edl b)),.int (je (.edl b):Nat)]) g1)
     refine⟨_,rfl,a,(.edl b),rfl,hw.same s5,λq2 g2=>?_⟩
     have s6:=s5.trans (qm (o:=HO.tup [.str (qY (.edl b)),.int (je (.edl b):Nat)]) g2)
     refine⟨_,rfl,_,Ud qe,Ud (s6 _ _ ht),v6 _,_,rfl,jq ⟨_,rfl,a,(.edl b),rfl,hw.same s6,λq3 g3=>⟨q3,_,1,.int (je (.edl b):Nat),rfl,rfl,.of qe,rfl,_,_,_,_,rfl,rfl,.int _,T.kib,_,rfl,jq ?_⟩⟩⟩
     have s7:=s6.trans (qm (o:=HO.tup [.str (qY (.edl b)),.int (je (.edl b):Nat)]) g3)
     refine⟨_,rfl,a,(.edl b),rfl,hw.same s7,ok,λH5 s8=>⟨_,rfl,p,(.edl b),rfl,(s7.trans s8) _ _ ht,ok,λH6 s9=>⟨rfl,_,rfl,jm (by simp) ⟨_,rfl,a,(.edl b),rfl,hw.same ((s7.trans s8).trans s9),ok,λH7 s10=>⟨_,rfl,rfl,?_⟩⟩⟩⟩⟩
     have q7:=q _ (((s7.trans s8).trans s9).trans s10)
     simpa [zG] using q7
end
end Rh
set_option Elab.async false
set_option linter.all false
set_option maxRecDepth 100000
set_option maxHeartbeats 4000000
/-! _law_right. -/
namespace Rh
open PySem L2 PyProof.Rows Rb
section
variable (K:PySem.W.Frag)
theorem kI:PySem.W.kitOne K (.type "NoneType") (.type "int")=some false:=by kernel_rfl
theorem kG:PySem.W.kitOne K (.type "str") (.type "int")=some false:=by kernel_rfl
theorem kK:PySem.W.kitOne K (.type "list") (.type "int")=some false:=by kernel_rfl
theorem kF:PySem.W.kitOne K (.type "tuple") (.type "int")=some false:=by kernel_rfl
theorem Uy:PySem.W.kitOne K (.type "NoneType") (.type "bool")=some false:=by kernel_rfl
theorem WO:PySem.W.kitOne K (.type "str") (.type "bool")=some false:=by kernel_rfl
theorem Uz:PySem.W.kitOne K (.type "list") (.type "bool")=some false:=by kernel_rfl
theorem Ux:PySem.W.kitOne K (.type "tuple") (.type "bool")=some false:=by kernel_rfl
theorem kM:PySem.W.kitOne K (.type "int") (.type "bool")=some false:=by kernel_rfl
theorem WP:PySem.W.kitOne K (.type "bool") (.type "bool")=some true:=by kernel_rfl
theorem kH:PySem.W.kitOne K (.type "NoneType") (.type "str")=some false:=by kernel_rfl
theorem kL:PySem.W.kitOne K (.type "int") (.type "str")=some false:=by kernel_rfl
theorem kN:PySem.W.kitOne K (.type "bool") (.type "str")=some false:=by kernel_rfl
theorem kJ:PySem.W.kitOne K (.type "list") (.type "str")=some false:=by kernel_rfl
theorem kE:PySem.W.kitOne K (.type "tuple") (.type "str")=some false:=by kernel_rfl
end
/-- all stays but the source at d and refusals -/
def Rk (H:Hp) (d:Addr) (sd:Int) (H':Hp):Prop:=(∀b o,H b=some o->b≠d->(∀φ,o≠.ext φ)->H' b=some o)/\∃n t,H' d=some (.dK (jf n sd t))
theorem Sk.rk {H H':Hp} {d:Addr} {sd:Int} (h:Sk H d sd H'):Rk H d sd H':=⟨λb o hb nb _=>h.1 b o hb nb,h.2⟩
theorem Rk.trans {H G G':Hp} {d:Addr} {sd:Int} (h:Rk H d sd G) (s:Rk G d sd G'):Rk H d sd G':=⟨λb o hb nb ne=>s.1 _ _ (h.1 b o hb nb ne) nb ne,s.2⟩
theorem Rk.keep {H G G':Hp} {d:Addr} {sd:Int} (h:Rk H d sd G) (s:Qd G G'):Rk H d sd G':=⟨λb o hb nb ne=>s _ _ (h.1 b o hb nb ne) ne,let ⟨n,t,e⟩:=h.2;⟨n,t,s _ _ e λ_ z=>nomatch z⟩⟩
theorem Rk.same {H G G':Hp} {d:Addr} {sd:Int} (h:Rk H d sd G) (s:Same G G'):Rk H d sd G':=h.keep s.keep
theorem Rk.take {H G:Hp} {d:Addr} {sd n t:Int} (h:Rk H d sd G):Rk H d sd (qr G d (.dK (jf n sd t))):=⟨λb o hb nb ne=>by rw[qg nb];exact h.1 b o hb nb ne,n,t,qe⟩
theorem Rk.refl {H:Hp} {d:Addr} {sd n t:Int} (h:H d=some (.dK (jf n sd t))):Rk H d sd H:=(Sk.refl h).rk
theorem jg {H:Hp} {d b:Addr} {sd n t:Int} {o:HO} (h:H d=some (.dK (jf n sd t))) (hb:H b=some o) (ne:∀kvs,o≠.dK kvs):b≠d:=λz=>by
 rw[z,h]at hb
 exact ne _ (Option.some.inj hb).symm
/-- the nine things -/
abbrev nine (q1 q2:Addr) (far:Int):List V:=[.non,.bl true,.bl false,.int (-1),.str (Str.ofString "3"),.ref q1,.ref q2,.int far,.int (0 - far)]
structure S9 (H:Hp) (p q1 q2:Addr) (far:Int):Prop where
 l:H p=some (.lst (nine q1 q2 far))
 a:H q1=some (.lst [.int 3])
 b:H q2=some (.tup [])
 f:10^20<=far
 g:far < 10^20+10
theorem S9.rk {H H':Hp} {p q1 q2 d:Addr} {far sd n t:Int} (h:S9 H p q1 q2 far) (hd:H d=some (.dK (jf n sd t))) (r:Rk H d sd H'):S9 H' p q1 q2 far:=
 ⟨r.1 _ _ h.l (jg hd h.l (λ_ z=>nomatch z)) (λ_ z=>nomatch z),r.1 _ _ h.a (jg hd h.a (λ_ z=>nomatch z)) (λ_ z=>nomatch z),r.1 _ _ h.b (jg hd h.b (λ_ z=>nomatch z)) (λ_ z=>nomatch z),h.f,h.g⟩
section
variable {K:PySem.W.Frag}
theorem Qx {H:Hp} (i:Int):Ul K H (.int i):=⟨.inr ⟨.int i,.int i,by
 unfold PySem.SeqAt.shaped
 exact decide_eq_true (by show 0<=64;decide)⟩,_,_,.int i,kM K⟩
theorem S9.bad {H:Hp} {p q1 q2:Addr} {far:Int} (h:S9 H p q1 q2 far) {hi:Int} (h1:hi < 10^20) {v:V} (hv:v∈nine q1 q2 far):Jc K H hi v/\Ul K H v:=by
 simp only[nine,List.mem_cons,List.not_mem_nil,or_false]at hv
 rcases hv with rfl | rfl | rfl | rfl | rfl | rfl | rfl | rfl | rfl
 . exact⟨.inr (.inr ⟨_,.non,kI K⟩),(.inr ⟨.none,.non,by decide+kernel⟩),_,_,.non,Uy K⟩
 . exact⟨.inr (.inl ⟨_,rfl⟩),(.inr ⟨_,.bl _,by decide+kernel⟩),_,_,.bl _,WP K⟩
 . exact⟨.inr (.inl ⟨_,rfl⟩),(.inr ⟨_,.bl _,by decide+kernel⟩),_,_,.bl _,WP K⟩
 . exact⟨.inl ⟨_,rfl,.inl (by decide)⟩,Qx _⟩
 . exact⟨.inr (.inr ⟨_,.str _,kG K⟩),(.inl ⟨_,rfl⟩),_,_,.str _,WO K⟩
 . exact⟨.inr (.inr ⟨_,.lst h.a,kK K⟩),(.inr ⟨_,.lst (.of h.a) (.cons (.int _) .nil),by decide+kernel⟩),_,_,.lst h.a,Uz K⟩
 . exact⟨.inr (.inr ⟨_,.tup h.b,kF K⟩),(.inr ⟨_,.tup (.of h.b) .nil,by decide+kernel⟩),_,_,.tup h.b,Ux K⟩
 . exact⟨.inl ⟨_,rfl,.inr (by have:=h.f;omega)⟩,Qx _⟩
 . exact⟨.inl ⟨_,rfl,.inl (by have:=h.f;omega)⟩,Qx _⟩
end
section
variable {P:Program} {w:World} {K:PySem.W.Frag} {mg:Str->Option Value} {base:Heap}
def jT:Str:=(Str.ofString "_law_right"++Str.ofString ".<locals>.")++Str.ofString "<lambda>"
def YH (PR:Addr):Sp:=λvs H Q _=>∃(d:Addr) (n sd t:Int),vs=[.ref d]/\H d=some (.dK (jf n sd t))/\(∃tq,H PR=some (.tbl #[.str jT tq]))/\∀H',Rk H d sd H'->Q (.bl true) H'
abbrev nRt:List Str:=["_law_source_here","_law_number","_law_bits","_law_one","_law_other","_law_far","_law_some","_law_thing","_law_text_here","_law_due_here"]
theorem JY:qu nRt ["_law_source_here"] (ql jI):=⟨rfl,rfl,rfl,by decide+kernel,rfl,by decide+kernel,by decide+kernel⟩
theorem WC {f c PR fT fM fX fD fS fI fF fR fNT fRE:Addr} {fd fdT fdM fdX fdD fdS fdI fdF fdR fdNT fdRE:FuncData} (F:jQ K "_law_right" "_law_right" jI f fd) (hc:fd.code=.ref c) (TM:zo mg base c PR) (B:QA mg) (T:Wk K mg) (h:WF K mg) (Z:X0 K mg h) (ZE:Uk K mg h.D h.CX)
   (hT:jB K mg "_law_take" Zv ["_law_source_here","_law_many"] fT fdT) (hM:jB K mg "_law_members" zE ["_law_bits"] fM fdM) (hX:jB K mg "_law_text" JZ ["_law_worth"] fX fdX) (hD:jB K mg "_law_due" Wr ["_law_text_here"] fD fdD) (hS:jB K mg "_law_spoilt" QW kt fS fdS) (hI:jB K mg "_law_is" ke ["_law_worth","_law_due_here"] fI fdI) (hF:jB K mg "_law_refused" Qf vG fF fdF)
   (hR:jB K mg "read_worth" QX ["text"] fR fdR) (hNT:jB K mg "number_texts" Yj [] fNT fdNT) (hRE:jB K mg "read_endless" Zw ["text"] fRE fdRE) (ls:mg "list"=none) (rv:mg "reversed"=none):qo P w K mg base qN 9 f fd ["_law_source_here"] (YH PR):=by
 have GT:qo P w K mg base qN 1 fT fdT ["_law_source_here","_law_many"] Ye:=YY hT.fn
 have GX:qo P w K mg base qN 2 fX fdX ["_law_worth"] ZZ:=Z9 hX.fn B h hM
 have GD:qo P w K mg base qN 3 fD fdD ["_law_text_here"] Us:=vc hD.fn B h hM hX
 have GS:qo P w K mg base qN 2 fS fdS kt zz:=Xu hS.fn B hT ls rv
 have GI:qo P w K mg base qN 3 fI fdI ["_law_worth","_law_due_here"] (v4 h.CN h.CE):=kz hI.fn B T h Z hM hX
 have GR:qo P w K mg base (Qz P w) 6 fR fdR ["text"] (Ur h.CN h.CE h.CX K):=YZ hR.fn B T h hNT hRE
 have GF:qo P w K mg base qN 8 fF fdF vG (Wj K h.CX):=Jq hF.fn B T h hR GR ZE
 have GN:qo P w K mg base qN 3 h.fNI h.dNI ["self","number"] (Qe h.CN "number" 15):=h.gNI B T
 have GE:qo P w K mg base qN 3 h.fEI h.dEI ["self","bits"] (Qe h.CE "bits" 65535):=h.gEI B T
 refine F.okL hc JY (λvs H Q E z=>?_) (λA outer s H vs Q E hr z=>?_)
 . obtain⟨d,n,sd,t,rfl,_⟩:=z
   rfl
 . obtain⟨d,n,sd,t,rfl,hd,⟨tq,hP⟩,q⟩:=z
   have r1:qI 1 _:=hr.mono (by decide)
   have r2:qI 2 _:=hr.mono (by decide)
   have r3:qI 3 _:=hr.mono (by decide)
   have r4:qI 4 _:=hr.mono (by decide)
   have r6:qI 6 _:=hr.mono (by decide)
   refine⟨_,qh (qB (i:=1) JY.nd rfl (Or.inl rfl) (qR hT GT r1 (by rfl) (qd (jv 0) (qd qj qf))))
     (qh (qB (i:=2) JY.nd rfl (Or.inl rfl) (qR hT GT r1 (by rfl) (qd (jv 0) (qd (jy jF (jc (qd qj (qd qj qf))) (qR hT GT r1 (by rfl) (qd (jv 0) (qd qj qf))) (λ_ _=>rfl)) qf))))
     (qh (qB (i:=3) JY.nd rfl (Or.inl rfl) (Qw h.cN.mkr GN r4 (by rfl) h.cN.ns h.cN.bi .nil jJ (qd (jv 1) qf)))
     (qh (qB (i:=4) JY.nd rfl (Or.inl rfl) (Qw h.cE.mkr GE r4 (by rfl) h.cE.ns h.cE.bi .nil jJ (qd (jv 2) qf)))
     (qh (qJ (JW.pt (zN (qC Zx (Qo (jv 3) rfl) (jv 1) (qx _)) (zb (qC Zx (Qo (jv 4) rfl) (jv 2) (qx _))))) qS qv)
     (qh (qJ (JW.pt (zN (jh (qZ (qR hI GI r3 (by rfl) (qd (jv 3) (qd (jM (qd qq (qd (jv 1) qf))) qf))))) (zb (jh (qZ (qR hI GI r3 (by rfl) (qd (jv 4) (qd (jM (qd qq (qd (jv 2) qf))) qf)))))))) qS qv)
     (qh (qB (i:=5) JY.nd rfl (Or.inl rfl) (qz jK (qz WA qj qj) (qR hT GT r1 (by rfl) (qd (jv 0) (qd qj qf)))))
     (qh (qB (i:=6) JY.nd rfl (Or.inl rfl) (jc (qd Jj (qd QJ (qd QJ (qd (Y9 ZS qj) (qd qq (qd (jc (qd qj qf)) (qd (jM qf) (qd (jv 5) (qd (qz UY qj (jv 5)) qf)))))))))))
     (qh (Ql PassesOwn.never rfl (jS (jc (qd qj (qd (jy jF (jv 6) (qR hT GT r1 (by rfl) (qd (jv 0) (qd qj qf))) (λ_ _=>rfl)) qf)))) (qQ (i:=7) JY.nd rfl (Or.inl rfl))
       (qi (qJ (jh (qZ (qR hF GF hr (by rfl) (qd (zd (qual:=jT) TM rfl rfl rfl) (qd (jv 7) qf))))) qS qv)))
     (qh (Ql PassesOwn.never rfl (jS (jc (qd qj (qd (jy jF (jv 6) (qR hT GT r1 (by rfl) (qd (jv 0) (qd qj qf))) (λ_ _=>rfl)) qf)))) (qQ (i:=7) JY.nd rfl (Or.inl rfl))
       (qi (qJ (jh (qZ (qR hF GF hr (by rfl) (qd (zd (qual:=jT) TM rfl rfl rfl) (qd (jv 7) qf))))) qS qv)))
     (qh (qB (i:=8) JY.nd rfl (Or.inl rfl) (qR hS GS r2 (by rfl) (qd (jv 0) (qd (qR hX GX r2 (by rfl) (qd (jy jF (jc (qd (jM (qd qq (qd (jv 1) qf))) (qd (jM (qd qq (qd (jv 2) qf))) qf))) (qR hT GT r1 (by rfl) (qd (jv 0) (qd qj qf))) (λ_ _=>rfl)) qf)) qf))))
     (qh (qB (i:=9) JY.nd rfl (Or.inl rfl) (qR hD GD r3 (by rfl) (qd (jv 8) qf)))
     (qh (qJ (qC U3 (jv 9) Jj (qx _)) (qi (qt (qR hF GF hr (by rfl) (qd (zd (qual:=jT) TM rfl rfl rfl) (qd (jv 8) qf))))) qv)
     (qi (qt (qR hI GI r3 (by rfl) (qd (Xa hR GR r6 kr (by rfl) (qd (jv 8) qf)) (qd (jv 9) qf))))))))))))))))),?_⟩
   refine⟨_,rfl,d,16,n,sd,t,rfl,hd,by decide,by decide,λr1 n1 t1 a1 b1=>?_⟩
   obtain⟨k,rfl⟩:=Int.eq_ofNat_of_zero_le a1
   have hk:k < 16:=by omega
   have K1:Rk H d sd (qr H d (.dK (jf n1 sd t1))):=(Rk.refl hd).take
   generalize qr H d (.dK (jf n1 sd t1))=G1 at K1
   refine⟨_,rfl,by show 2<=sizeLine;decide,λlb fb=>?_⟩
   have K2:=K1.same (qm (o:=HO.lst [V.int 65536,.int 16]) fb)
   have hb2:qr G1 lb (HO.lst [V.int 65536,.int 16]) lb=some (.lst [V.int 65536,.int 16]):=qe
   generalize qr G1 lb (HO.lst [V.int 65536,.int 16])=G2 at K2 hb2
   obtain⟨n2,t2,e2⟩:=K2.2
   refine⟨_,rfl,d,2,n2,sd,t2,rfl,e2,by decide,by decide,λr2 n3 t3 a2 b2=>?_⟩
   obtain⟨m,em,m0,m1⟩:∃m:Int,zZ [V.int 65536,.int 16] r2=some (.int m)/\0 < m/\m<=65536:=by
     rcases(show r2=0\/r2=1 by omega) with rfl | rfl
     . exact⟨65536,rfl,by decide,by decide⟩
     . exact⟨16,rfl,by decide,by decide⟩
   have nb:lb≠d:=jg e2 hb2 (λ_ z=>nomatch z)
   refine⟨lb,_,r2,_,rfl,rfl,.of (by rw[qg nb];exact hb2),em,?_⟩
   refine⟨d,m,n3,sd,t3,rfl,qe,m0,by omega,λr3 n4 t4 a3 b3=>?_⟩
   obtain⟨b,rfl⟩:=Int.eq_ofNat_of_zero_le a3
   have hb:b < 65536:=by omega
   have K4:Rk H d sd (qr (qr G2 d (.dK (jf n3 sd t3))) d (.dK (jf n4 sd t4))):=K2.take.take
   generalize qr (qr G2 d (.dK (jf n3 sd t3))) d (.dK (jf n4 sd t4))=G4 at K4
   refine⟨_,rfl,λx dx hx hdx hne=>⟨x,dx,_,rfl,by omega,by omega,qe,rfl,?_⟩⟩
   obtain⟨s5,i5⟩:=Y0 (CN:=h.CN) (CE:=h.CE) (n:=k) hx hdx hne
   generalize qr (qr (qr G4 dx (.own x)) x (.ins h.CN dx [])) x (.ins h.CN dx [("number",.int ((k:Nat):Int))])=G5 at s5 i5
   refine⟨_,rfl,λy dy hy hdy hny=>⟨y,dy,_,rfl,by omega,by omega,qe,rfl,?_⟩⟩
   obtain⟨s6,i6⟩:=Y1 (CN:=h.CN) (CE:=h.CE) (b:=b) hy hdy hny
   generalize qr (qr (qr G5 dy (.own y)) y (.ins h.CE dy [])) y (.ins h.CE dy [("bits",.int ((b:Nat):Int))])=G6 at s6 i6
   have i5:=i5.same s6
   have K6:=(K4.same s5).same s6
   obtain⟨dx',e5⟩:=id i5
   obtain⟨dy',e6⟩:=id i6
   refine⟨_,rfl,x,h.CN,dx',_,_,rfl,e5,h.cN.cl,h.cN.na,Uw,_,rfl,rfl,_,rfl,ja (by simp) ⟨_,rfl,y,h.CE,dy',_,_,rfl,e6,h.cE.cl,h.cE.na,Uw,_,rfl,rfl,_,rfl,ja (by simp) ?_⟩⟩
   refine⟨_,rfl,_,rfl,by show 2<=sizeLine;decide,λp1 f1=>⟨x,p1,.num k,rfl,i5.same (qm f1),qe,hk,λG7 s7=>⟨_,rfl,jq ?_⟩⟩⟩
   have s67:=(qm f1).trans s7
   refine⟨_,rfl,_,rfl,by show 2<=sizeLine;decide,λp2 f2=>⟨y,p2,.edl b,rfl,(i6.same s67).same (qm f2),qe,hb,λG8 s8=>⟨_,rfl,jq ?_⟩⟩⟩
   have K8:=(K6.same s67).same ((qm f2).trans s8)
   obtain⟨n8,t8,e8⟩:=K8.2
   refine⟨_,_,rfl,rfl,⟨by decide,by decide,by decide⟩,_,rfl,d,9,n8,sd,t8,rfl,e8,by decide,by decide,λr5 n9 t9 a5 b5=>⟨_,_,rfl,rfl,?_⟩⟩
   have K9:Rk H d sd (qr G8 d (.dK (jf n9 sd t9))):=K8.take
   generalize qr G8 d (.dK (jf n9 sd t9))=G9 at K9
   obtain⟨far,ef,hf1,hf2⟩:∃far:Int,(10:Int)^ (20:Int).toNat+r5=far/\10^20<=far/\far < 10^20+10:=⟨_,rfl,by show (10:Int)^20<=10^20+r5;omega,by show (10:Int)^20+r5 < 10^20+10;omega⟩
   dsimp only
   rw[ef]
   refine⟨_,rfl,by show 1<=sizeLine;decide,λq1 g1=>⟨by show 0<=sizeLine;decide,λq2 g2=>⟨_,rfl,_,rfl,_,_,rfl,rfl,by show 9<=sizeLine;decide,λp9 g9=>?_⟩⟩⟩
   have s9a:=qm (o:=HO.lst [V.int 3]) g1
   have s9b:=qm (o:=HO.tup []) g2
   have s9c:=qm (o:=HO.lst (nine q1 q2 far)) g9
   have K10:=((K9.same s9a).same s9b).same s9c
   have S10:S9 (qr (qr (qr G9 q1 (.lst [V.int 3])) q2 (.tup [])) p9 (.lst (nine q1 q2 far))) p9 q1 q2 far:=⟨qe,s9c _ _ (s9b _ _ qe),s9c _ _ qe,hf1,hf2⟩
   dsimp only
   dsimp only[nine]at K10 S10
   generalize qr (qr (qr G9 q1 (HO.lst [V.int 3])) q2 (HO.tup [])) p9 (HO.lst [V.non,V.bl true,V.bl false,V.int (-1),V.str (Str.ofString "3"),V.ref q1,V.ref q2,V.int far,V.int (0 - far)])=G10 at K10 S10 ⊢
   have hP10:=K10.1 _ _ hP (jg hd hP (λ_ z=>nomatch z)) (λ_ z=>nomatch z)
   obtain⟨ya,t10,e10⟩:=K10.2
   refine⟨_,rfl,_,rfl,d,9,ya,sd,t10,rfl,e10,by decide,by decide,λr6 na ta a6 b6=>?_⟩
   obtain⟨v,ev,hv⟩:∃v,zZ (nine q1 q2 far) r6=some v/\v∈nine q1 q2 far:=by
     have e:r6=((r6.toNat:Nat):Int):=by omega
     have hi:r6.toNat < (nine q1 q2 far).length:=by show r6.toNat < 9;omega
     exact⟨_,(congrArg (zZ (nine q1 q2 far)) e).trans (Qy (List.getElem?_eq_getElem hi)),List.getElem_mem hi⟩
   have R10:Rk G10 d sd (qr G10 d (.dK (jf na sd ta))):=(Rk.refl e10).take
   have Sa:=S10.rk e10 R10
   generalize qr G10 d (.dK (jf na sd ta))=Ga at R10 Sa
   refine⟨p9,_,r6,v,rfl,rfl,.of Sa.l,ev,by show 2<=sizeLine;decide,λlf ff=>⟨lf,rfl,⟨_,.of qe⟩,?_⟩⟩
   have R10:=R10.same (qm (o:=HO.lst [V.int 16,v]) ff)
   have hl10:qr Ga lf (HO.lst [V.int 16,v]) lf=some (.lst [V.int 16,v]):=qe
   generalize qr Ga lf (HO.lst [V.int 16,v])=Gb at R10 hl10
   have Sb:=S10.rk e10 R10
   have Kb:=K10.trans R10
   have hPb:=Kb.1 _ _ hP (jg hd hP (λ_ z=>nomatch z)) (λ_ z=>nomatch z)
   obtain⟨nb',tb',eb⟩:=Kb.2
   refine Q3 (K:=K) (a:=lf) (xs:=[V.int 16,v]) (λi σ G=>(∃v7,σ=[some (.ref d),some (.int (k:Nat)),some (.int (b:Nat)),some (.ref x),some (.ref y),some (.int far),some (.ref p9),v7,none,none])/\Rk Gb d sd G) ⟨⟨none,rfl⟩,Rk.refl eb⟩ (λi σ G _ hG=>.of (hG.2.1 _ _ hl10 (jg eb hl10 (λ_ z=>nomatch z)) (λ_ z=>nomatch z))) ?_ ?_
   . rintro i z σ G hz ⟨⟨v7,rfl⟩,R⟩
     have hPG:=R.1 _ _ hPb (jg eb hPb (λ_ z=>nomatch z)) (λ_ z=>nomatch z)
     have hzb:Jc K G 15 z/\Ul K G z:=by
       cases i with
       | zero=>cases hz;exact⟨.inl ⟨_,rfl,.inr (by decide)⟩,Qx _⟩
       | succ i=>
         cases i with
         | zero=>cases hz;exact(Sb.rk eb R).bad (by decide) hv
         | succ i=>cases hz
     exact⟨⟨tq,hPG⟩,λf fd G' sm nf clo=>⟨_,rfl,f,z,fd,PR,jT,vf,_,rfl,.inl ⟨rfl,rfl⟩,clo,hzb.1.mono sm,hzb.2.keep sm.keep,λG'' kp=>⟨_,rfl,jq ⟨⟨some z,rfl⟩,(R.same sm).keep kp⟩⟩⟩⟩
   rintro σ G11 ⟨⟨v7,rfl⟩,R⟩
   have K11:=Kb.trans R
   have S11:=Sb.rk eb R
   have hP11:=K11.1 _ _ hP (jg hd hP (λ_ z=>nomatch z)) (λ_ z=>nomatch z)
   obtain⟨n11,t11,e11⟩:=K11.2
   refine⟨_,rfl,_,rfl,d,9,n11,sd,t11,rfl,e11,by decide,by decide,λr6 na ta a6 b6=>?_⟩
   obtain⟨v,ev,hv⟩:∃v,zZ (nine q1 q2 far) r6=some v/\v∈nine q1 q2 far:=by
     have e:r6=((r6.toNat:Nat):Int):=by omega
     have hi:r6.toNat < (nine q1 q2 far).length:=by show r6.toNat < 9;omega
     exact⟨_,(congrArg (zZ (nine q1 q2 far)) e).trans (Qy (List.getElem?_eq_getElem hi)),List.getElem_mem hi⟩
   have R11:Rk G11 d sd (qr G11 d (.dK (jf na sd ta))):=(Rk.refl e11).take
   have Sa:=S11.rk e11 R11
   generalize qr G11 d (.dK (jf na sd ta))=Ga at R11 Sa
   refine⟨p9,_,r6,v,rfl,rfl,.of Sa.l,ev,by show 2<=sizeLine;decide,λlf ff=>⟨lf,rfl,⟨_,.of qe⟩,?_⟩⟩
   have R11:=R11.same (qm (o:=HO.lst [V.int 65536,v]) ff)
   have hl11:qr Ga lf (HO.lst [V.int 65536,v]) lf=some (.lst [V.int 65536,v]):=qe
   generalize qr Ga lf (HO.lst [V.int 65536,v])=Gb at R11 hl11
   have Sb:=S11.rk e11 R11
   have Kb:=K11.trans R11
   have hPb:=Kb.1 _ _ hP (jg hd hP (λ_ z=>nomatch z)) (λ_ z=>nomatch z)
   obtain⟨nb',tb',eb⟩:=Kb.2
   refine Q3 (K:=K) (a:=lf) (xs:=[V.int 65536,v]) (λi σ G=>(∃v7,σ=[some (.ref d),some (.int (k:Nat)),some (.int (b:Nat)),some (.ref x),some (.ref y),some (.int far),some (.ref p9),v7,none,none])/\Rk Gb d sd G) ⟨⟨v7,rfl⟩,Rk.refl eb⟩ (λi σ G _ hG=>.of (hG.2.1 _ _ hl11 (jg eb hl11 (λ_ z=>nomatch z)) (λ_ z=>nomatch z))) ?_ ?_
   . rintro i z σ G hz ⟨⟨v7,rfl⟩,R⟩
     have hPG:=R.1 _ _ hPb (jg eb hPb (λ_ z=>nomatch z)) (λ_ z=>nomatch z)
     have hzb:Jc K G 65535 z/\Ul K G z:=by
       cases i with
       | zero=>cases hz;exact⟨.inl ⟨_,rfl,.inr (by decide)⟩,Qx _⟩
       | succ i=>
         cases i with
         | zero=>cases hz;exact(Sb.rk eb R).bad (by decide) hv
         | succ i=>cases hz
     exact⟨⟨tq,hPG⟩,λf fd G' sm nf clo=>⟨_,rfl,f,z,fd,PR,jT,vh,_,rfl,.inr (.inl ⟨rfl,rfl⟩),clo,hzb.1.mono sm,hzb.2.keep sm.keep,λG'' kp=>⟨_,rfl,jq ⟨⟨some z,rfl⟩,(R.same sm).keep kp⟩⟩⟩⟩
   rintro σ G12 ⟨⟨v7,rfl⟩,R⟩
   have K12:=Kb.trans R
   have S12:=Sb.rk eb R
   refine⟨_,rfl,_,rfl,by show 2<=sizeLine;decide,λpa fa=>⟨_,rfl,by show 2<=sizeLine;decide,λpb fb=>⟨by show 2<=sizeLine;decide,λlt ft=>?_⟩⟩⟩
   have s1:=qm (o:=HO.tup [.str (qY (.num k)),.int (je (.num k):Nat)]) fa
   have s2:=qm (o:=HO.tup [.str (qY (.edl b)),.int (je (.edl b):Nat)]) fb
   have s3:=qm (o:=HO.lst [V.ref pa,.ref pb]) ft
   have T1:UG _ pa (.num k):=s3 _ _ (s2 _ _ qe)
   have T2:UG _ pb (.edl b):=s3 _ _ qe
   have hlt:=qe (a:=lt) (o:=HO.lst [V.ref pa,.ref pb]) (H:=qr (qr G12 pa (HO.tup [.str (qY (.num k)),.int (je (.num k):Nat)])) pb (HO.tup [.str (qY (.edl b)),.int (je (.edl b):Nat)]))
   have K13:=((K12.same s1).same s2).same s3
   obtain⟨n13,t13,e13⟩:=K13.2
   refine⟨_,rfl,d,2,n13,sd,t13,rfl,e13,by decide,by decide,λr7 n14 t14 a7 b7=>?_⟩
   obtain⟨pu,u,eu,hT,ok⟩:∃pu u,zZ [V.ref pa,.ref pb] r7=some (.ref pu)/\UG (qr (qr (qr G12 pa (HO.tup [.str (qY (.num k)),.int (je (.num k):Nat)])) pb (HO.tup [.str (qY (.edl b)),.int (je (.edl b):Nat)])) lt (HO.lst [V.ref pa,.ref pb])) pu u/\Vr u:=by
     rcases(show r7=0\/r7=1 by omega) with rfl | rfl
     . exact⟨pa,.num k,rfl,T1,hk⟩
     . exact⟨pb,.edl b,rfl,T2,hb⟩
   refine⟨lt,_,r7,_,rfl,rfl,.of (by rw[qg (jg e13 hlt (λ_ z=>nomatch z))];exact hlt),eu,pu,u,rfl,by unfold UG;rw[qg (jg e13 hT (λ_ z=>nomatch z))];exact hT,ok,λG15 s15=>?_⟩
   have K15:=(K13.take (n:=n14) (t:=t14)).same s15
   obtain⟨n15,t15,e15⟩:=K15.2
   refine⟨d,n15,sd,t15,Jd u,rfl,e15,Vw ok,λG16 z sk lz=>?_⟩
   have K16:=K15.trans sk.rk
   refine⟨_,rfl,z,rfl,by omega,λG17 s17 dn=>?_,λG17 p' u' s17 ht du=>?_⟩
   . have K17:=K16.same s17
     have hPz:=K17.1 _ _ hP (jg hd hP (λ_ z=>nomatch z)) (λ_ z=>nomatch z)
     refine⟨_,rfl,rfl,_,rfl,jm (decide_eq_true rfl) ⟨⟨tq,hPz⟩,λf fd G' sm nf clo=>⟨_,rfl,f,.str z,fd,PR,jT,ve,_,rfl,.inr (.inr ⟨.inl rfl,rfl⟩),clo,.inl ⟨z,rfl,by omega,dn⟩,⟨.inl ⟨z,rfl⟩,_,_,.str z,WO K⟩,λG'' kp=>q _ ((K17.same sm).keep kp)⟩⟩⟩
   . refine⟨_,rfl,rfl,_,rfl,ja (decide_eq_false λq=>nomatch q) ⟨_,rfl,.str z,rfl,.inl ⟨z,rfl,by omega,λu2 G18 a2 du2 s18 i18=>?_,λdn=>absurd du.2 (dn u' du.1)⟩⟩⟩
     have eu2:u2=u':=by
       have e:=du2.2.symm.trans du.2
       cases u2 with
       | num i=>
         cases u' with
         | num j=>rw[Q8 i du2.1 j du.1 e]
         | edl j=>exact absurd e (Q6 du2.1 (ju j))
       | edl i=>
         cases u' with
         | num j=>exact absurd e.symm (Q6 du.1 (ju i))
         | edl j=>
           have e2:=XI (ju i) (ju j) e
           have e3:=congrArg setN e2
           rw[JC (m:=16) du2.1,JC (m:=16) du.1]at e3
           rw[e3]
     subst eu2
     exact⟨_,rfl,a2,p',u2,rfl,i18,s18 _ _ ht,du2.1,λG19 s19=>q _ (((K16.same s17).same s18).same s19)⟩
end
end Rh
set_option Elab.async false
set_option linter.all false
set_option maxRecDepth 100000
set_option maxHeartbeats 4000000
/-! THE LAW k32. -/
namespace Rh
open PySem L2 PyProof.Rows Rb
theorem vA {K:PySem.W.Frag} {H H':Hp} {p d:Addr} {sd n t:Int} {xs:List V} (h:SqL K H p xs) (hd:H d=some (.dK (jf n sd t))) (r:Rk H d sd H'):SqL K H' p xs:=by
 rcases h with (h | ⟨o,h⟩) | h
 . exact .inl (.inl (r.1 _ _ h (jg hd h (λ_ z=>nomatch z)) (λ_ z=>nomatch z)))
 . exact .inl (.inr ⟨o,r.1 _ _ h (jg hd h (λ_ z=>nomatch z)) (λ_ z=>nomatch z)⟩)
 . exact .inr h
theorem XT:X1 (Str.ofString "") none:=λu hu e=>by
 have e:=congrArg Str.length e
 cases u with
 | num n=>
   have:∀n,n < 16->(Str.ofString "").length≠(jO n).length:=by decide+kernel
   exact this n hu e
 | edl b=>
   have h1:(ji (memN b 16)).length=Ze.length+(Str.join Str.empty (((memN b 16).map jO).map λy=>Str.ofString " "++y)).length:=by
     unfold ji
     rw[ZC,Str.length_append]
   have e7:Ze.length=7:=by decide+kernel
   have e0:(Str.ofString "").length=0:=by decide+kernel
   have e:(Str.ofString "").length=(ji (memN b 16)).length:=e
   omega
section
variable {P:Program} {w:World} {K:PySem.W.Frag} {mg:Str->Option Value} {base:Heap}
def Wv:Str:=(Str.ofString "law"++Str.ofString ".<locals>.")++Str.ofString "<lambda>"
def v3 (K:PySem.W.Frag) (PR PL:Addr):Sp:=λvs H Q _=>∃(a:Addr) (ns:List Int),vs=[.ref a]/\SqL K H a (ns.map V.int)/\ns.length<=63/\H PR=some (.tbl #[.str jT 0])/\H PL=some (.tbl #[.str Wv 0])/\∀H',Q (.bl true) H'
abbrev nLw:List Str:=["_law_script","_law_k","_law_thing"]
theorem UR:qu nLw ["_law_script"] (ql Zp):=⟨rfl,rfl,rfl,by decide+kernel,rfl,by decide+kernel,by decide+kernel⟩
theorem vb {f c PL cR PR fRt fL fO fT fM fX fD fS fI fF fR fNT fRE:Addr} {fd fdRt fdL fdO fdT fdM fdX fdD fdS fdI fdF fdR fdNT fdRE:FuncData} (F:jQ K "law" "law" Zp f fd) (hc:fd.code=.ref c) (TM:zo mg base c PL) (hRt:jB K mg "_law_right" jI ["_law_source_here"] fRt fdRt) (hcR:fdRt.code=.ref cR) (TR:zo mg base cR PR) (B:QA mg) (T:Wk K mg) (h:WF K mg) (Z:X0 K mg h) (ZE:Uk K mg h.D h.CX)
   (hO:jB K mg "_law_cell_at" YU ["_law_script","_law_k"] fO fdO) (hL:jB K mg "_law_source" JF ["_law_cell"] fL fdL) (hT:jB K mg "_law_take" Zv ["_law_source_here","_law_many"] fT fdT) (hM:jB K mg "_law_members" zE ["_law_bits"] fM fdM) (hX:jB K mg "_law_text" JZ ["_law_worth"] fX fdX) (hD:jB K mg "_law_due" Wr ["_law_text_here"] fD fdD) (hS:jB K mg "_law_spoilt" QW kt fS fdS) (hI:jB K mg "_law_is" ke ["_law_worth","_law_due_here"] fI fdI) (hF:jB K mg "_law_refused" Qf vG fF fdF)
   (hR:jB K mg "read_worth" QX ["text"] fR fdR) (hNT:jB K mg "number_texts" Yj [] fNT fdNT) (hRE:jB K mg "read_endless" Zw ["text"] fRE fdRE) (ls:mg "list"=none) (rv:mg "reversed"=none):qo P w K mg base qN 10 f fd ["_law_script"] (v3 K PR PL):=by
 have GO:qo P w K mg base qN 1 fO fdO ["_law_script","_law_k"] (Wl K):=VZ hO.fn B
 have GL:qo P w K mg base qN 1 fL fdL ["_law_cell"] zA:=Xv hL.fn B
 have GRt:qo P w K mg base qN 9 fRt fdRt ["_law_source_here"] (YH PR):=WC hRt.fn hcR TR B T h Z ZE hT hM hX hD hS hI hF hR hNT hRE ls rv
 have GR:qo P w K mg base (Qz P w) 6 fR fdR ["text"] (Ur h.CN h.CE h.CX K):=YZ hR.fn B T h hNT hRE
 have GF:qo P w K mg base qN 8 fF fdF vG (Wj K h.CX):=Jq hF.fn B T h hR GR ZE
 refine F.okL hc UR (λvs H Q E z=>?_) (λA outer s H vs Q E hr z=>?_)
 . obtain⟨a,ns,rfl,_⟩:=z
   rfl
 . obtain⟨a,ns,rfl,hq,hlen,hPR,hPL,q⟩:=z
   have r1:qI 1 _:=hr.mono (by decide)
   have r8:qI 8 _:=hr.mono (by decide)
   refine⟨_,qh (Ql PassesOwn.never rfl (jG (by rfl) B.rng (qd (qF (ZI rfl) (by rfl) B.max boot_max (qd qj (qd (qF (XW rfl) (by rfl) B.min boot_min (qd qj (qd (qF Ja (by rfl) B.len boot_len (qd (jv 0) qf)) qf))) qf))) qf))
       (qQ (i:=1) UR.nd rfl (Or.inl rfl)) (qi (qJ (jh (qZ (qR hRt GRt hr (by rfl) (qd (qR hL GL r1 (by rfl) (qd (qR hO GO r1 (by rfl) (qd (jv 0) (qd (jv 1) qf))) qf)) qf)))) qS qv)))
     (qh (Ql PassesOwn.never rfl (jS (jc (qd Jj (qd qj (qd QJ (qd (jc (qd qq qf)) (qd (jM (qd qq (qd qj qf))) (qd qq qf)))))))) (qQ (i:=2) UR.nd rfl (Or.inl rfl))
       (qi (qJ (jh (qZ (qR hF GF r8 (by rfl) (qd (zd (qual:=Wv) TM rfl rfl rfl) (qd (jv 2) qf))))) qS qv)))
     (qi (qt QJ))),?_⟩
   refine⟨_,rfl,a,_,rfl,.inl hq,_,_,rfl,_,_,rfl,?_⟩
   generalize hj:(if (if ((ns.map V.int).length:Int) < 30 then ((ns.map V.int).length:Int) else 30) > 1 then (if ((ns.map V.int).length:Int) < 30 then ((ns.map V.int).length:Int) else 30) else 1)=jj
   have jb:0<=jj/\jj<=30:=by subst hj;split<;>split<;>omega
   refine⟨jj,rfl,by omega,by omega,?_⟩
   refine Jl (λi σ H'=>∃v1,σ=[some (.ref a),v1,none]/\SqL K H' a (ns.map V.int)/\H' PR=some (.tbl #[.str jT 0])/\H' PL=some (.tbl #[.str Wv 0])) ⟨_,rfl,hq,hPR,hPL⟩ ?_ ?_
   . rintro i σ H' hi ⟨v1,rfl,hq2,hPR2,hPL2⟩
     refine⟨_,rfl,_,rfl,a,ns,_,rfl,hq2,by omega,λc0=>⟨c0,rfl,λd n sd hd=>?_⟩⟩
     have s3:=qm (o:=HO.dK (jf n sd 0)) hd
     have hd3:qr H' d (.dK (jf n sd 0)) d=some (.dK (jf n sd 0)):=qe
     generalize qr H' d (.dK (jf n sd 0))=H3 at s3 hd3
     refine⟨d,n,sd,0,rfl,hd3,⟨0,s3 _ _ hPR2⟩,λH4 rk=>⟨_,rfl,jq ⟨_,rfl,vA (hq2.keep s3.keep) hd3 rk,?_,?_⟩⟩⟩
     . exact rk.1 _ _ (s3 _ _ hPR2) (jg hd3 (s3 _ _ hPR2) (λ_ z=>nomatch z)) (λ_ z=>nomatch z)
     . exact rk.1 _ _ (s3 _ _ hPL2) (jg hd3 (s3 _ _ hPL2) (λ_ z=>nomatch z)) (λ_ z=>nomatch z)
   . rintro σ H' ⟨v1,rfl,hq2,hPR2,hPL2⟩
     refine⟨by show 1<=sizeLine;decide,λl1 f1=>⟨by show 2<=sizeLine;decide,λp1 f2=>⟨by show 6<=sizeLine;decide,λlf ff=>⟨lf,rfl,⟨_,.of qe⟩,?_⟩⟩⟩⟩
     have s1:=qm (o:=HO.lst [V.str (Str.ofString "3")]) f1
     have s2:=qm (o:=HO.tup [V.str (Str.ofString "number"),.int 3]) f2
     have s3:=qm (o:=HO.lst [V.non,.int 7,.bl true,.ref l1,.ref p1,.str (Str.ofString "")]) ff
     have h1:=s3 _ _ (s2 _ _ (qe (a:=l1) (o:=HO.lst [V.str (Str.ofString "3")]) (H:=H')))
     have h2:=s3 _ _ (qe (a:=p1) (o:=HO.tup [V.str (Str.ofString "number"),.int 3]) (H:=qr H' l1 (HO.lst [V.str (Str.ofString "3")])))
     have h3:=qe (a:=lf) (o:=HO.lst [V.non,.int 7,.bl true,.ref l1,.ref p1,.str (Str.ofString "")]) (H:=qr (qr H' l1 (HO.lst [V.str (Str.ofString "3")])) p1 (HO.tup [V.str (Str.ofString "number"),.int 3]))
     have hP:=s3 _ _ (s2 _ _ (s1 _ _ hPL2))
     generalize qr (qr (qr H' l1 (HO.lst [V.str (Str.ofString "3")])) p1 (HO.tup [V.str (Str.ofString "number"),.int 3])) lf (HO.lst [V.non,.int 7,.bl true,.ref l1,.ref p1,.str (Str.ofString "")])=G at h1 h2 h3 hP
     refine Q3 (K:=K) (a:=lf) (xs:=[V.non,.int 7,.bl true,.ref l1,.ref p1,.str (Str.ofString "")]) (λi σ G'=>(∃v2,σ=[some (.ref a),v1,v2])/\Qd G G') ⟨⟨none,rfl⟩,Qd.refl G⟩ (λi σ G' _ hG=>.of (hG.2 _ _ h3 (λ_ z=>nomatch z))) ?_ ?_
     . rintro i z σ G' hz ⟨⟨v2,rfl⟩,kp⟩
       have hPG:=kp _ _ hP (λ_ z=>nomatch z)
       have g1:=kp _ _ h1 (λ_ z=>nomatch z)
       have g2:=kp _ _ h2 (λ_ z=>nomatch z)
       have hzb:z7 K G' z/\Ul K G' z:=by
         have hm:z∈[V.non,.int 7,.bl true,.ref l1,.ref p1,.str (Str.ofString "")]:=List.mem_of_getElem? hz
         simp only[List.mem_cons,List.not_mem_nil,or_false]at hm
         rcases hm with rfl | rfl | rfl | rfl | rfl | rfl
         . exact⟨.inr ⟨_,.non,kH K⟩,(.inr ⟨.none,.non,by decide+kernel⟩),_,_,.non,Uy K⟩
         . exact⟨.inr ⟨_,.int _,kL K⟩,Qx _⟩
         . exact⟨.inr ⟨_,.bl _,kN K⟩,(.inr ⟨_,.bl _,by decide+kernel⟩),_,_,.bl _,WP K⟩
         . exact⟨.inr ⟨_,.lst g1,kJ K⟩,(.inr ⟨_,.lst (.of g1) (.cons (.str _) .nil),by decide+kernel⟩),_,_,.lst g1,Uz K⟩
         . exact⟨.inr ⟨_,.tup g2,kE K⟩,(.inr ⟨_,.tup (.of g2) (.cons (.str _) (.cons (.int _) .nil)),by decide+kernel⟩),_,_,.tup g2,Ux K⟩
         . exact⟨.inl ⟨_,rfl,by decide+kernel,XT⟩,(.inl ⟨_,rfl⟩),_,_,.str _,WO K⟩
       have hm:z7 K G' z:=hzb.1
       refine⟨⟨0,hPG⟩,λf fd G2 sm nf clo=>⟨_,rfl,f,z,fd,PL,Wv,vg,_,rfl,.inr (.inr ⟨.inr rfl,rfl⟩),clo,?_,hzb.2.keep sm.keep,λG3 kp3=>⟨_,rfl,jq ⟨⟨some z,rfl⟩,(kp.trans sm.keep).trans kp3⟩⟩⟩⟩
       rcases hm with hm | ⟨t,ty,e⟩
       . exact .inl hm
       . exact .inr ⟨t,Rh.TyOf.mono ty sm,e⟩
     . rintro σ G' ⟨⟨v2,rfl⟩,kp⟩
       exact q G'
end
end Rh
set_option Elab.async false
set_option linter.all false
set_option maxRecDepth 100000
set_option maxHeartbeats 4000000
namespace Rh
open PySem L2 PyProof.Rows Rb
theorem kss {K:PySem.W.Frag}:PySem.W.kitOne K (.type "str") (.type "str")=some true:=by kernel_rfl
theorem ktt {K:PySem.W.Frag}:PySem.W.kitOne K (.type "tuple") (.type "tuple")=some true:=by kernel_rfl
theorem kii {K:PySem.W.Frag}:PySem.W.kitOne K (.type "int") (.type "int")=some true:=by kernel_rfl
theorem kib {K:PySem.W.Frag}:PySem.W.kitOne K (.type "int") (.type "bool")=some false:=by kernel_rfl
theorem kbi {K:PySem.W.Frag}:PySem.W.kitOne K (.type "bool") (.type "int")=some true:=by kernel_rfl
theorem kbb {K:PySem.W.Frag}:PySem.W.kitOne K (.type "bool") (.type "bool")=some true:=by kernel_rfl
section
variable {K:PySem.W.Frag}
/-- a def as the head tells it -/
def MF (K:PySem.W.Frag) (n q:Str) (s:Stmt) (f:Addr):Prop:=∃fd,jQ K n q s f fd
theorem MF.mk' {x qual:Str} {st:Stmt} {f:Addr} {oc:Value} {od an:Option Addr} {osl:Array (Option Value)} {kV doc pm cdv ct:Value} (l:K.lookup f=some ⟨oc,od,.func (PySem.W.fnOf x qual (jt st) (qK st) (ql st) .none kV doc pm an cdv ct),osl⟩) (c:PySem.W.codeIn K cdv qual=true) (k:PySem.W.keepIn K (.ref f)=true):MF K x qual st f:=⟨_,zg l c k⟩
def HF (K:PySem.W.Frag) (n:Str) (s:Stmt) (f:Addr):Prop:=PySem.W.nsIn K mainGlobals n=some (some (.ref f))/\MF K n n s f
theorem HF.mk' {x:Str} {st:Stmt} {f:Addr} {oc:Value} {od an:Option Addr} {osl:Array (Option Value)} {kV doc pm cdv ct:Value} (a:PySem.W.nsIn K mainGlobals x=some (some (.ref f))) (l:K.lookup f=some ⟨oc,od,.func (PySem.W.fnOf x x (jt st) (qK st) (ql st) .none kV doc pm an cdv ct),osl⟩) (c:PySem.W.codeIn K cdv x=true) (k:PySem.W.keepIn K (.ref f)=true):HF K x st f:=⟨a,_,zg l c k⟩
theorem HF.has {h:Heap} {mg:Str->Option Value} {n:Str} {s:Stmt} {f:Addr} {ps:List Str} (l:HF K n s f) (X:K.In h) (G:h.Ns mainGlobals mg) (b:∀{fd},jQ K n n s f fd->qX K fd ps []):∃fd,jB K mg n s ps f fd:=let ⟨a,fd,F⟩:=l;⟨fd,F,PySem.W.mg_of X G a,b F⟩
end
def vX (es:Array DictEntry):Bool:=es.all λe=>match e.key with | .str _ _=>true | _=>false
theorem VD {es:Array DictEntry} (h:vX es=true):StrKeys es:=by
 intro e he
 have q:=Array.all_eq_true'.mp h e he
 revert q
 cases hk:e.key<;>intro q<;>first | exact⟨_,_,rfl⟩ | (dsimp only at q;cases q)
section
variable {K:PySem.W.Frag} {mg:Str->Option Value} {D C f:Addr} {x qual fld:Str} {st:Stmt}
theorem vv {h:Heap} {fd:FuncData} {nm q:Str} {N:Addr} {bs:List Value} {hdct:Bool} {sn:List Str} {sub:List Value} {ab:Bool} {col:Option Bool} {dd:Option Addr} {k0 k1 k2 k3 k5:Option Value}
   (X:K.In h) (G:h.Ns mainGlobals mg) (tl:∀h:Heap,K.In h->OwnTail h jw (.ref D::jw)) (F:jQ K "__init__" qual st f fd) (b:qX K fd ["self",fld] [])
   (a1:PySem.W.nsIn K mainGlobals x=some (some (.ref C)))
   (a2:K.lookup C=some (excClassObj nm q C N bs (.ref D::jw) hdct sn sub ab col dd k0 k1 k2 k3 k5 "ValueError.__new__"))
   (a3:PySem.W.findIn K (.ref C) "__init__"=some (some (.ref f))) (a4:PySem.W.isFn K (.ref f)=true) (a5:PySem.W.keepIn K (.ref C)=true)
   (a6:PySem.W.findIn K (.ref C) "__getattribute__"=some (some (.builtin "BaseException.__getattribute__"))) (a7:PySem.W.findIn K (.ref C) "__getattr__"=some none)
   (a8:PySem.W.findIn K (.ref C) "__setattr__"=some (some (.builtin "object.__setattr__"))) (a9:PySem.W.hasDictIn K C=true)
   (a10:PySem.W.mroIn K C (.type "BaseException")=some true) (a11:PySem.W.mroIn K C (.type "object")=some true)
   (a12:PySem.W.findIn K (.ref C) "__class__"=some (some (.builtin "object.__class__"))) (a13:PySem.W.findIn K (.ref C) fld=some none):vN K mg D x qual st fld C f fd:=
 ⟨⟨a6,a7,a8,a9,⟨_,by unfold PySem.W.clsIn;rw[a2],rfl⟩,a10,a11,a12⟩,⟨⟨nm,q,N,bs,hdct,sn,sub,ab,col,dd,k0,k1,k2,k3,k5,a2⟩,tl,a3,a4,a5⟩,PySem.W.mg_of X G a1,a13,F,b⟩
end
theorem at0 {a:Addr} {l:List Addr}:(a::l)[0]?=some a:=rfl
theorem at1 {a b:Addr} {l:List Addr}:(a::b::l)[1]?=some b:=rfl
/-- the law's promise,with its makers' tables -/
def Yf (K:PySem.W.Frag) (tabs:List z0):Sp:=λvs H Q _=>∃(a:Addr) (ns:List Int),vs=[.ref a]/\SqL K H a (ns.map V.int)/\ns.length<=63/\(∀t∈tabs,H t.P=some (.tbl #[.str t.q 0]))/\∀H',Q (.bl true) H'
theorem all_mk {l:PySem.W.OpenLaw} {w:World} {K:PySem.W.Frag} {h:Heap} {mg:Str->Option Value} {fa:Addr} (X:K.In h) (G:h.Ns mainGlobals mg) (hfa:mg "law"=some (.ref fa))
   {fO fL fT fM fX fD1 fS1 fI fF fR fNT fRE fW fB1 fS2 fN1 fO1 fCNi fCNT fCNS fCNO fCNE fCEi fCET fCES fCEO fCEE CNoWorth fNoWorth:Addr}
   {ts:List Addr} {fMK cMK PMK CW cML PML:Addr} {ocMK kVMK dcMK pmMK ctMK oc2MK oc2ML:Value} {odMK anMK od2MK od2ML:Option Addr} {slMK sl2MK sl2ML:Array (Option Value)} {vsMK vsML:Array Value}
   {fLAW:Addr} {odLAW anLAW:Option Addr} {slLAW:Array (Option Value)} {ocLAW kVLAW dcLAW pmLAW ctLAW:Value}
   {CN:Addr}
   {CE:Addr}
   {tm1:Tok}
   {tm2:Tok}
   {D:Addr} {nmHE qHE:Str} {NHE:Addr} {bsHE subHE:List Value} {hdctHE abHE:Bool} {snHE:List Str} {colHE:Option Bool} {ddHE:Option Addr} {kaHE kbHE kcHE kdHE keHE:Option Value} {oHN:Value} {dHN:Option Addr} {es:Array DictEntry} {ep:Nat} {slHN:Array (Option Value)}
   {nmNoWorth qNoWorth:Str} {NNoWorth:Addr} {bsNoWorth subNoWorth:List Value} {hdctNoWorth abNoWorth:Bool} {snNoWorth:List Str} {colNoWorth:Option Bool} {ddNoWorth:Option Addr} {kaNoWorth kbNoWorth kcNoWorth kdNoWorth keNoWorth:Option Value}
   (lO:HF K "_law_cell_at" YU fO)
   (lL:HF K "_law_source" JF fL)
   (lT:HF K "_law_take" Zv fT)
   (lM:HF K "_law_members" zE fM)
   (lX:HF K "_law_text" JZ fX)
   (lD1:HF K "_law_due" Wr fD1)
   (lS1:HF K "_law_spoilt" QW fS1)
   (lI:HF K "_law_is" ke fI)
   (lF:HF K "_law_refused" Qf fF)
   (lR:HF K "read_worth" QX fR)
   (lNT:HF K "number_texts" Yj fNT)
   (lRE:HF K "read_endless" Zw fRE)
   (lW:HF K "is_whole" j5 fW)
   (lB1:HF K "is_number" Qt fB1)
   (lS2:HF K "is_set" Jg fS2)
   (lN1:HF K "numbers_in" Z4 fN1)
   (lO1:HF K "set_of" Z3 fO1)
   (aLAW:PySem.W.nsIn K mainGlobals "law"=some (some (.ref fLAW)))
   (lLAW:K.lookup fLAW=some ⟨ocLAW,odLAW,.func (PySem.W.fnOf "law" "law" (jt Zp) (qK Zp) (ql Zp) .none kVLAW dcLAW pmLAW anLAW (.ref cML) ctLAW),slLAW⟩)
   (cLAW:PySem.W.codeIn K (.ref cML) "law"=true)
   (kLAW:PySem.W.keepIn K (.ref fLAW)=true)
   (nCN:PySem.W.nsIn K mainGlobals "Numbered"=some (some (.ref CN)))
   (pgCN:PySem.W.plainGet K CN Str.empty=true)
   (hdCN:PySem.W.hasDictIn K CN=true)
   (poCN:PySem.W.plainOver K CN=true)
   (saCN:PySem.W.findIn K (.ref CN) "__setattr__"=some (some (.builtin "object.__setattr__")))
   (mkCN:PySem.W.makesIn K CN=true)
   (inCN:PySem.W.findIn K (.ref CN) "__init__"=some (some (.ref fCNi)))
   (fiCN:PySem.W.isFn K (.ref fCNi)=true)
   (kcCN:PySem.W.keepIn K (.ref CN)=true)
   (naCN:PySem.W.findIn K (.ref CN) "number"=some none)
   (lCNi:MF K "__init__" "Numbered.__init__" J1 fCNi)
   (caCN:PySem.W.findIn K (.ref CN) "__class__"=some (some (.builtin "object.__class__")))
   (obCN:PySem.W.mroIn K CN (.type "object")=some true)
   (atCNT:PySem.W.findIn K (.ref CN) "told"=some (some (.ref fCNT)))
   (fnCNT:PySem.W.isFn K (.ref fCNT)=true)
   (lCNT:MF K "told" "Numbered.told" J0 fCNT)
   (atCNS:PySem.W.findIn K (.ref CN) "text"=some (some (.ref fCNS)))
   (fnCNS:PySem.W.isFn K (.ref fCNS)=true)
   (lCNS:MF K "text" "Numbered.text" Z5 fCNS)
   (atCNO:PySem.W.findIn K (.ref CN) "outcome"=some (some (.ref fCNO)))
   (fnCNO:PySem.W.isFn K (.ref fCNO)=true)
   (lCNO:MF K "outcome" "Numbered.outcome" YS fCNO)
   (atCNE:PySem.W.findIn K (.ref CN) "is_endless"=some (some (.ref fCNE)))
   (fnCNE:PySem.W.isFn K (.ref fCNE)=true)
   (lCNE:MF K "is_endless" "Numbered.is_endless" zD fCNE)
   (nCE:PySem.W.nsIn K mainGlobals "Endless"=some (some (.ref CE)))
   (pgCE:PySem.W.plainGet K CE Str.empty=true)
   (hdCE:PySem.W.hasDictIn K CE=true)
   (poCE:PySem.W.plainOver K CE=true)
   (saCE:PySem.W.findIn K (.ref CE) "__setattr__"=some (some (.builtin "object.__setattr__")))
   (mkCE:PySem.W.makesIn K CE=true)
   (inCE:PySem.W.findIn K (.ref CE) "__init__"=some (some (.ref fCEi)))
   (fiCE:PySem.W.isFn K (.ref fCEi)=true)
   (kcCE:PySem.W.keepIn K (.ref CE)=true)
   (naCE:PySem.W.findIn K (.ref CE) "bits"=some none)
   (lCEi:MF K "__init__" "Endless.__init__" J3 fCEi)
   (caCE:PySem.W.findIn K (.ref CE) "__class__"=some (some (.builtin "object.__class__")))
   (obCE:PySem.W.mroIn K CE (.type "object")=some true)
   (atCET:PySem.W.findIn K (.ref CE) "told"=some (some (.ref fCET)))
   (fnCET:PySem.W.isFn K (.ref fCET)=true)
   (lCET:MF K "told" "Endless.told" J2 fCET)
   (atCES:PySem.W.findIn K (.ref CE) "text"=some (some (.ref fCES)))
   (fnCES:PySem.W.isFn K (.ref fCES)=true)
   (lCES:MF K "text" "Endless.text" Z6 fCES)
   (atCEO:PySem.W.findIn K (.ref CE) "outcome"=some (some (.ref fCEO)))
   (fnCEO:PySem.W.isFn K (.ref fCEO)=true)
   (lCEO:MF K "outcome" "Endless.outcome" YT fCEO)
   (atCEE:PySem.W.findIn K (.ref CE) "is_endless"=some (some (.ref fCEE)))
   (fnCEE:PySem.W.isFn K (.ref fCEE)=true)
   (lCEE:MF K "is_endless" "Endless.is_endless" zF fCEE)
   (zlen:PySem.W.nsIn K mainGlobals "len"=some none)
   (zmax:PySem.W.nsIn K mainGlobals "max"=some none)
   (zmin:PySem.W.nsIn K mainGlobals "min"=some none)
   (zint:PySem.W.nsIn K mainGlobals "int"=some none)
   (zrange:PySem.W.nsIn K mainGlobals "range"=some none)
   (zisinstance:PySem.W.nsIn K mainGlobals "isinstance"=some none)
   (zbool:PySem.W.nsIn K mainGlobals "bool"=some none)
   (zstr:PySem.W.nsIn K mainGlobals "str"=some none)
   (zall:PySem.W.nsIn K mainGlobals "all"=some none)
   (ztuple:PySem.W.nsIn K mainGlobals "tuple"=some none)
   (zlist:PySem.W.nsIn K mainGlobals "list"=some none)
   (zreversed:PySem.W.nsIn K mainGlobals "reversed"=some none)
   (m1:PySem.W.nsIn K mainGlobals "MOST_NUMBER"=some (some (.int 15 tm1)))
   (m2:PySem.W.nsIn K mainGlobals "MOST_BITS"=some (some (.int 65535 tm2)))
   (aHE:PySem.W.nsIn K mainGlobals "HeapError"=some (some (.ref D)))
   (oHE:K.lookup D=some (excClassObj nmHE qHE D NHE bsHE jw hdctHE snHE subHE abHE colHE ddHE kaHE kbHE kcHE kdHE keHE "ValueError.__new__"))
   (nHE:K.lookup NHE=some ⟨oHN,dHN,.dict es ep,slHN⟩)
   (skHE:vX es=true)
   (niHE:nsFind es (Str.ofString "__init__")=none)
   (a1NoWorth:PySem.W.nsIn K mainGlobals "NoWorth"=some (some (.ref CNoWorth)))
   (a2NoWorth:K.lookup CNoWorth=some (excClassObj nmNoWorth qNoWorth CNoWorth NNoWorth bsNoWorth (.ref D::jw) hdctNoWorth snNoWorth subNoWorth abNoWorth colNoWorth ddNoWorth kaNoWorth kbNoWorth kcNoWorth kdNoWorth keNoWorth "ValueError.__new__"))
   (a3NoWorth:PySem.W.findIn K (.ref CNoWorth) "__init__"=some (some (.ref fNoWorth)))
   (a4NoWorth:PySem.W.isFn K (.ref fNoWorth)=true)
   (lNoWorth:MF K "__init__" "NoWorth.__init__" Qg fNoWorth)
   (a5NoWorth:PySem.W.keepIn K (.ref CNoWorth)=true)
   (a6NoWorth:PySem.W.findIn K (.ref CNoWorth) "__getattribute__"=some (some (.builtin "BaseException.__getattribute__")))
   (a7NoWorth:PySem.W.findIn K (.ref CNoWorth) "__getattr__"=some none)
   (a8NoWorth:PySem.W.findIn K (.ref CNoWorth) "__setattr__"=some (some (.builtin "object.__setattr__")))
   (a9NoWorth:PySem.W.hasDictIn K CNoWorth=true)
   (a10NoWorth:PySem.W.mroIn K CNoWorth (.type "BaseException")=some true)
   (a11NoWorth:PySem.W.mroIn K CNoWorth (.type "object")=some true)
   (a12NoWorth:PySem.W.findIn K (.ref CNoWorth) "__class__"=some (some (.builtin "object.__class__")))
   (a13NoWorth:PySem.W.findIn K (.ref CNoWorth) "found"=some none)
   (spc:PySem.W.specialIn K (.builtin "object.__class__") "__get__"=some (some (.builtin "getset_descriptor.__get__")))
   (tks:PySem.W.takesIn K (.builtin "object.__class__")=some true)
   (iMK:ts[0]?=some PMK)
   (aMK:PySem.W.nsIn K mainGlobals "_law_right"=some (some (.ref fMK)))
   (lMK:K.lookup fMK=some ⟨ocMK,odMK,.func (PySem.W.fnOf "_law_right" "_law_right" (jt jI) (qK jI) (ql jI) .none kVMK dcMK pmMK anMK (.ref cMK) ctMK),slMK⟩)
   (cdMK:PySem.W.codeIn K (.ref cMK) "_law_right"=true)
   (kMK:PySem.W.keepIn K (.ref fMK)=true)
   (tMK:K.lookup cMK=some ⟨oc2MK,od2MK,.fields vsMK,sl2MK⟩)
   (pMK:vsMK[11]?=some (.ref PMK))
   (hMKc:PySem.W.codeHdIn K cMK PMK=true)
   (iML:ts[1]?=some PML)
   (tML:K.lookup cML=some ⟨oc2ML,od2ML,.fields vsML,sl2ML⟩)
   (pML:vsML[11]?=some (.ref PML))
   (hMLc:PySem.W.codeHdIn K cML PML=true)
   (nCW:PySem.W.nsIn K mainGlobals "Worth"=some (some (.ref CW)))
   (nPT:PMK≠PML)
   (nCC:CN≠CE)
   (w1:PySem.W.kitOne K (.ref CN) (.ref CN)=some true)
   (w2:PySem.W.kitOne K (.ref CN) (.ref CE)=some false)
   (w3:PySem.W.kitOne K (.ref CN) (.ref CW)=some true)
   (w4:PySem.W.kitOne K (.ref CE) (.ref CN)=some false)
   (w5:PySem.W.kitOne K (.ref CE) (.ref CE)=some true)
   (w6:PySem.W.kitOne K (.ref CE) (.ref CW)=some true)
   (w7:PySem.W.kitOne K (.ref CNoWorth) (.ref CNoWorth)=some true)
   :
   ∃(tabs:List z0) (fd:FuncData),(tabs.map (·.P)).Nodup/\(∀t∈tabs,t.P∈ts/\PySem.W.codeHdIn K t.c t.P=true)/\(∀(s:Shared) (v:Value),BindsTo s fd ⟨[v],[]⟩ [("_law_script",v)])/\∀base:Heap,K.In base->base.Ns mainGlobals mg->(∀t∈tabs,zo mg base t.c t.P)->qo l.prog w K mg base qN 10 fa fd ["_law_script"] (Yf K tabs):=by
 have e:=hfa.symm.trans (PySem.W.mg_of X G aLAW)
 cases e
 obtain⟨_,hO⟩:=lO.has (ps:=["_law_script","_law_k"]) X G λF=>F.binds λ_ _ _ _ _ _ us hl=>by obtain⟨_,_,rfl⟩:=zM hl;rfl
 obtain⟨_,hL⟩:=lL.has (ps:=["_law_cell"]) X G λF=>F.binds λ_ _ _ _ _ _ us hl=>by obtain⟨_,rfl⟩:=jz hl;rfl
 obtain⟨_,hT⟩:=lT.has (ps:=["_law_source_here","_law_many"]) X G λF=>F.binds λ_ _ _ _ _ _ us hl=>by obtain⟨_,_,rfl⟩:=zM hl;rfl
 obtain⟨_,hM⟩:=lM.has (ps:=["_law_bits"]) X G λF=>F.binds λ_ _ _ _ _ _ us hl=>by obtain⟨_,rfl⟩:=jz hl;rfl
 obtain⟨_,hX⟩:=lX.has (ps:=["_law_worth"]) X G λF=>F.binds λ_ _ _ _ _ _ us hl=>by obtain⟨_,rfl⟩:=jz hl;rfl
 obtain⟨_,hD1⟩:=lD1.has (ps:=["_law_text_here"]) X G λF=>F.binds λ_ _ _ _ _ _ us hl=>by obtain⟨_,rfl⟩:=jz hl;rfl
 obtain⟨_,hS1⟩:=lS1.has (ps:=["_law_source_here","_law_text_here"]) X G λF=>F.binds λ_ _ _ _ _ _ us hl=>by obtain⟨_,_,rfl⟩:=zM hl;rfl
 obtain⟨_,hI⟩:=lI.has (ps:=["_law_worth","_law_due_here"]) X G λF=>F.binds λ_ _ _ _ _ _ us hl=>by obtain⟨_,_,rfl⟩:=zM hl;rfl
 obtain⟨_,hF⟩:=lF.has (ps:=["_law_make","_law_thing"]) X G λF=>F.binds λ_ _ _ _ _ _ us hl=>by obtain⟨_,_,rfl⟩:=zM hl;rfl
 obtain⟨_,hR⟩:=lR.has (ps:=["text"]) X G λF=>F.binds λ_ _ _ _ _ _ us hl=>by obtain⟨_,rfl⟩:=jz hl;rfl
 obtain⟨_,hNT⟩:=lNT.has (ps:=[]) X G λF=>F.binds λ_ _ _ _ _ _ us hl=>by obtain rfl:=kD hl;rfl
 obtain⟨_,hRE⟩:=lRE.has (ps:=["text"]) X G λF=>F.binds λ_ _ _ _ _ _ us hl=>by obtain⟨_,rfl⟩:=jz hl;rfl
 obtain⟨_,hW⟩:=lW.has (ps:=["thing"]) X G λF=>F.binds λ_ _ _ _ _ _ us hl=>by obtain⟨_,rfl⟩:=jz hl;rfl
 obtain⟨_,hB1⟩:=lB1.has (ps:=["thing"]) X G λF=>F.binds λ_ _ _ _ _ _ us hl=>by obtain⟨_,rfl⟩:=jz hl;rfl
 obtain⟨_,hS2⟩:=lS2.has (ps:=["thing"]) X G λF=>F.binds λ_ _ _ _ _ _ us hl=>by obtain⟨_,rfl⟩:=jz hl;rfl
 obtain⟨_,hN1⟩:=lN1.has (ps:=["bits"]) X G λF=>F.binds λ_ _ _ _ _ _ us hl=>by obtain⟨_,rfl⟩:=jz hl;rfl
 obtain⟨_,hO1⟩:=lO1.has (ps:=["numbers"]) X G λF=>F.binds λ_ _ _ _ _ _ us hl=>by obtain⟨_,rfl⟩:=jz hl;rfl
 have FLAW:=zg (st:=Zp) lLAW cLAW kLAW
 obtain⟨_,FiCN⟩:=lCNi
 have clCN:Cl K mg "Numbered" "Numbered.__init__" "number" J1 CN fCNi _:=⟨⟨pgCN,hdCN,poCN,saCN⟩,⟨mkCN,inCN,fiCN,kcCN⟩,PySem.W.mg_of X G nCN,naCN,FiCN,FiCN.binds (ps:=["self","number"]) λ_ _ _ _ _ _ us hl=>by obtain⟨_,_,rfl⟩:=zM hl;rfl,caCN,obCN⟩
 obtain⟨_,FCNT⟩:=lCNT
 have mCNT:z4 K CN "told" "Numbered.told" J0 ["self"] fCNT _:=⟨FCNT,⟨atCNT,fnCNT,FCNT.kp⟩,FCNT.binds (ps:=["self"]) λ_ _ _ _ _ _ us hl=>by obtain⟨_,rfl⟩:=jz hl;rfl⟩
 obtain⟨_,FCNS⟩:=lCNS
 have mCNS:z4 K CN "text" "Numbered.text" Z5 ["self"] fCNS _:=⟨FCNS,⟨atCNS,fnCNS,FCNS.kp⟩,FCNS.binds (ps:=["self"]) λ_ _ _ _ _ _ us hl=>by obtain⟨_,rfl⟩:=jz hl;rfl⟩
 obtain⟨_,FCNO⟩:=lCNO
 have mCNO:z4 K CN "outcome" "Numbered.outcome" YS ["self"] fCNO _:=⟨FCNO,⟨atCNO,fnCNO,FCNO.kp⟩,FCNO.binds (ps:=["self"]) λ_ _ _ _ _ _ us hl=>by obtain⟨_,rfl⟩:=jz hl;rfl⟩
 obtain⟨_,FCNE⟩:=lCNE
 have mCNE:z4 K CN "is_endless" "Numbered.is_endless" zD ["self"] fCNE _:=⟨FCNE,⟨atCNE,fnCNE,FCNE.kp⟩,FCNE.binds (ps:=["self"]) λ_ _ _ _ _ _ us hl=>by obtain⟨_,rfl⟩:=jz hl;rfl⟩
 obtain⟨_,FiCE⟩:=lCEi
 have clCE:Cl K mg "Endless" "Endless.__init__" "bits" J3 CE fCEi _:=⟨⟨pgCE,hdCE,poCE,saCE⟩,⟨mkCE,inCE,fiCE,kcCE⟩,PySem.W.mg_of X G nCE,naCE,FiCE,FiCE.binds (ps:=["self","bits"]) λ_ _ _ _ _ _ us hl=>by obtain⟨_,_,rfl⟩:=zM hl;rfl,caCE,obCE⟩
 obtain⟨_,FCET⟩:=lCET
 have mCET:z4 K CE "told" "Endless.told" J2 ["self"] fCET _:=⟨FCET,⟨atCET,fnCET,FCET.kp⟩,FCET.binds (ps:=["self"]) λ_ _ _ _ _ _ us hl=>by obtain⟨_,rfl⟩:=jz hl;rfl⟩
 obtain⟨_,FCES⟩:=lCES
 have mCES:z4 K CE "text" "Endless.text" Z6 ["self"] fCES _:=⟨FCES,⟨atCES,fnCES,FCES.kp⟩,FCES.binds (ps:=["self"]) λ_ _ _ _ _ _ us hl=>by obtain⟨_,rfl⟩:=jz hl;rfl⟩
 obtain⟨_,FCEO⟩:=lCEO
 have mCEO:z4 K CE "outcome" "Endless.outcome" YT ["self"] fCEO _:=⟨FCEO,⟨atCEO,fnCEO,FCEO.kp⟩,FCEO.binds (ps:=["self"]) λ_ _ _ _ _ _ us hl=>by obtain⟨_,rfl⟩:=jz hl;rfl⟩
 obtain⟨_,FCEE⟩:=lCEE
 have mCEE:z4 K CE "is_endless" "Endless.is_endless" zF ["self"] fCEE _:=⟨FCEE,⟨atCEE,fnCEE,FCEE.kp⟩,FCEE.binds (ps:=["self"]) λ_ _ _ _ _ _ us hl=>by obtain⟨_,rfl⟩:=jz hl;rfl⟩
 have tl:∀h:Heap,K.In h->OwnTail h jw (.ref D::jw):=λh X=>.own (X _ _ oHE) ⟨_,es,ep,X _ _ nHE,rfl,VD skHE,λ_=>rfl⟩ niHE .base
 have ccD:Um K D:=⟨jw,⟨_,_,_,_,_,_,_,_,_,_,_,_,_,_,_,oHE⟩,rfl⟩
 obtain⟨_,FNoWorth⟩:=lNoWorth
 have xNoWorth:vN K mg D "NoWorth" "NoWorth.__init__" Qg "found" CNoWorth fNoWorth _:=vv X G tl FNoWorth (FNoWorth.binds (ps:=["self","found"]) λ_ _ _ _ _ _ us hl=>by obtain⟨_,_,rfl⟩:=zM hl;rfl) a1NoWorth a2NoWorth a3NoWorth a4NoWorth a5NoWorth a6NoWorth a7NoWorth a8NoWorth a9NoWorth a10NoWorth a11NoWorth a12NoWorth a13NoWorth
 have B:QA mg:=⟨PySem.W.mg_none_of X G zlen,PySem.W.mg_none_of X G zmax,PySem.W.mg_none_of X G zmin,PySem.W.mg_none_of X G zint,PySem.W.mg_none_of X G zrange⟩
 have T:Wk K mg:=⟨PySem.W.mg_none_of X G zisinstance,PySem.W.mg_none_of X G zbool,kii,kib,⟨_,PySem.W.mg_of X G m1⟩,⟨_,PySem.W.mg_of X G m2⟩⟩
 have FMK:=zg (st:=jI) lMK cdMK kMK
 have hMK:jB K mg "_law_right" jI ["_law_source_here"] fMK _:=⟨FMK,PySem.W.mg_of X G aMK,FMK.binds (ps:=["_law_source_here"]) λ_ _ _ _ _ _ us hl=>by obtain⟨_,rfl⟩:=jz hl;rfl⟩
 let W:WF K mg:=⟨CN,CE,CW,CNoWorth,D,fCNi,fCEi,fNoWorth,fCNT,fCET,fCNS,fCES,fCNO,fCEO,fCNE,fCEE,fW,fB1,fS2,fN1,fO1,_,_,_,_,_,_,_,_,_,_,_,_,_,_,_,_,nCC,clCN,clCE,xNoWorth,mCNT,mCET,mCNS,mCES,mCNO,mCEO,mCNE,mCEE,hW,hB1,hS2,hN1,hO1,PySem.W.mg_none_of X G zstr,PySem.W.mg_none_of X G zall,kbi,kbb,kss⟩
 refine⟨[⟨"_law_right",cMK,PMK,jT⟩,⟨"law",cML,PML,Wv⟩],PySem.W.fnOf "law" "law" (jt Zp) (qK Zp) (ql Zp) .none kVLAW dcLAW pmLAW anLAW (.ref cML) ctLAW,List.nodup_cons.mpr ⟨λz=>nPT (List.mem_singleton.mp z),List.nodup_cons.mpr ⟨List.not_mem_nil,List.nodup_nil⟩⟩,λt ht=>?_,λs v=>.of_eq rfl,λbase _ _ hTM=>?_⟩
 . rcases List.mem_cons.mp ht with e | e
   . rw[e];exact⟨List.mem_of_getElem? iMK,hMKc⟩
   . rw[List.mem_singleton.mp e];exact⟨List.mem_of_getElem? iML,hMLc⟩
 . have ZW:X0 K mg W:=⟨PySem.W.mg_of X G nCW,w1,w2,w3,w4,w5,w6,PySem.W.mg_none_of X G ztuple,ktt,spc,tks⟩
   have ZE:Uk K mg W.D W.CX:=⟨PySem.W.mg_of X G aHE,ccD,w7,spc,tks⟩
   exact(vb (PL:=PML) (PR:=PMK) FLAW rfl (hTM _ (List.mem_cons_of_mem _ List.mem_cons_self)) hMK rfl (hTM _ List.mem_cons_self) B T W ZW ZE hO hL hT hM hX hD1 hS1 hI hF hR hNT hRE (PySem.W.mg_none_of X G zlist) (PySem.W.mg_none_of X G zreversed)).imp λvs H Q E z=>let ⟨a,ns,e,h1,h2,h3,h4⟩:=z;⟨a,ns,e,h1,h2,h3 _ List.mem_cons_self,h3 _ (List.mem_cons_of_mem _ List.mem_cons_self),h4⟩
theorem walk {l:PySem.W.OpenLaw} {q:Program} {loose:List Str} {XP:(Str->Option Value)->Heap->Prop} {YP:World->Heap->Prop} {d:DefRec} {K:Params->PySem.W.Frag} {ts:List Addr} (hn:l.most=some 63) (hdf:d.params.defaults=[])
   (hY:∀(w:World) (h:Heap),YP w h->(K w.params).In h) (hTs:∀(w:World) (h:Heap),YP w h->∀P∈ts,h.get? P=some (PySem.W.tabObj #[])) (hnt:∀w:World,PySem.W.noTabs (K w.params)=true)
   (F:∀(w:World) (mg:Str->Option Value) (fa:Addr) (h:Heap),(K w.params).In h->h.Ns mainGlobals mg->mg d.name=some (.ref fa)->
     ∃(tabs:List z0) (fd:FuncData),(tabs.map (·.P)).Nodup/\(∀t∈tabs,t.P∈ts/\PySem.W.codeHdIn (K w.params) t.c t.P=true)/\(∀(s:Shared) (v:Value),BindsTo s fd ⟨[v],[]⟩ [("_law_script",v)])/\∀base:Heap,(K w.params).In base->base.Ns mainGlobals mg->(∀t∈tabs,zo mg base t.c t.P)->qo l.prog w (K w.params) mg base qN 10 fa fd ["_law_script"] (Yf (K w.params) tabs)):
   PySem.W.WalkO q loose XP YP l.row.toRowW d [] (λf vs=>PySem.call f vs):=
 L2.walk_ofT (n:=63) (k:=10) (x:="_law_script") (sp:=λK tabs=>Yf K tabs) hn (by decide) hdf ⟨rfl,by decide,by decide,rfl⟩ hY hTs hnt F (λ_ _ _ a ns hl hS hP=>⟨a,ns,rfl,hS,hl,hP,λ_=>rfl⟩)
end Rh
open PySem PySem.W PyProof.Rows
def PySem.W.Fast.tw18245617408183566021 : Unit := ()
def PySem.W.Fast.tw861502493610598483 : Unit := ()
def PySem.W.Fast.tw8043852737389195627 : Unit := ()
def PySem.W.Fast.tw1831729633985795129 : Unit := ()
def PySem.W.Fast.tw8021938820041103671 : Unit := ()
def PySem.W.Fast.tw4244922878905308065 : Unit := ()
def PySem.W.Fast.tw7774113678449685934 : Unit := ()
def PySem.W.Fast.tw17284588472162393981 : Unit := ()
def PySem.W.Fast.tw3998647374267775353 : Unit := ()
def PySem.W.Fast.tw4924870960704170253 : Unit := ()
def PySem.W.Fast.tw12701470058032328615 : Unit := ()
def PySem.W.Fast.tw8726500145642417389 : Unit := ()
def PySem.W.Fast.tw3475869608268796686 : Unit := ()
def PySem.W.Fast.tw17590705303994421779 : Unit := ()
def PySem.W.Fast.tw10879749546641988924 : Unit := ()
def PySem.W.Fast.tw12297992134047619483 : Unit := ()
def PySem.W.Fast.tw1532491051758110099 : Unit := ()
def PySem.W.Fast.tw5667099127317398114 : Unit := ()
def PySem.W.Fast.tw16248296213531012650 : Unit := ()
def PySem.W.Fast.tw13053770412826190925 : Unit := ()
def PySem.W.Fast.tw17710873009340938204 : Unit := ()
def PySem.W.Fast.tw15621415185263527259 : Unit := ()
def PySem.W.Fast.tw17974506094581304612 : Unit := ()
def PySem.W.Fast.tw16615150188913437886 : Unit := ()
def PySem.W.Fast.tw443766864951011646 : Unit := ()
def PySem.W.Fast.tw13956191218907399338 : Unit := ()
def PySem.W.Fast.tw4436474186459923750 : Unit := ()
def PySem.W.Fast.tw1205274952441263945 : Unit := ()
def PySem.W.Fast.tw3681537716864247207 : Unit := ()
def PySem.W.Fast.tw13913613514976480042 : Unit := ()
def PySem.W.Fast.tw11524677903986383763 : Unit := ()
def PySem.W.Fast.tw17351735930882485243 : Unit := ()
def PySem.W.Fast.tw5101696844757716304 : Unit := ()
def PySem.W.Fast.tw16756451883985382160 : Unit := ()
def PySem.W.Fast.tw3641951560692057861 : Unit := ()
def PySem.W.Fast.tw3279707945734824090 : Unit := ()
def PySem.W.Fast.tw4971374062829452455 : Unit := ()
def PySem.W.Fast.tw10910644110388302437 : Unit := ()
def PySem.W.Fast.tw8997383693586321770 : Unit := ()
def PySem.W.Fast.tw1979317910248211280 : Unit := ()
def PySem.W.Fast.tw12917704675397863716 : Unit := ()
def PySem.W.Fast.tw4321966507151631593 : Unit := ()
def PySem.W.Fast.tw2080317491765294665 : Unit := ()
def PySem.W.Fast.tw4171853373547519906 : Unit := ()
def PySem.W.Fast.tw1972164579936704799 : Unit := ()
def PySem.W.Fast.tw10295913840692754127 : Unit := ()
def PySem.W.Fast.tw14904681115217272601 : Unit := ()
def PySem.W.Fast.tw18101783494082082527 : Unit := ()
def PySem.W.Fast.tw3308634892276815127 : Unit := ()
def PySem.W.Fast.tw14842496431369740429 : Unit := ()
def PySem.W.Fast.tw13034982811429478159 : Unit := ()
def PySem.W.Fast.tw15254633091992210921 : Unit := ()
def PySem.W.Fast.tw6798380500665416597 : Unit := ()
def PySem.W.Fast.tw7322748291113730364 : Unit := ()
def PySem.W.Fast.tw5072417060200589145 : Unit := ()
def PySem.W.Fast.tw13622603851894308203 : Unit := ()
def PySem.W.Fast.tw4075453323654395381 : Unit := ()
def PySem.W.Fast.tw2570914705882880060 : Unit := ()
def PySem.W.Fast.tw5832305185047221409 : Unit := ()
def PySem.W.Fast.tw8219003486749837733 : Unit := ()
def PySem.W.Fast.tw16682895059504647277 : Unit := ()
def PySem.W.Fast.tw12903330217458380548 : Unit := ()
def PySem.W.Fast.tw1840220198017710270 : Unit := ()
def PySem.W.Fast.tw12887044766017154078 : Unit := ()
def PySem.W.Fast.tw2107523057676978006 : Unit := ()
def PySem.W.Fast.tw7867829370405329436 : Unit := ()
def PySem.W.Fast.tw16919654943277366748 : Unit := ()
def PySem.W.Fast.tw6522051377940421278 : Unit := ()
def PySem.W.Fast.tw4547051000311932777 : Unit := ()
def PySem.W.Fast.tw8159993647027272844 : Unit := ()
def PySem.W.Fast.tw6822071536725586909 : Unit := ()
def PySem.W.Fast.tw1708089923452030704 : Unit := ()
def PySem.W.Fast.tw11429584451438056573 : Unit := ()
def PySem.W.Fast.tw3215387988796971590 : Unit := ()
def PySem.W.Fast.tw10294118229990073760 : Unit := ()
def PySem.W.Fast.tw13769103115541136327 : Unit := ()
def PySem.W.Fast.tw2403389108928632939 : Unit := ()
def PySem.W.Fast.tw5217270863462422736 : Unit := ()
def PySem.W.Fast.tw9689729476882780088 : Unit := ()
def PySem.W.Fast.tw14172470266813156586 : Unit := ()
def PySem.W.Fast.tw6968137755033780318 : Unit := ()
def PySem.W.Fast.tw8912161614967838395 : Unit := ()
def PySem.W.Fast.tw16279288168775177219 : Unit := ()
def PySem.W.Fast.tw1383625962624193546 : Unit := ()
set_option maxRecDepth 100000
set_option maxHeartbeats 0
open_top hd for PySem.Challenge.rw_ringheaps_k32_worths_told_and_read
set_option maxRecDepth 100000 in
set_option maxHeartbeats 0 in
theorem PySem.Challenge.cw_ringheaps_k32_worths_told_and_read_holds : PySem.Challenge.rw_ringheaps_k32_worths_told_and_read.Holds := by
 refine hd ?_
 k_fill
 refine Rh.walk (l:=PySem.Challenge.rw_ringheaps_k32_worths_told_and_read) rfl rfl (λw h Y=>PySem.W.km_in_of Y) (λw h Y=>PySem.W.km_tabs_of Y) ?hnt ?F
 case hnt=>exact λw=>by kernel_rfl
 case F=>
   intro w mg fa h KX G hmg
   refine' Rh.all_mk KX G hmg ?_ ?_ ?_ ?_ ?_ ?_ ?_ ?_ ?_ ?_ ?_ ?_ ?_ ?_ ?_ ?_ ?_ ?_ ?_ ?_ ?_ ?_ ?_ ?_ ?_ ?_ ?_ ?_ ?_ ?_ ?_ ?_ ?_ ?_ ?_ ?_ ?_ ?_ ?_ ?_ ?_ ?_ ?_ ?_ ?_ ?_ ?_ ?_ ?_ ?_ ?_ ?_ ?_ ?_ ?_ ?_ ?_ ?_ ?_ ?_ ?_ ?_ ?_ ?_ ?_ ?_ ?_ ?_ ?_ ?_ ?_ ?_ ?_ ?_ ?_ ?_ ?_ ?_ ?_ ?_ ?_ ?_ ?_ ?_ ?_ ?_ ?_ ?_ ?_ ?_ ?_ ?_ ?_ ?_ ?_ ?_ ?_ ?_ ?_ ?_ ?_ ?_ ?_ ?_ ?_ ?_ ?_ ?_ ?_ ?_ ?_ ?_ ?_ ?_ ?_ ?_ ?_ ?_ ?_ ?_ ?_ ?_ ?_ ?_ ?_ ?_ ?_ ?_
   any_goals first | exact Rh.at0 | exact Rh.at1 | (apply Rh.HF.mk'<;>k_is) | (apply Rh.MF.mk'<;>k_is) | k_is | kernel_rfl | rfl | decide
